/- The sort of ranges by their starts. No conditions but those of each theorem. -/
import Derived.Test.YtgfdmeaganhpiaaE
import Derived.Shelf.SlSortCmp.WholeK
import Derived.Shelf.Small.Bits
import Derived.Shelf.Lay
import Derived.Ground.SlsfProg
import Derived.Ground.NamesProg
namespace Go.Proofs.Ytgfdmeaganhpiaa.Old
open Go.ChangeShapes Go.WideShapes Go.ChangeAt Go.RowKit Go.Shelf Go.Lib Go.Sort
set_option linter.unusedVariables false
set_option linter.unusedSimpArgs false
shelf_lay_g SlLaysF0.n6 Slsf 6 at Try 45 as Try.sortR
shelf_lay Lays.n125 Nm 125 at Try as Try.bitsLen

/-- a range's two cells -/
def encR (x : Rn) : List Value := [.int .i64 x.1, .int .i64 x.2]
/-- 'cmp.Compare' of two starts -/
def cmpS (x y : Rn) : Int := if x.1 < y.1 then -1 else if y.1 < x.1 then 1 else 0

theorem nan_no (x : Int) (W : World) : Calls Try.prog 51 #[.int .i64 x] W fun e w' => e = .returned (.bool false) ∧ w' = W := by
  go_enter Try.func51, Try.ntmps51
  go_wp2_with fail
  go_ret
  exact ⟨by simp, rfl⟩
theorem cmp_any (x y : Int) (W : World) : Calls Try.prog 47 #[.int .i64 x, .int .i64 y] W fun e w' => e = .returned (.int .i64 (if x < y then -1 else if y < x then 1 else 0)) ∧ w' = W := by
  have HN := hid nan_no
  by_cases h1 : x < y
  · rw [if_pos h1]
    go_enter Try.func47, Try.ntmps47
    go_wp2_with fail
    refine (HN.out x _).mono ?_
    rintro e w1 ⟨rfl, rfl⟩
    go_wp2_with fail
    refine (HN.out y _).mono ?_
    rintro e w1 ⟨rfl, rfl⟩
    go_wp2_with fail
    go_ret
    exact ⟨rfl, rfl⟩
  · rw [if_neg h1]
    by_cases h2 : y < x
    · rw [if_pos h2]
      go_enter Try.func47, Try.ntmps47
      go_wp2_with fail
      refine (HN.out x _).mono ?_
      rintro e w1 ⟨rfl, rfl⟩
      go_wp2_with fail
      refine (HN.out y _).mono ?_
      rintro e w1 ⟨rfl, rfl⟩
      go_wp2_with fail
      go_ret
      exact ⟨rfl, rfl⟩
    · rw [if_neg h2]
      go_enter Try.func47, Try.ntmps47
      go_wp2_with fail
      refine (HN.out x _).mono ?_
      rintro e w1 ⟨rfl, rfl⟩
      go_wp2_with fail
      refine (HN.out y _).mono ?_
      rintro e w1 ⟨rfl, rfl⟩
      go_wp2_with fail
      go_ret
      exact ⟨rfl, rfl⟩
theorem closure46 (x y : Rn) (W : World) : Calls Try.prog 46 #[.agg #[.int .i64 x.1, .int .i64 x.2], .agg #[.int .i64 y.1, .int .i64 y.2]] W fun e w' => e = .returned (.int .i64 (cmpS x y)) ∧ ∃ q os', w' = grow (W.drewN q) os' := by
  have hcon := hid (fun W' => cmp_any x.1 y.1 W')
  obtain ⟨r, hr⟩ : ∃ r, r = cmpS x y := ⟨_, rfl⟩
  rw [← hr]
  have HR := hid (show (if x.1 < y.1 then (-1 : Int) else if y.1 < x.1 then 1 else 0) = r from hr.symm)
  rw [HR.out] at hcon
  clear hr
  go_enter Try.func46, Try.ntmps46
  go_wp2_with fail
  refine (hcon.out _).mono ?_
  rintro e w1 ⟨rfl, rfl⟩
  go_wp2_with fail
  go_ret
  exact ⟨rfl, 0, _, by rw [alloc_eq_grow, alloc_eq_grow, grow_grow]; rfl⟩
theorem cmpLays46 (blk off size : Nat) (w : World) : CmpLays Try.prog 46 #[] encR 2 cmpS blk off size w :=
  fun _ _ _ _ x y => closure46 x y _
theorem ltS (x y : Rn) : ltOf cmpS x y = decide (x.1 < y.1) := by
  unfold ltOf cmpS
  by_cases h1 : x.1 < y.1
  · simp [h1]
  · by_cases h2 : y.1 < x.1 <;> simp [h1, h2]
theorem swoS : SWO (ltOf cmpS) where
  irrefl x := by rw [ltS]; simp
  trans x y z h1 h2 := by rw [ltS] at *; simp at *; omega
  ntrans x y z h1 h2 := by rw [ltS] at *; simp at *; omega

theorem holds_of {w : World} {g n : Nat} {rs : List Rn} (hl : rs.length = n) (h : ∀ j, j < n → w.cell? ⟨g, j * 2, none⟩ = some (.int .i64 (rs[j]?.getD (0, 0)).1) ∧ w.cell? ⟨g, j * 2 + 1, none⟩ = some (.int .i64 (rs[j]?.getD (0, 0)).2)) (hf : ∀ j, w.frozen? ⟨g, j, none⟩ = false) : HoldsK encR 2 w g 0 rs.toArray := by
  intro t ht
  rw [size_flatK] at ht
  refine ⟨?_, by rw [Nat.zero_add]; exact hf t⟩
  rw [get_flatK _ _ _ t ht, Nat.zero_add]
  have hq : t / 2 < n := by simp at ht; omega
  have e : rs.toArray[t / 2]! = rs[t / 2]?.getD (0, 0) := by
    rw [List.getElem?_eq_getElem (by omega)]
    simp [hl, hq]
  rw [e]
  have hc := h (t / 2) hq
  rcases Nat.mod_two_eq_zero_or_one t with h0 | h0
  · rw [h0, show t = t / 2 * 2 by omega, Nat.mul_div_cancel _ (by omega)]
    exact hc.1
  · rw [h0, show t = t / 2 * 2 + 1 by omega, show (t / 2 * 2 + 1) / 2 = t / 2 by omega]
    exact hc.2
theorem putK_grown (w : World) (g n : Nat) (d : Array Rn) (os : Array Obj) : w.grownBy (sortWorldK encR 2 w g 0 n d os) (some g) := by
  refine ⟨rfl, rfl, rfl, ?_, fun k hk hne => ?_⟩
  · simp [sortWorldK, grow, putRowK, putRow, mapBlock, Go.Sort.ahead]
  · have hne2 : ¬ g = k := fun e => hne (by rw [e])
    have : k < (putRowK encR 2 (Go.Sort.ahead w n) g 0 d).heap.size := by simpa [putRowK, putRow, mapBlock, Go.Sort.ahead] using hk
    rw [sortWorldK, heap_grow_old _ _ this]
    simp [putRowK, putRow, mapBlock, Go.Sort.ahead, Array.getElem?_modify, hne2]

theorem sort_any (base g cap : Nat) (rs : List Rn) (hbig : rs.length ≤ 1000000) (w : World) (hown : w.ownsRow base 42 2 (.slice (some ⟨g, 0, none⟩) rs.length cap) rs.length (vr rs)) :
    Calls Try.prog 45 #[.slice (some ⟨g, 0, none⟩) rs.length cap, .func (.func 46) #[] #[]] w fun e w' => e = .returned (.tuple #[]) ∧ ∃ ds : List Rn, ds.Perm rs ∧ ds.Pairwise (fun x y => x.1 ≤ y.1) ∧ Hid (w.grownBy w' (some g) ∧ ∀ j, j < rs.length → w'.cell? ⟨g, j * 2, none⟩ = some (.int .i64 (ds[j]?.getD (0, 0)).1) ∧ w'.cell? ⟨g, j * 2 + 1, none⟩ = some (.int .i64 (ds[j]?.getD (0, 0)).2)) := by
  have eg : ∀ args w, (callFunc 46 args).run Try.prog w = .ok (.enter 46 args) w := enters_of Try.func46 (by kernel_rfl) rfl
  have hlt : g < w.heap.size := own_lt hown g rfl
  have hH : HoldsK encR 2 w g 0 rs.toArray := by
    by_cases h0 : rs.length = 0
    · intro t ht
      rw [size_flatK] at ht
      simp [h0] at ht
    · obtain ⟨g', e, _, _, hc, hf⟩ := own_cells hown (by omega)
      simp only [Option.some.injEq, Addr.mk.injEq, and_true] at e
      subst e
      exact holds_of rfl hc hf
  have hcon := AnyQ.slices_SortFunc Try.sortR 2 Try.isAgg42 Try.sizeOf42 encR (fun _ => rfl) (fun x v hv => by simp [encR] at hv; rcases hv with rfl | rfl <;> rfl) cmpS swoS 46 #[] g 0 cap rs.toArray w eg (cmpLays46 g 0 rs.toArray.size w) hH hlt (by simp; omega)
  rw [List.size_toArray] at hcon
  refine hcon.mono ?_
  rintro e w' ⟨rfl, d', n, os, ⟨hs, _, hp⟩, hso, rfl⟩
  simp only [List.size_toArray] at hs hp
  have e1 : d'.extract 0 rs.length = d' := by rw [← hs]; simp
  have e2 : rs.toArray.extract 0 rs.length = rs.toArray := by simp
  rw [e1, e2] at hp
  refine ⟨rfl, d'.toList, by simpa using hp, ?_, hid ⟨putK_grown w g n d' os, fun j hj => ?_⟩⟩
  · rw [List.pairwise_iff_getElem]
    intro i j hi hj hij
    have := hso i j (Nat.zero_le _) hij (by simp at hj; omega)
    rw [ltS] at this
    simp at hi hj
    simp [hi, hj] at this
    simpa using this
  · have h1 : HoldsK encR 2 (sortWorldK encR 2 w g 0 n d' os) g 0 d' := by
      unfold sortWorldK
      refine holdsK_grow _ _ _ _ _ _ _ (by simpa [putRowK, putRow, mapBlock, Go.Sort.ahead] using hlt) (holdsK_putRowK _ _ _ _ _ rs.toArray d' hH (by simp; exact hs))
    have h2 := (h1.cell (i := j) (c := 0) (by omega) (by omega)).1
    have h3 := (h1.cell (i := j) (c := 1) (by omega) (by omega)).1
    have e : d'[j]! = d'.toList[j]?.getD (0, 0) := by
      have : j < d'.size := by omega
      simp [this]
    rw [e] at h2 h3
    simp only [Nat.zero_add, Nat.add_zero] at h2 h3
    exact ⟨h2, h3⟩
end Go.Proofs.Ytgfdmeaganhpiaa.Old
