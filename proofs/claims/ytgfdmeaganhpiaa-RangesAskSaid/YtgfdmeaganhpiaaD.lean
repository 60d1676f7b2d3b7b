/- Has of layer 3. No conditions but those of each theorem. -/
import Derived.Test.YtgfdmeaganhpiaaC
namespace Go.Proofs.Ytgfdmeaganhpiaa.Old
open Go.ChangeShapes Go.WideShapes Go.ChangeAt Go.RowKit
set_option linter.unusedVariables false
set_option linter.unusedSimpArgs false

instance (l : List Rn) (n : Int) : Decidable (Mem l n) := by unfold Mem; infer_instance

theorem at_mem (rs : List Rn) (k : Nat) (hk : k < rs.length) : rs[k]?.getD (0, 0) ∈ rs := by
  rw [List.getElem?_eq_getElem hk]; exact List.getElem_mem hk
/-- a block of two cells -/
def Pr (W : World) (B t : Nat) (x y : Value) : Prop := W.heap[B]? = some (.cells #[x, y] t (0, 0))
theorem Pr.new (W : World) (t : Nat) (x y : Value) : Pr (W.alloc (.cells #[x, y] t)) W.heap.size t x y := heap_alloc_new _ _
theorem Pr.lt {W : World} {B t : Nat} {x y : Value} (h : Pr W B t x y) : B < W.heap.size := (Array.getElem?_eq_some_iff.1 h).1
theorem Pr.alloc {W : World} {B t : Nat} {x y : Value} (h : Pr W B t x y) (o : Obj) : Pr (W.alloc o) B t x y := (Below.heap_alloc W o B h.lt).trans h
theorem Pr.c0 {W : World} {B t : Nat} {x y : Value} (h : Pr W B t x y) : W.cell? ⟨B, 0, none⟩ = some x := by simp [World.cell?, show W.heap[B]? = _ from h]
theorem Pr.c1 {W : World} {B t : Nat} {x y : Value} (h : Pr W B t x y) : W.cell? ⟨B, 1, none⟩ = some y := by simp [World.cell?, show W.heap[B]? = _ from h]

set_option maxHeartbeats 1000000 in
theorem has_any (a : Option Addr) (len cap : Nat) (rs : List Rn) (n : Int) (hn : I64 n) (hbig : len ≤ 1000000) (hv : ∀ r ∈ rs, Vld r) (w : World) (hR : Rg w.heap.size w a len rs) :
    Calls Try.prog 14 #[.slice a len cap, .int .i64 n] w fun e w' => e = .returned (.bool (decide (Mem rs n))) ∧ Below w.heap.size w w' := by
  have HR := hid hR
  have HV := hid hv
  unfold I64 at hn
  clear hR hv
  go_enter Try.func14, Try.ntmps14
  go_wp2_with fail
  go_loopw [9] (fun iv wr => ∃ k : Nat, k ≤ len ∧ iv = .int .i64 (k : Int) ∧ Hid (Below w.heap.size w wr ∧ w.heap.size ≤ wr.heap.size) ∧ Hid (∀ j, j < k → ¬ ((rs[j]?.getD (0, 0)).1 ≤ n ∧ n < (rs[j]?.getD (0, 0)).1 + (rs[j]?.getD (0, 0)).2))) (fun iv _ => len - (intOf iv).toNat)
  case atStart => exact ⟨0, by omega, rfl, hid ⟨Below.refl _ _, Nat.le_refl _⟩, hid (fun j hj => by omega)⟩
  case round =>
    obtain ⟨k, hk, rfl, HB, HN⟩ := hrel
    by_cases hlt : k < len
    · obtain ⟨b, off, rfl, hbl, hall⟩ := HR.out.2.2.resolve_left (by omega)
      have c0 := (HB.out.1.cell (p := ⟨b, off + k * 2, none⟩) hbl).trans (hall k hlt).1
      have c1 := (HB.out.1.cell (p := ⟨b, off + k * 2 + 1, none⟩) hbl).trans (hall k hlt).2
      clear hall
      have hm := at_mem rs k (by rw [HR.out.1]; exact hlt)
      have hv := HV.out _ hm
      have hi := HR.out.2.1 _ hm
      have HM := hid hm
      unfold I64 at hi
      have HE := hid (show ∀ r : Rn, r = (r.1, r.2) from fun _ => rfl)
      obtain ⟨⟨s, l⟩, hr⟩ : ∃ r : Rn, r = rs[k]?.getD (0, 0) := ⟨_, rfl⟩
      rw [← hr] at c0 c1 hv hi HM
      have HQ := hid hr
      clear hr hm
      simp only at c0 c1 hi
      have hv2 : 0 ≤ s ∧ 0 ≤ l ∧ s + l ≤ 1073741824 := hv
      have h3 : (k : Int) < (len : Int) := by omega
      obtain ⟨v1, v2, v3⟩ := hv2
      have hVal := hid (fun w => valid_any s l (by unfold I64; omega) (by unfold I64; omega) w)
      have hdec := hid (decide_eq_true hv)
      rw [hdec.out] at hVal
      clear hv hi
      have HA := hid (show Below w.heap.size w (wr.alloc (.cells #[.int .i64 s, .int .i64 l] 42)) from HB.out.1.alloc HB.out.2 _)
      have HP := hid (Pr.new wr 42 (.int .i64 s) (.int .i64 l))
      have hS := hid (show w.heap.size ≤ (wr.alloc (.cells #[.int .i64 s, .int .i64 l] 42)).heap.size by have := HB.out.2; simp; omega)
      have HNext := hid (fun (h : ¬ (s ≤ n ∧ n < s + l)) => show ∀ j, j < k + 1 → ¬ ((rs[j]?.getD (0, 0)).1 ≤ n ∧ n < (rs[j]?.getD (0, 0)).1 + (rs[j]?.getD (0, 0)).2) from fun j hj => by
        by_cases e : j = k
        · subst e; rw [← HQ.out]; exact h
        · exact HN.out j (by omega))
      have hyes : s ≤ n → n < s + l → decide (Mem rs n) = true := fun h1 h2 => decide_eq_true ⟨_, HM.out, h1, h2⟩
      have HYes := hid hyes
      clear hyes HQ HN
      go_wp2_with fail
      refine (hVal.out _).mono ?_
      rintro e w2 ⟨rfl, rfl⟩
      have HP2 := hid (HP.out.alloc (.cells #[.int .i64 s, .int .i64 l] 42))
      have HA2 := hid (HA.out.alloc hS.out (.cells #[.int .i64 s, .int .i64 l] 42))
      have hS2 := hid (show w.heap.size ≤ ((wr.alloc (.cells #[.int .i64 s, .int .i64 l] 42)).alloc (.cells #[.int .i64 s, .int .i64 l] 42)).heap.size by have := hS.out; rw [World.size_alloc]; omega)
      generalize (wr.alloc (.cells #[.int .i64 s, .int .i64 l] 42)).alloc (.cells #[.int .i64 s, .int .i64 l] 42) = w3 at *
      have d0 := HP2.out.c0
      have d1 := HP2.out.c1
      by_cases h1 : s ≤ n
      · by_cases h2 : n < s + l
        · have hT := HYes.out h1 h2
          go_wp2_with fail
          go_ret
          exact ⟨by rw [hT]; rfl, HA2.out⟩
        · have hN := HNext.out (fun h => h2 h.2)
          have HN2 := hid hN
          clear hN
          go_wp2_with fail
          go_roundw
          case rel => exact ⟨k + 1, by omega, by go_num, hid ⟨HA2.out, hS2.out⟩, HN2⟩
          case measure => simp [intOf]; omega
      · have hN := HNext.out (fun h => h1 h.1)
        have HN2 := hid hN
        clear hN
        go_wp2_with fail
        go_roundw
        case rel => exact ⟨k + 1, by omega, by go_num, hid ⟨HA2.out, hS2.out⟩, HN2⟩
        case measure => simp [intOf]; omega
    · obtain rfl : k = len := by omega
      have h3 : ¬ (k : Int) < (k : Int) := by omega
      go_wp2
      go_ret
      have : ¬ Mem rs n := fun ⟨r, hr, h1, h2⟩ => by
        obtain ⟨j, hj⟩ := List.getElem?_of_mem hr
        have hjl := (List.getElem?_eq_some_iff.1 hj).1
        have := HN.out j (by rw [← HR.out.1]; exact hjl)
        rw [hj] at this
        exact this ⟨h1, h2⟩
      exact ⟨by rw [decide_eq_false this]; rfl, HB.out.1⟩
end Go.Proofs.Ytgfdmeaganhpiaa.Old
