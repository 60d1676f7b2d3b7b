/- Count and First of layer 3. No conditions but those of each theorem. -/
import Derived.Test.YtdcenfknjlifkaaQ
namespace Go.Proofs.Ytdcenfknjlifkaa
open Go.ChangeShapes Go.WideShapes Go.ChangeAt Go.RowKit
set_option linter.unusedVariables false
set_option linter.unusedSimpArgs false

/-- the number of elements of a normal form -/
def sm : List Rn → Int
  | [] => 0
  | r :: l => r.2 + sm l
theorem sm_append (a b : List Rn) : sm (a ++ b) = sm a + sm b := by
  induction a with
  | nil => simp [sm]
  | cons r a ih => simp [sm, ih]; omega
theorem sm_take (X : List Rn) (k : Nat) (hk : k < X.length) : sm (X.take (k + 1)) = sm (X.take k) + (X[k]?.getD (0, 0)).2 := by
  rw [List.take_succ_eq_append_getElem hk, sm_append, List.getElem?_eq_getElem hk]; simp [sm]
theorem sm_bd (X : List Rn) (h : NF X) (k : Nat) (hk : k ≤ X.length) : 0 ≤ sm (X.take k) ∧ sm (X.take k) ≤ k * 1073741824 := by
  induction k with
  | zero => simp [sm]
  | succ k ih =>
    have := ih (by omega)
    rw [sm_take X k (by omega)]
    have h2 := h.1 _ (at_mem X k (by omega))
    omega
set_option maxHeartbeats 1000000 in
theorem count_any (a : Option Addr) (len cap : Nat) (rs : List Rn) (hbig : len ≤ 10000) (hv : ∀ r ∈ rs, Vld r) (w : World) (hR : Rg w.heap.size w a len rs) :
    Calls Try.prog 13 #[.slice a len cap] w fun e w' => ∃ c, e = .returned (.tuple #[.int .i64 c, .int .i64 0]) ∧ ∃ out, NF out ∧ (∀ n, Mem out n ↔ Mem rs n) ∧ c = sm out ∧ Hid (Below w.heap.size w w') := by
  have HW := hid (norm_any a len cap rs hbig hv w hR)
  clear hR
  go_enter Try.func13, Try.ntmps13
  go_wp2_with fail
  refine HW.out.mono ?_
  rintro e w2 ⟨x, nx', cx, rfl, X, rfl, hX, ⟨hXl, hXm⟩, H2⟩
  have HX := hid H2.out.1
  have HB := hid H2.out.2
  have HNF := hid hX
  have HXm := hid hXm
  clear HW H2 hX hXm
  go_wp2_with fail
  go_loopw [6, 16] (fun cv iv wr => ∃ k : Nat, k ≤ X.length ∧ iv = .int .i64 (k : Int) ∧ cv = .int .i64 (sm (X.take k)) ∧ Hid (Below w2.heap.size w2 wr ∧ w2.heap.size ≤ wr.heap.size)) (fun _ iv _ => X.length - (intOf iv).toNat)
  case atStart => exact ⟨0, by omega, rfl, rfl, hid ⟨Below.refl _ _, Nat.le_refl _⟩⟩
  case round =>
    obtain ⟨k, hk, rfl, rfl, HBr⟩ := hrel
    by_cases hlt : k < X.length
    · have h3 : (k : Int) < (X.length : Int) := by omega
      obtain ⟨g, off, rfl, hgl, hall⟩ := HX.out.2.2.resolve_left (by omega)
      have c0 := (HBr.out.1.cell (p := ⟨g, off + k * 2, none⟩) hgl).trans (hall k hlt).1
      have c1 := (HBr.out.1.cell (p := ⟨g, off + k * 2 + 1, none⟩) hgl).trans (hall k hlt).2
      clear hall
      have HS := hid (sm_take X k hlt)
      obtain ⟨b1, b2⟩ := sm_bd X HNF.out k hk
      have hin := HNF.out.1 _ (at_mem X k hlt)
      obtain ⟨⟨s, l⟩, hr⟩ : ∃ r : Rn, r = X[k]?.getD (0, 0) := ⟨_, rfl⟩
      rw [← hr] at c0 c1 HS hin
      clear hr
      simp only at c0 c1 HS hin
      obtain ⟨n1, n2, n3⟩ := hin
      have HA := hid (show Below w2.heap.size w2 (wr.alloc (.cells #[.int .i64 s, .int .i64 l] 42)) ∧ w2.heap.size ≤ (wr.alloc (.cells #[.int .i64 s, .int .i64 l] 42)).heap.size from ⟨HBr.out.1.alloc HBr.out.2 _, by have := HBr.out.2; simp; omega⟩)
      generalize sm (X.take k) = t at *
      go_wp2_with fail
      go_roundw
      case rel => exact ⟨k + 1, by omega, by go_num, by rw [HS.out], HA⟩
      case measure => simp [intOf]; omega
    · obtain rfl : k = X.length := by omega
      have h3 : ¬ (X.length : Int) < (X.length : Int) := by omega
      have htk : X.take X.length = X := by simp
      rw [htk]
      go_wp2_with fail
      go_ret2
      exact ⟨_, rfl, X, HNF.out, HXm.out, rfl, hid (bt HB.out HBr.out.1)⟩

set_option maxHeartbeats 1000000 in
theorem first_any (a : Option Addr) (len cap : Nat) (rs : List Rn) (n : Int) (hn1 : 1 ≤ n) (hn2 : n ≤ 1000000) (hbig : len ≤ 10000) (hv : ∀ r ∈ rs, Vld r) (w : World) (hR : Rg w.heap.size w a len rs) :
    Calls Try.prog 18 #[.slice a len cap, .int .i64 n] w fun e w' => ∃ s E : Int, e = .returned (.tuple #[.int .i64 s, .int .i64 E]) ∧ (∃ out, NF out ∧ (∀ m, Mem out m ↔ Mem rs m) ∧ ((E = 0 ∧ ∃ k, k < out.length ∧ s = (out[k]?.getD (0, 0)).1 ∧ n ≤ (out[k]?.getD (0, 0)).2 ∧ ∀ j, j < k → (out[j]?.getD (0, 0)).2 < n) ∨ (E = 12 ∧ s = 0 ∧ ∀ j, j < out.length → (out[j]?.getD (0, 0)).2 < n))) ∧ Hid (Below w.heap.size w w') := by
  have HW := hid (norm_any a len cap rs hbig hv w hR)
  clear hR
  go_enter Try.func18, Try.ntmps18
  go_wp2_with fail
  refine HW.out.mono ?_
  rintro e w2 ⟨x, nx', cx, rfl, X, rfl, hX, ⟨hXl, hXm⟩, H2⟩
  have HX := hid H2.out.1
  have HB := hid H2.out.2
  have HNF := hid hX
  have HXm := hid hXm
  clear HW H2 hX hXm
  have hn3 : ¬ n < 1 := by omega
  go_wp2_with fail
  go_loopw [22] (fun iv wr => ∃ k : Nat, k ≤ X.length ∧ iv = .int .i64 (k : Int) ∧ Hid (∀ j, j < k → (X[j]?.getD (0, 0)).2 < n) ∧ Hid (Below w2.heap.size w2 wr ∧ w2.heap.size ≤ wr.heap.size)) (fun iv _ => X.length - (intOf iv).toNat)
  case atStart => exact ⟨0, by omega, rfl, hid (fun j hj => by omega), hid ⟨Below.refl _ _, Nat.le_refl _⟩⟩
  case round =>
    obtain ⟨k, hk, rfl, HL, HBr⟩ := hrel
    by_cases hlt : k < X.length
    · have h3 : (k : Int) < (X.length : Int) := by omega
      obtain ⟨g, off, rfl, hgl, hall⟩ := HX.out.2.2.resolve_left (by omega)
      have c0 := (HBr.out.1.cell (p := ⟨g, off + k * 2, none⟩) hgl).trans (hall k hlt).1
      have c1 := (HBr.out.1.cell (p := ⟨g, off + k * 2 + 1, none⟩) hgl).trans (hall k hlt).2
      clear hall
      have hin := HNF.out.1 _ (at_mem X k hlt)
      have HSt := hid (rfl : (X[k]?.getD (0, 0)) = X[k]?.getD (0, 0))
      obtain ⟨⟨s, l⟩, hr⟩ : ∃ r : Rn, r = X[k]?.getD (0, 0) := ⟨_, rfl⟩
      rw [← hr] at c0 c1 hin
      have HR := hid hr
      clear hr HSt
      simp only at c0 c1 hin
      obtain ⟨n1, n2, n3⟩ := hin
      have HA := hid (show Below w2.heap.size w2 (wr.alloc (.cells #[.int .i64 s, .int .i64 l] 42)) ∧ w2.heap.size ≤ (wr.alloc (.cells #[.int .i64 s, .int .i64 l] 42)).heap.size from ⟨HBr.out.1.alloc HBr.out.2 _, by have := HBr.out.2; simp; omega⟩)
      by_cases hge : n ≤ l
      · go_wp2_with fail
        go_ret2
        exact ⟨_, _, rfl, ⟨X, HNF.out, HXm.out, .inl ⟨rfl, k, hlt, by rw [← HR.out], by rw [← HR.out]; exact hge, HL.out⟩⟩, hid (bt HB.out HA.out.1)⟩
      · have HL2 := hid (show ∀ j, j < k + 1 → (X[j]?.getD (0, 0)).2 < n from fun j hj => by
          by_cases e : j = k
          · subst e; rw [← HR.out]; simp only; omega
          · exact HL.out j (by omega))
        go_wp2_with fail
        go_roundw
        case rel => exact ⟨k + 1, by omega, by go_num, HL2, HA⟩
        case measure => simp [intOf]; omega
    · obtain rfl : k = X.length := by omega
      have h3 : ¬ (X.length : Int) < (X.length : Int) := by omega
      go_wp2_with fail
      go_ret2
      exact ⟨_, _, rfl, ⟨X, HNF.out, HXm.out, .inr ⟨rfl, rfl, HL.out⟩⟩, hid (bt HB.out HBr.out.1)⟩
end Go.Proofs.Ytdcenfknjlifkaa
