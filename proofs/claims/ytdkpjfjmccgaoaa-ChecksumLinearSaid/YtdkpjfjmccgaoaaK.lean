/- What a burst does to a list of words and its checksum. No conditions but those of each theorem. -/
import Derived.Test.YtdkpjfjmccgaoaaN
namespace Go.Proofs.Ytdkpjfjmccgaoaa
open Go.ChangeShapes Go.WideShapes Go.ChangeAt Go.RowKit
set_option linter.unusedVariables false

theorem wd_00 (k : Nat) : wd 0 0 k = 0 := by rw [wd_zero _ _ (by omega), zero_of_lin (shn_lin _)]

theorem same_two (B ys : List Nat) (n q b r : Nat) (hb : b < 2 ^ 32) (hr : r < 64) (h0 : b ≠ 0) (hq : q + 1 < n)
    (HJ : ∀ j, ys[j]?.getD 0 = if j = q then B[j]?.getD 0 ^^^ (b * 2 ^ r % 2 ^ 64) else if j = q + 1 then B[j]?.getD 0 ^^^ (b * 2 ^ r / 2 ^ 64) else B[j]?.getD 0) :
    (ext 0 ys n = ext 0 B n) ↔ ∀ j, j < n → ys[j]?.getD 0 = B[j]?.getD 0 := by
  have hD := burst_two b r hb hr h0
  have hDl : wd (wd 0 (b * 2 ^ r % 2 ^ 64) 8) (b * 2 ^ r / 2 ^ 64) 8 < 2 ^ 32 := wd_lt _ _ _ (wd_lt _ _ _ (by omega))
  have key := ext_diff B ys q 2 (n - q - 2) _ hDl (fun j hj => by rw [HJ, if_neg (by omega), if_neg (by omega)]) (fun j hj => by rw [HJ, if_neg (by omega), if_neg (by omega)]) (fun R hR => by
    simp only [wds, List.getElem?_drop, Nat.add_zero]
    rw [HJ q, HJ (q + 1), if_pos rfl, if_neg (by omega), if_pos rfl]
    have e1 := wd_lin2 R 0 (B[q]?.getD 0) (b * 2 ^ r % 2 ^ 64) 8 hR (by omega)
    rw [Nat.xor_zero] at e1
    rw [e1, wd_lin2 _ _ _ _ 8 (wd_lt _ _ _ hR) (wd_lt _ _ _ (by omega))])
  rw [show q + 2 + (n - q - 2) = n by omega] at key
  rw [key]
  refine ⟨fun h => absurd h hD, fun h => ?_⟩
  have h1 := h q (by omega)
  have h2 := h (q + 1) (by omega)
  rw [HJ, if_pos rfl, xor_ne] at h1
  rw [HJ, if_neg (by omega), if_pos rfl, xor_ne] at h2
  rw [h1, h2, wd_00, wd_00]

theorem same_one (B ys : List Nat) (n q b r : Nat) (hb : b < 2 ^ 32) (hr : r < 64) (hq : q + 1 = n)
    (HJ : ∀ j, ys[j]?.getD 0 = if j = q then B[j]?.getD 0 ^^^ (b * 2 ^ r % 2 ^ 64) else B[j]?.getD 0) :
    (ext 0 ys n = ext 0 B n) ↔ ∀ j, j < n → ys[j]?.getD 0 = B[j]?.getD 0 := by
  subst hq
  have hDl : wd 0 (b * 2 ^ r % 2 ^ 64) 8 < 2 ^ 32 := wd_lt _ _ _ (by omega)
  have key := ext_diff B ys q 1 0 _ hDl (fun j hj => by rw [HJ, if_neg (by omega)]) (fun j hj => by rw [HJ, if_neg (by omega)]) (fun R hR => by
    simp only [wds, List.getElem?_drop, Nat.add_zero]
    rw [HJ q, if_pos rfl]
    have e1 := wd_lin2 R 0 (B[q]?.getD 0) (b * 2 ^ r % 2 ^ 64) 8 hR (by omega)
    rwa [Nat.xor_zero] at e1)
  rw [show q + 1 + 0 = q + 1 by omega] at key
  rw [key, burst_one b r hb hr]
  constructor
  · intro h j hj
    rw [HJ]
    by_cases e : j = q
    · rw [if_pos e, h, Nat.xor_zero]
    · rw [if_neg e]
  · intro h
    have h1 := h q (by omega)
    rwa [HJ, if_pos rfl, xor_ne] at h1

theorem set_at (B : List Nat) (q v j : Nat) (hq : q < B.length) : (B.set q v)[j]?.getD 0 = if j = q then v else B[j]?.getD 0 := by
  rw [List.getElem?_set]
  by_cases e : q = j
  · subst e; simp [hq]
  · rw [if_neg e, if_neg (fun h => e h.symm)]

theorem vs_set (B : List Nat) (q v : Nat) : (vs B).set q (.int .u64 (v : Int)) = vs (B.set q v) := by
  simp [vs, List.map_set]

theorem take_at (A : List Nat) (n j : Nat) (hj : j < n) : (A.take n)[j]?.getD 0 = A[j]?.getD 0 := by rw [List.getElem?_take_of_lt hj]

/-- the low part of a burst, as the program makes it -/
theorem burst_low (x b r : Nat) (hb : b < 2 ^ 32) (hx : x < 2 ^ 64) : bits .xor .u64 (x : Int) (IntKind.u64.wrap (IntKind.u64.wrap (b : Int) * 2 ^ r)) = ((x ^^^ (b * 2 ^ r % 2 ^ 64) : Nat) : Int) := by
  have e1 : IntKind.u64.wrap (b : Int) = (b : Int) := by simp [IntKind.wrap, IntKind.bits, IntKind.signed]; omega
  have e2 : IntKind.u64.wrap ((b : Int) * 2 ^ r) = ((b * 2 ^ r % 2 ^ 64 : Nat) : Int) := by
    simp only [IntKind.wrap, IntKind.bits, IntKind.signed]
    rw [Int.natCast_emod, Int.natCast_mul, Int.natCast_pow]; simp
  rw [e1, e2, u64_xor_nat _ _ hx (Nat.mod_lt _ (by omega))]
theorem burst_lt (x b r : Nat) (hx : x < 2 ^ 64) : x ^^^ (b * 2 ^ r % 2 ^ 64) < 2 ^ 64 := Nat.xor_lt_two_pow hx (Nat.mod_lt _ (by omega))
theorem high_lt (b r : Nat) (hb : b < 2 ^ 32) (hr : r < 64) : b * 2 ^ r / 2 ^ 64 < 2 ^ 64 := by
  have h1 : b * 2 ^ r < 2 ^ 32 * 2 ^ 64 := Nat.mul_lt_mul'' hb (Nat.pow_lt_pow_right (by omega) hr)
  exact Nat.div_lt_of_lt_mul (Nat.lt_trans h1 (by decide))
theorem high_eq (b r : Nat) (hr : r < 64) : b * 2 ^ r / 2 ^ 64 = b / 2 ^ (64 - r) := by
  rw [show (2 : Nat) ^ 64 = 2 ^ (64 - r) * 2 ^ r by rw [← Nat.pow_add, show 64 - r + r = 64 by omega], Nat.mul_div_mul_right _ _ (Nat.two_pow_pos _)]
theorem high_zero (b r : Nat) (hb : b < 2 ^ 32) (hr : r ≤ 32) : b * 2 ^ r / 2 ^ 64 = 0 := by
  refine Nat.div_eq_of_lt ?_
  have h1 : b * 2 ^ r < 2 ^ 32 * 2 ^ 32 := by
    refine Nat.lt_of_lt_of_le (Nat.mul_lt_mul_of_pos_right hb (Nat.two_pow_pos r)) (Nat.mul_le_mul_left _ (Nat.pow_le_pow_right (by omega) hr))
  exact h1

/-- an owned row of words, and the slice that it is -/
theorem own_at {w : World} {base g cap n : Nat} {ys : List Nat} (h : w.ownsRow base 33 1 (.slice (some ⟨g, 0, none⟩) n cap) n (vs ys)) (j : Nat) (hj : j < n) : w.cell? ⟨g, j, none⟩ = some (.int .u64 (ys[j]?.getD 0 : Nat)) := by
  have hlen : ys.length = n := by have := h.1; simp [vs] at this; exact this
  rw [h.cellAt j (by omega)]
  simp [vs, List.getElem?_eq_getElem (show j < ys.length by omega)]
theorem own_wo {w : World} {base g cap n : Nat} {ys : List Nat} (h : w.ownsRow base 33 1 (.slice (some ⟨g, 0, none⟩) n cap) n (vs ys)) (hw : ∀ j, j < n → ys[j]?.getD 0 < 18446744073709551616) : Wo w.heap.size w (some ⟨g, 0, none⟩) n ys := by
  obtain ⟨a, c, e, hwo⟩ := own_form h hw
  cases e
  exact hwo
end Go.Proofs.Ytdkpjfjmccgaoaa
