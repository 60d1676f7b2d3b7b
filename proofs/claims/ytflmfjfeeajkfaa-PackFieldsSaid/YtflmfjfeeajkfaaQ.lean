/- Fields and Split undo each other: the numbers. No conditions but those of each theorem. -/
import Derived.Test.YtflmfjfeeajkfaaSP
namespace Go.Proofs.Ytflmfjfeeajkfaa
open Go.ChangeShapes Go.WideShapes Go.ChangeAt Go.RowKit
set_option linter.unusedVariables false
set_option linter.unusedSimpArgs false

theorem sw_step (zs : List Int) (k : Nat) : sw zs (k + 1) = sw zs k + zs[k]?.getD 0 := rfl
theorem sw_ge (zs : List Int) (k : Nat) (h : ∀ j, j < k → fit zs j) : (k : Int) ≤ sw zs k := by
  induction k with
  | zero => simp [sw]
  | succ k ih =>
    have h1 := ih (fun j hj => h j (by omega))
    have h2 := h k (by omega)
    unfold fit at h2
    rw [sw_step]
    omega
theorem sw_le (zs : List Int) (n j : Nat) (h : ∀ j, j < n → fit zs j) (hj : j < n) : sw zs j + zs[j]?.getD 0 ≤ sw zs n := by
  induction n with
  | zero => omega
  | succ n ih =>
    have hn := h n (by omega)
    unfold fit at hn
    rw [sw_step]
    by_cases e : j = n
    · subst e; omega
    · have := ih (fun i hi => h i (by omega)) (by omega)
      omega
theorem fw_mod (zs : List Int) (x : Nat) (vl : List Nat) (k : Nat) (h : ∀ j, j < k → fit zs j) (hv : ∀ j, j < k → vl[j]?.getD 0 = fv zs x j) : fw zs vl k = x % 2 ^ (sw zs k).toNat := by
  induction k with
  | zero => simp [fw, sw, Nat.mod_one]
  | succ k ih =>
    have ih' := ih (fun j hj => h j (by omega)) (fun j hj => hv j (by omega))
    obtain ⟨s1, s2⟩ := sw_bd zs k (fun j hj => h j (by omega))
    have hk := h k (by omega)
    unfold fit at hk
    have e1 : (sw zs (k + 1)).toNat = (sw zs k).toNat + (zs[k]?.getD 0).toNat := by rw [sw_step]; omega
    rw [fw, ih', hv k (by omega), e1, Nat.pow_add, Nat.mod_mul]
    have h1 : x % 2 ^ (sw zs k).toNat < 2 ^ (sw zs k).toNat := Nat.mod_lt _ (Nat.two_pow_pos _)
    unfold fv
    rw [Nat.or_comm, ← Nat.shiftLeft_add_eq_or_of_lt h1, Nat.shiftLeft_eq, Nat.add_comm, Nat.mul_comm]
theorem fv_mod (zs : List Int) (x n j : Nat) (h : ∀ j, j < n → fit zs j) (hj : j < n) : fv zs (x % 2 ^ (sw zs n).toNat) j = fv zs x j := by
  obtain ⟨s1, s2⟩ := sw_bd zs j (fun i hi => h i (by omega))
  have hk := h j hj
  unfold fit at hk
  have hle := sw_le zs n j h hj
  unfold fv
  apply Nat.eq_of_testBit_eq
  intro i
  rw [Nat.testBit_mod_two_pow, Nat.testBit_mod_two_pow, Nat.testBit_div_two_pow, Nat.testBit_div_two_pow, Nat.testBit_mod_two_pow]
  by_cases hi : i < (zs[j]?.getD 0).toNat
  · have : i + (sw zs j).toNat < (sw zs n).toNat := by omega
    simp [this]
  · simp [hi]
theorem firsts_at (len k : Nat) (h : k ≤ len) (j : Nat) (hj : j < k) : ∃ p, (firsts len k h)[j]? = some ⟨j, p⟩ := by
  induction k with
  | zero => omega
  | succ k ih =>
    rw [firsts]
    by_cases e : j = k
    · subst e
      exact ⟨h, by rw [List.getElem?_append_right (by rw [firsts_length]; omega), firsts_length]; simp⟩
    · obtain ⟨p, hp⟩ := ih (by omega) (by omega)
      exact ⟨p, by rw [List.getElem?_append_left (by rw [firsts_length]; omega)]; exact hp⟩
theorem fvl_at {len : Nat} (zs : List Int) (x j : Nat) (hj : j < len) : (fvl zs x (firsts len len (Nat.le_refl _)))[j]?.getD 0 = fv zs x j := by
  obtain ⟨p, hp⟩ := firsts_at len len (Nat.le_refl _) j hj
  simp [fvl, hp]
theorem fvl_congr {len : Nat} (zs : List Int) (x y : Nat) (h : ∀ j, j < len → fv zs x j = fv zs y j) : fvl zs x (firsts len len (Nat.le_refl _)) = fvl zs y (firsts len len (Nat.le_refl _)) := by
  unfold fvl
  exact List.map_congr_left fun i _ => h i.1 i.2
theorem fv_vfit (zs : List Int) (x : Nat) (len : Nat) (j : Nat) (hj : j < len) : vfit zs (fvl zs x (firsts len len (Nat.le_refl _))) j := by
  unfold vfit
  rw [fvl_at zs x j hj]
  exact Nat.mod_lt _ (Nat.two_pow_pos _)
/-- Fields of the values of Split -/
theorem fields_back (a b : Option Addr) (len cap cap2 : Nat) (zs : List Int) (x : Nat) (hbig : len ≤ 100) (hz : ∀ j, j < len → fit zs j) (w : World) (hI : Wi w.heap.size w a len zs) (hV : Wd w.heap.size w b len cap2 (fvl zs x (firsts len len (Nat.le_refl _)))) :
    Calls Try.prog 22 #[.slice a len cap, .slice b len cap2] w fun e w' => e = .returned (.tuple #[.int .u64 ((x % 2 ^ (sw zs len).toNat : Nat) : Int), .int .i64 0]) ∧ Below w.heap.size w w' := by
  refine (fields_all a b len cap cap2 zs _ (by omega) hz w hI hV.va).mono ?_
  rintro e w' ⟨⟨_, rfl⟩ | ⟨h, _⟩, hb⟩
  · rw [fw_mod zs x _ len hz (fun j hj => fvl_at zs x j hj)]
    exact ⟨rfl, hb⟩
  · exact absurd (fun j hj => fv_vfit zs x len j hj) h

theorem sw_app (zs : List Int) (z : Int) (k : Nat) (hk : k ≤ zs.length) : sw (zs ++ [z]) k = sw zs k := by
  induction k with
  | zero => rfl
  | succ k ih => rw [sw_step, sw_step, ih (by omega), List.getElem?_append_left (by omega)]
theorem fit_app (zs : List Int) (z : Int) (h : ∀ j, j < zs.length → fit zs j) (h1 : 1 ≤ z) (h2 : sw zs zs.length + z ≤ 64) : ∀ j, j < (zs ++ [z]).length → fit (zs ++ [z]) j := by
  intro j hj
  rw [List.length_append, List.length_singleton] at hj
  unfold fit
  by_cases e : j < zs.length
  · rw [List.getElem?_append_left e, sw_app zs z j (by omega)]
    exact h j e
  · obtain rfl : j = zs.length := by omega
    rw [List.getElem?_append_right (Nat.le_refl _), sw_app zs z _ (Nat.le_refl _)]
    simp
    omega
theorem sw_app_len (zs : List Int) (z : Int) : sw (zs ++ [z]) (zs.length + 1) = sw zs zs.length + z := by
  rw [sw_step, sw_app zs z _ (Nat.le_refl _), List.getElem?_append_right (Nat.le_refl _)]
  simp
/-- a row of widths of the call's own -/
def vi (zs : List Int) : List Value := zs.map (Value.int .i64)
theorem own_wi {w : World} {base : Nat} {v : Value} {n : Nat} {zs : List Int} (h : w.ownsRow base 3 1 v n (vi zs)) : ∃ a cap, v = .slice a n cap ∧ Wi w.heap.size w a n zs := by
  have hlen : zs.length = n := by have := h.1; simp [vi] at this; exact this
  rcases h.2 with ⟨hv, h0⟩ | ⟨g, cap, cur, hv, hg, hh, hc, hm, _⟩
  · subst h0
    exact ⟨none, 0, hv, .inl rfl⟩
  · refine ⟨some ⟨g, 0, none⟩, cap, hv, .inr ⟨g, 0, rfl, (Array.getElem?_eq_some_iff.1 hh).1, fun j hj => ?_⟩⟩
    rw [hv] at h
    rw [Nat.zero_add, h.cellAt j (by omega)]
    simp [vi, List.getElem?_eq_getElem (show j < zs.length by omega)]
end Go.Proofs.Ytflmfjfeeajkfaa
