/- The sum of the counts, by the statement's closure. No conditions but those of each theorem. -/
import Derived.Test.YtablogkafbajaaaR
namespace Go.Proofs.Ytablogkafbajaaa
open Go.ChangeShapes Go.WideShapes Go.ChangeAt Go.RowKit
set_option linter.unusedVariables false
set_option linter.unusedSimpArgs false

/-- the sum of the first k counts -/
def sm (X : List Int) : Nat → Int
  | 0 => 0
  | k + 1 => sm X k + ge X k
theorem sm_bd {X : List Int} (h : Cnt X) : ∀ k, k ≤ X.length → 0 ≤ sm X k ∧ sm X k ≤ 65535 * (k : Int) := by
  intro k
  induction k with
  | zero => intro _; simp [sm]
  | succ k ih =>
    intro hk
    have h1 := ih (by omega)
    have h2 := h.val k (by omega)
    unfold sm
    omega
set_option maxHeartbeats 4000000 in
theorem sum_ok {M a ca b cb P : Nat} {X Y : List Int} {W : World} (h : SM 66 W M a ca b cb X Y) (hP : W.cell? ⟨P, 0, none⟩ = some (.pointer (some ⟨M, 0, none⟩))) :
    Calls Try.prog 26 #[.pointer (some ⟨P, 0, none⟩)] W fun e W' => e = .returned (.int .i64 (sm X X.length)) ∧ Below W.heap.size W W' := by
  have hbig := h.cx.big
  have hC := hid h.cx
  have HC := hid (counts_ok h)
  clear h
  go_enter Try.func26, Try.ntmps26
  go_wp2_with fail
  refine HC.out.mono ?_
  rintro e w1 ⟨g, gc, rfl, hg, H1⟩
  have HB1 := hid H1.out.2
  have HR1 := hid H1.out.1
  clear H1 HC hP
  go_wp2_with fail
  go_loopw [2, 4] (fun nv iv wr => ∃ k : Nat, k ≤ X.length ∧ nv = .int .i64 (sm X k) ∧ iv = .int .i64 (k : Int) ∧ Hid (Below w1.heap.size w1 wr)) (fun _ iv _ => X.length - (intOf iv).toNat)
  case atStart => exact ⟨0, by omega, rfl, rfl, hid (Below.refl _ _)⟩
  case round =>
    obtain ⟨k, hk, rfl, rfl, HB⟩ := hrel
    by_cases hlt : k < X.length
    · have hlt' : (k : Int) < (X.length : Int) := by omega
      have c1 := (HB.out.cell (p := ⟨g, k, none⟩) HR1.out.lt).trans (HR1.out.at k hlt)
      have hb := sm_bd hC.out k (by omega)
      have hv := hC.out.val k hlt
      have HN := hid (show sm X (k + 1) = sm X k + ge X k from rfl)
      generalize sm X k = s at *
      generalize ge X k = x at *
      go_wp2_with fail
      go_roundw
      case rel => exact ⟨k + 1, by omega, by rw [HN.out], by go_num, HB⟩
      case measure => simp [intOf]; omega
    · obtain rfl : k = X.length := by omega
      have hlt' : ¬ (X.length : Int) < (X.length : Int) := by omega
      go_wp2_with fail
      go_ret
      exact ⟨rfl, bt HB1.out HB.out⟩
theorem sm_set (X : List Int) (k : Nat) (x : Int) (hk : k < X.length) : ∀ m, sm (X.set k x) m = sm X m + if k < m then x - ge X k else 0 := by
  intro m
  induction m with
  | zero => simp [sm]
  | succ m ih =>
    have u1 : sm (X.set k x) (m + 1) = sm (X.set k x) m + ge (X.set k x) m := rfl
    have u2 : sm X (m + 1) = sm X m + ge X m := rfl
    have g : ge (X.set k x) m = if k = m then x else ge X m := by
      unfold ge
      rw [List.getElem?_set]
      by_cases e : k = m
      · subst e; rw [if_pos rfl, if_pos hk, if_pos rfl]; rfl
      · rw [if_neg e, if_neg e]
    rw [u1, u2, ih, g]
    by_cases e : k = m
    · subst e
      rw [if_neg (by omega), if_pos rfl, if_pos (by omega)]
      omega
    · rw [if_neg e]
      by_cases h : k < m
      · rw [if_pos h, if_pos (by omega)]; omega
      · rw [if_neg h, if_neg (by omega)]; omega
theorem sm_al (X Y : List Int) : sm (alX X Y) X.length = sm X X.length + if alE X Y = 0 then 1 else 0 := by
  unfold alX alE
  cases h : al X Y with
  | none => simp
  | some k =>
    unfold al at h
    rw [List.find?_range_eq_some] at h
    obtain ⟨h1, h2, _⟩ := h
    have hk : k < X.length := by simpa using h2
    have h0 : ge X k = 0 := by unfold fr at h1; simp at h1; exact h1.1
    show sm (X.set k 1) X.length = sm X X.length + if (0 : Int) = 0 then 1 else 0
    rw [sm_set X k 1 hk, if_pos hk, h0, if_pos rfl]
    omega
theorem sm_inc (X : List Int) (b : Int) : sm (incX X b) X.length = sm X X.length + if incE X b = 0 then 1 else 0 := by
  unfold incX
  by_cases h : incE X b = 0
  · rw [if_pos h, if_pos h]
    have hi : inr X b := by
      unfold incE at h
      by_cases hi : inr X b
      · exact hi
      · rw [if_neg hi] at h; omega
    have hk : b.toNat < X.length := by unfold inr at hi; omega
    rw [sm_set X b.toNat _ hk, if_pos hk]
    omega
  · rw [if_neg h, if_neg h]; omega
theorem sm_dec (X : List Int) (b : Int) : sm (decX X b) X.length = sm X X.length + if decE X b = 0 then -1 else 0 := by
  unfold decX
  by_cases h : decE X b = 0
  · rw [if_pos h, if_pos h]
    have hi : inr X b := by
      unfold decE at h
      by_cases hi : inr X b
      · exact hi
      · rw [if_neg hi] at h; omega
    have hk : b.toNat < X.length := by unfold inr at hi; omega
    rw [sm_set X b.toNat _ hk, if_pos hk]
    omega
  · rw [if_neg h, if_neg h]; omega
end Go.Proofs.Ytablogkafbajaaa
