/- What taking a suffix away and putting one behind undo of each other, on lists of bytes. No conditions but those of each theorem. -/
import Derived.Test.YtdpclmogfnigdaaK
namespace Go.Proofs.Ytdpclmogfnigdaa
set_option linter.unusedVariables false
set_option linter.unusedSimpArgs false

theorem suf_iff (l q : List UInt8) : Lib.hasSuffix l q = true ↔ q <:+ l := by
  unfold Lib.hasSuffix
  exact List.isSuffixOf_iff_suffix
/-- a text of which neither is behind the other is behind no text that ends with it -/
theorem suf_other (l p q : List UInt8) (h1 : ¬ q <:+ p) (h2 : ¬ p <:+ q) : Lib.hasSuffix (l ++ p) q = false := by
  rw [Bool.eq_false_iff]
  intro h
  have h3 := (suf_iff _ _).1 h
  have h4 : p <:+ l ++ p := List.suffix_append l p
  rcases Nat.le_total q.length p.length with h5 | h5
  · exact h1 (List.suffix_of_suffix_length_le h3 h4 h5)
  · exact h2 (List.suffix_of_suffix_length_le h4 h3 h5)
theorem suf_self (l p : List UInt8) : Lib.hasSuffix (l ++ p) p = true := (suf_iff _ _).2 (List.suffix_append l p)
theorem trim_self (l p : List UInt8) : Lib.trimSuffix (l ++ p) p = l := by
  unfold Lib.trimSuffix
  rw [if_pos (suf_self l p)]
  simp
theorem sx_other : ∀ j, j < 4 → ∀ k, k < 4 → j ≠ k → ¬ sx j <:+ sx k := by decide
/-- the texts that Leg and Part put behind a name -/
inductive Suf : List UInt8 → Prop
  | part (k : Nat) (h : k < 4) : Suf (sx k)
  | leg (c : UInt8) (h : isLeg c.toNat = true) : Suf (sLeg ++ [c])
theorem leg_no (c : UInt8) (h : isLeg c.toNat = true) : ∀ j, j < 4 → ¬ sx j <:+ (sLeg ++ [c]) ∧ ¬ (sLeg ++ [c]) <:+ sx j := by
  have : ∀ n : Fin 8, ∀ j, j < 4 → ¬ sx j <:+ (sLeg ++ [UInt8.ofNat (48 + n.val)]) ∧ ¬ (sLeg ++ [UInt8.ofNat (48 + n.val)]) <:+ sx j := by decide +kernel
  unfold isLeg at h
  simp at h
  have h2 := this ⟨c.toNat - 48, by omega⟩
  have h3 : UInt8.ofNat (48 + (c.toNat - 48)) = c := by rw [show 48 + (c.toNat - 48) = c.toNat by omega]; simp
  rw [h3] at h2
  exact h2
theorem strip_app (l p : List UInt8) (hp : Suf p) : stripL (l ++ p) = (l, true) := by
  cases hp with
  | part k hk =>
    rw [strip_hit _ k hk (fun j hj => suf_other _ _ _ (sx_other j (by omega) k hk (by omega)) (sx_other k hk j (by omega) (by omega))) (suf_self _ _), trim_self]
  | leg c hc =>
    rw [strip_leg _ (fun j hj => suf_other _ _ _ (leg_no c hc j hj).1 (leg_no c hc j hj).2)]
    unfold legL
    rw [← List.append_assoc, List.getLast?_append, List.dropLast_concat]
    simp only [List.getLast?_singleton, Option.or_some, Option.some_or]
    rw [if_pos hc, if_pos (suf_self _ _), trim_self]
theorem suf_len5 {p : List UInt8} (hp : Suf p) : 0 < p.length ∧ p.length ≤ 6 := by
  cases hp with
  | part k hk => revert k; decide
  | leg c hc => simp [sLeg]
theorem suf_in {p : List UInt8} (hp : Suf p) : allIn 288063250384289792 576460745995190270 p = true := by
  cases hp with
  | part k hk => revert k; decide +kernel
  | leg c hc =>
    have : ∀ n : Fin 8, allIn 288063250384289792 576460745995190270 (sLeg ++ [UInt8.ofNat (48 + n.val)]) = true := by decide +kernel
    unfold isLeg at hc
    simp at hc
    have h2 := this ⟨c.toNat - 48, by omega⟩
    have h3 : UInt8.ofNat (48 + (c.toNat - 48)) = c := by rw [show 48 + (c.toNat - 48) = c.toNat by omega]; simp
    rw [h3] at h2
    exact h2
theorem trim_back {l q : List UInt8} (h : Lib.hasSuffix l q = true) : l = Lib.trimSuffix l q ++ q := by
  obtain ⟨t, rfl⟩ := (suf_iff _ _).1 h
  rw [trim_self]
/-- what strip takes away is such a text -/
theorem strip_back (l : List UInt8) (h : (stripL l).2 = true) : ∃ p, Suf p ∧ l = (stripL l).1 ++ p := by
  by_cases h0 : ∀ j, j < 4 → Lib.hasSuffix l (sx j) = false
  · rw [strip_leg l h0] at *
    unfold legL at *
    split
    · simp_all
    · rename_i c hc
      split
      · rename_i hl
        split
        · rename_i hs
          have h2 := trim_back hs
          refine ⟨sLeg ++ [c], .leg c hl, ?_⟩
          show l = Lib.trimSuffix l.dropLast sLeg ++ (sLeg ++ [c])
          rw [← List.append_assoc, ← h2]
          obtain ⟨t, ht⟩ := List.getLast?_eq_some_iff.1 hc
          rw [ht]
          simp
        · simp_all
      · simp_all
  · have h1 : ∃ k, k < 4 ∧ Lib.hasSuffix l (sx k) = true ∧ ∀ j, j < k → Lib.hasSuffix l (sx j) = false := by
      by_cases e0 : Lib.hasSuffix l (sx 0) = true
      · exact ⟨0, by omega, e0, fun j hj => by omega⟩
      by_cases e1 : Lib.hasSuffix l (sx 1) = true
      · exact ⟨1, by omega, e1, fun j hj => by obtain rfl : j = 0 := by omega
                                               simpa using e0⟩
      by_cases e2 : Lib.hasSuffix l (sx 2) = true
      · refine ⟨2, by omega, e2, fun j hj => ?_⟩
        rcases (show j = 0 ∨ j = 1 by omega) with rfl | rfl
        · simpa using e0
        · simpa using e1
      by_cases e3 : Lib.hasSuffix l (sx 3) = true
      · refine ⟨3, by omega, e3, fun j hj => ?_⟩
        rcases (show j = 0 ∨ j = 1 ∨ j = 2 by omega) with rfl | rfl | rfl
        · simpa using e0
        · simpa using e1
        · simpa using e2
      exfalso
      apply h0
      intro j hj
      rcases (show j = 0 ∨ j = 1 ∨ j = 2 ∨ j = 3 by omega) with rfl | rfl | rfl | rfl
      · simpa using e0
      · simpa using e1
      · simpa using e2
      · simpa using e3
    obtain ⟨k, hk, h2, h3⟩ := h1
    refine ⟨sx k, .part k hk, ?_⟩
    rw [strip_hit l k hk h3 h2]
    exact trim_back h2
theorem vis_strip {l : List UInt8} (h : visL l = true) : (stripL l).2 = false := by
  unfold visL at h
  simp at h
  exact h.2.2
theorem vis_bare {l : List UInt8} (h : visL l = true) : bareL l = l := bare_stop l (vis_strip h)
theorem vis_hid {l : List UInt8} (h : visL l = true) : hidL l = false := by
  unfold hidL
  rw [vis_bare h]
  simp
/-- a visible or a hidden name -/
def okL (l : List UInt8) : Bool := visL l || hidL l
theorem ok_bare {l : List UInt8} (h : okL l = true) : visL (bareL l) = true := by
  unfold okL at h
  by_cases hv : visL l = true
  · rw [vis_bare hv]; exact hv
  · have : hidL l = true := by simpa [hv] using h
    unfold hidL at this
    simp at this
    exact this.2.2
theorem hid_app {l p : List UInt8} (h : okL l = true) (hp : Suf p) (hlen : l.length + p.length ≤ 40) : hidL (l ++ p) = true := by
  have hs := strip_app l p hp
  have hb : bareL (l ++ p) = bareL l := by rw [bare_step _ (by rw [hs]), hs]
  have hle := bare_le l
  have hp0 := (suf_len5 hp).1
  unfold hidL
  rw [hb, ok_bare h, decide_eq_true (by simpa using hlen)]
  have : (bareL l == l ++ p) = false := by
    rw [beq_eq_false_iff_ne]
    intro e
    have := congrArg List.length e
    simp at this
    omega
  rw [this]
  rfl
theorem par_app {l p : List UInt8} (h : okL l = true) (hp : Suf p) (hlen : l.length + p.length ≤ 40) : parL (l ++ p) = (l, true) := by
  unfold parL
  rw [hid_app h hp hlen, if_pos rfl, strip_app l p hp]
theorem root_app {l p : List UInt8} (h : okL l = true) (hp : Suf p) (hlen : l.length + p.length ≤ 40) : rootL (l ++ p) = rootL l := by
  have hs := strip_app l p hp
  have hb : bareL (l ++ p) = bareL l := by rw [bare_step _ (by rw [hs]), hs]
  unfold rootL
  rw [hid_app h hp hlen, if_pos rfl, hb]
  by_cases hh : hidL l = true
  · rw [if_pos hh]
  · rw [if_neg hh]
    unfold okL at h
    have : visL l = true := by simpa [hh] using h
    exact vis_bare this
theorem bare_back : ∀ (n : Nat) (l : List UInt8), l.length ≤ n → ∃ p, allIn 288063250384289792 576460745995190270 p = true ∧ l = bareL l ++ p := by
  intro n
  induction n with
  | zero =>
    intro l h
    obtain rfl : l = [] := List.eq_nil_of_length_eq_zero (by omega)
    exact ⟨[], rfl, rfl⟩
  | succ n ih =>
    intro l h
    by_cases hs : (stripL l).2 = true
    · obtain ⟨p, hp, e⟩ := strip_back l hs
      have hlt := strip_lt l hs
      obtain ⟨q, hq, e2⟩ := ih (stripL l).1 (by omega)
      refine ⟨q ++ p, ?_, ?_⟩
      · unfold allIn at *
        rw [List.all_append, hq]
        have := suf_in hp
        unfold allIn at this
        rw [this]
        rfl
      · rw [bare_step l hs, ← List.append_assoc, ← e2]
        exact e
    · have hs : (stripL l).2 = false := by simpa using hs
      rw [bare_stop l hs]
      exact ⟨[], rfl, by simp⟩
theorem ok_name {l : List UInt8} (h : okL l = true) : nameL l = true := by
  have hv := ok_bare h
  have hlen : l.length ≤ 40 := by
    unfold okL at h
    by_cases hh : hidL l = true
    · unfold hidL at hh
      simp at hh
      exact hh.1
    · have : visL l = true := by simpa [hh] using h
      unfold visL at this
      simp at this
      omega
  obtain ⟨p, hp, e⟩ := bare_back l.length l (Nat.le_refl _)
  have hn : nameL (bareL l) = true := by unfold visL at hv; simp at hv; exact hv.1
  generalize bareL l = b at *
  subst e
  unfold nameL at *
  simp at hn hlen ⊢
  cases b with
  | nil => simp at hn
  | cons c t =>
    simp [c0, allIn] at *
    exact ⟨hlen, hn.2.1, hn.2.2.1, hn.2.2.2.1, hn.2.2.2.2, hp⟩

/-- what extend answers where it puts one of those texts behind a name -/
theorem ext_cases (l p : List UInt8) (ok : Bool) (hp : ok = true → Suf p) : (okL l = true ∧ ok = true ∧ l.length + p.length ≤ 40 ∧ Suf p ∧ extL l p ok = (l ++ p, 0)) ∨ ((extL l p ok).1 = [] ∧ (extL l p ok).2 ≠ 0) := by
  unfold extL
  rw [show (visL l || hidL l) = okL l from rfl]
  by_cases h1 : okL l = true
  · rw [h1, if_neg (by simp)]
    cases ok with
    | false => rw [if_pos rfl]; exact .inr ⟨rfl, by decide⟩
    | true =>
      rw [if_neg (by simp)]
      by_cases h2 : 40 < l.length + p.length
      · rw [if_pos h2]; exact .inr ⟨rfl, by decide⟩
      · rw [if_neg h2]; exact .inl ⟨rfl, rfl, by omega, hp rfl, rfl⟩
  · rw [if_pos (by simpa using h1)]
    exact .inr ⟨rfl, by decide⟩
theorem isLeg_at (k : Int) (h1 : 0 ≤ k) (h2 : k ≤ 7) : isLeg (48 + k).toNat.toUInt8.toNat = true := by
  have : (48 + k).toNat.toUInt8.toNat = (48 + k).toNat := by simp; omega
  rw [this]
  unfold isLeg
  simp
  omega
/-- Leg's answers -/
theorem leg_cases (l : List UInt8) (k : Int) : (okL l = true ∧ 0 ≤ k ∧ k ≤ 7 ∧ l.length + 5 ≤ 40 ∧ Suf (sLeg ++ [(48 + k).toNat.toUInt8]) ∧ legT l k = (l ++ (sLeg ++ [(48 + k).toNat.toUInt8]), 0)) ∨ ((legT l k).1 = [] ∧ (legT l k).2 ≠ 0) := by
  unfold legT
  by_cases h1 : 0 ≤ k
  · by_cases h2 : k ≤ 7
    · rw [decide_eq_true h1, decide_eq_true h2, Bool.and_true, if_pos rfl]
      have hS : Suf (sLeg ++ [(48 + k).toNat.toUInt8]) := .leg _ (isLeg_at k h1 h2)
      rcases ext_cases l (sLeg ++ [(48 + k).toNat.toUInt8]) true (fun _ => hS) with ⟨h3, _, h4, h5, h6⟩ | h
      · exact .inl ⟨h3, h1, h2, h4, h5, h6⟩
      · exact .inr h
    · rw [decide_eq_false h2, Bool.and_false, if_neg (by simp)]
      rcases ext_cases l [] false (by simp) with ⟨_, h4, _⟩ | h
      · cases h4
      · exact .inr h
  · rw [decide_eq_false h1, Bool.false_and, if_neg (by simp)]
    rcases ext_cases l [] false (by simp) with ⟨_, h4, _⟩ | h
    · cases h4
    · exact .inr h
/-- Part's answers -/
theorem part_cases (l : List UInt8) (k : Int) : (okL l = true ∧ 1 ≤ k ∧ k ≤ 4 ∧ l.length + (sx (k - 1).toNat).length ≤ 40 ∧ Suf (sx (k - 1).toNat) ∧ partL l k = (l ++ sx (k - 1).toNat, 0)) ∨ ((partL l k).1 = [] ∧ (partL l k).2 ≠ 0) := by
  unfold partL
  by_cases h1 : 1 ≤ k
  · by_cases h2 : k ≤ 4
    · rw [decide_eq_true h1, decide_eq_true h2, Bool.and_true, if_pos rfl]
      have hS : Suf (sx (k - 1).toNat) := .part _ (by omega)
      rcases ext_cases l (sx (k - 1).toNat) true (fun _ => hS) with ⟨h3, _, h4, h5, h6⟩ | h
      · exact .inl ⟨h3, h1, h2, h4, h5, h6⟩
      · exact .inr h
    · rw [decide_eq_false h2, Bool.and_false, if_neg (by simp)]
      rcases ext_cases l [] false (by simp) with ⟨_, h4, _⟩ | h
      · cases h4
      · exact .inr h
  · rw [decide_eq_false h1, Bool.false_and, if_neg (by simp)]
    rcases ext_cases l [] false (by simp) with ⟨_, h4, _⟩ | h
    · cases h4
    · exact .inr h
end Go.Proofs.Ytdpclmogfnigdaa
