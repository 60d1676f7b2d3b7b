/- Uses of cuts and joined tables: facts. -/
import Derived.Test.YtcomimabihbfgaaSyW
import Derived.Test.YtcomimabihbfgaaTu
namespace Go.Proofs.Ytcomimabihbfgaa
open Go.RowKit
set_option linter.unusedVariables false
set_option linter.unnecessarySimpa false
/-- how often a text stands among the first ones -/
def cntR (l : List ByteArray) (x : ByteArray) : Nat → Nat
  | 0 => 0
  | j + 1 => cntR l x j + if getS l j = x then 1 else 0
theorem cntR_le (l : List ByteArray) (x : ByteArray) : ∀ j, cntR l x j ≤ j
  | 0 => Nat.le_refl _
  | j + 1 => by
    have := cntR_le l x j
    simp only [cntR]
    split <;> omega
theorem cntR_app (l m : List ByteArray) (x : ByteArray) : ∀ j, j ≤ l.length → cntR (l ++ m) x j = cntR l x j
  | 0, _ => rfl
  | j + 1, h => by
    have : getS (l ++ m) j = getS l j := by unfold getS; simp only [List.getD_eq_getElem?_getD]; rw [List.getElem?_append_left (by omega)]
    simp only [cntR, cntR_app l m x j (by omega), this]
theorem getS_last (l : List ByteArray) (y : ByteArray) : getS (l ++ [y]) l.length = y := by
  unfold getS
  rw [List.getD_eq_getElem?_getD, List.getElem?_append_right (Nat.le_refl _), Nat.sub_self]; rfl
theorem cntR_snoc (l : List ByteArray) (x y : ByteArray) : cntR (l ++ [y]) x (l ++ [y]).length = cntR l x l.length + if y = x then 1 else 0 := by
  rw [List.length_append, List.length_singleton]
  simp only [cntR]
  rw [cntR_app _ _ _ _ (Nat.le_refl _), getS_last]
theorem uses_cnt (L : List Tg) (x : ByteArray) : ∀ k, cntR (usesR L k) x (usesR L k).length = if hasF (usesR L k) x = true then 1 else 0
  | 0 => rfl
  | k + 1 => by
    have ih := uses_cnt L x k
    by_cases h : (getT L k).on = { data := #[] } ∨ hasF (usesR L k) (getT L k).on = true
    · rw [usesR_no h]; exact ih
    · rw [usesR_yes h, cntR_snoc, ih]
      have e0 : hasF (usesR L k ++ [(getT L k).on]) x = (hasF (usesR L k) x || decide ((getT L k).on = x)) := by simp [hasF]
      rw [e0]
      by_cases e : (getT L k).on = x
      · subst e
        rw [if_neg (fun hm => h (.inr hm)), if_pos rfl, if_pos (by simp)]
      · rw [if_neg e, Nat.add_zero]
        simp [e]
theorem uses_in (L : List Tg) {x : ByteArray} (h : x ∈ usesF L) : cntR (usesF L) x (usesF L).length = 1 := by
  have := uses_cnt L x L.length
  rw [if_pos ((hasF_iff (usesR L L.length) x).2 h)] at this
  exact this
theorem mem_usesR (L : List Tg) (x : ByteArray) : ∀ k, x ∈ usesR L k ↔ x ≠ { data := #[] } ∧ ∃ i, i < k ∧ (getT L i).on = x
  | 0 => by simp [usesR]
  | k + 1 => by
    have ih := mem_usesR L x k
    by_cases h : (getT L k).on = { data := #[] } ∨ hasF (usesR L k) (getT L k).on = true
    · rw [usesR_no h, ih]
      constructor
      · rintro ⟨h1, i, h2, h3⟩; exact ⟨h1, i, by omega, h3⟩
      · rintro ⟨h1, i, h2, h3⟩
        refine ⟨h1, ?_⟩
        rcases Nat.lt_or_eq_of_le (Nat.le_of_lt_succ h2) with h4 | h4
        · exact ⟨i, h4, h3⟩
        · subst h4
          rcases h with h | h
          · exact absurd (h3.symm.trans h) h1
          · have h5 := (hasF_iff _ _).1 h
            rw [h3] at h5
            exact (ih.1 h5).2
    · rw [usesR_yes h, List.mem_append, List.mem_singleton, ih]
      constructor
      · rintro (⟨h1, i, h2, h3⟩ | h1)
        · exact ⟨h1, i, by omega, h3⟩
        · exact ⟨fun e => h (.inl (h1.symm.trans e)), k, by omega, h1.symm⟩
      · rintro ⟨h1, i, h2, h3⟩
        rcases Nat.lt_or_eq_of_le (Nat.le_of_lt_succ h2) with h4 | h4
        · exact .inl ⟨h1, i, h4, h3⟩
        · subst h4; exact .inr h3.symm
theorem getT_of_mem {L : List Tg} {t : Tg} (h : t ∈ L) : ∃ i, i < L.length ∧ getT L i = t := by
  obtain ⟨i, hi, rfl⟩ := List.getElem_of_mem h
  exact ⟨i, hi, by unfold getT; rw [List.getD_eq_getElem?_getD, List.getElem?_eq_getElem hi]; rfl⟩
theorem mem_usesF (L : List Tg) (x : ByteArray) : x ∈ usesF L ↔ x ≠ { data := #[] } ∧ ∃ t ∈ L, t.on = x := by
  unfold usesF
  rw [mem_usesR]
  refine and_congr_right fun _ => ⟨?_, ?_⟩
  · rintro ⟨i, h1, h2⟩; exact ⟨_, getT_mem L i h1, h2⟩
  · rintro ⟨t, h1, h2⟩
    obtain ⟨i, h3, h4⟩ := getT_of_mem h1
    exact ⟨i, h3, by rw [h4]; exact h2⟩
theorem getS_mem (l : List ByteArray) (i : Nat) (h : i < l.length) : getS l i ∈ l := (mem_getS l _).2 ⟨i, h, rfl⟩
theorem cutR_on (L : List Tg) (ps : List Pc) : ∀ k t, t ∈ cutR L ps k → ∃ i, i < k ∧ t.on = (getT L (ps.getD i default).target.toNat).on
  | 0, t, h => by simp [cutR] at h
  | k + 1, t, h => by
    simp only [cutR, List.mem_append, List.mem_singleton] at h
    rcases h with h | h
    · obtain ⟨i, h1, h2⟩ := cutR_on L ps k t h
      exact ⟨i, by omega, h2⟩
    · exact ⟨k, by omega, by rw [h]; rfl⟩
theorem cut_uses (L : List Tg) (a n : Int) (x : ByteArray) (h : x ∈ usesF (cutF L a n).1) : x ∈ usesF L := by
  by_cases h0 : (splitF L a n).2 = 0
  · have hF : (cutF L a n).1 = cutR L (splitF L a n).1 (splitF L a n).1.length := by rw [cutF, if_neg (by omega)]
    rw [hF, mem_usesF] at h
    obtain ⟨h1, t, h2, h3⟩ := h
    obtain ⟨i, h4, h5⟩ := cutR_on _ _ _ _ h2
    have h6 := (splitF_bd h0).2.2 i h4
    rw [mem_usesF]
    exact ⟨h1, _, getT_mem L ((splitF L a n).1.getD i default).target.toNat (by omega), by rw [← h5]; exact h3⟩
  · rw [cutF, if_pos h0] at h
    simp [usesF, usesR] at h
theorem joinR_on (L M : List Tg) (x : ByteArray) : ∀ k, (∃ t ∈ joinR L M k, t.on = x) ↔ (∃ t ∈ L, t.on = x) ∨ ∃ i, i < k ∧ (getT M i).on = x
  | 0 => by simp [joinR]
  | k + 1 => by
    have ih := joinR_on L M x k
    simp only [joinR, List.mem_append, List.mem_singleton]
    constructor
    · rintro ⟨t, h | h, h2⟩
      · rcases ih.1 ⟨t, h, h2⟩ with h3 | ⟨i, h3, h4⟩
        · exact .inl h3
        · exact .inr ⟨i, by omega, h4⟩
      · subst h; exact .inr ⟨k, by omega, h2⟩
    · rintro (h | ⟨i, h1, h2⟩)
      · obtain ⟨t, h3, h4⟩ := ih.2 (.inl h)
        exact ⟨t, .inl h3, h4⟩
      · rcases Nat.lt_or_eq_of_le (Nat.le_of_lt_succ h1) with h4 | h4
        · obtain ⟨t, h3, h5⟩ := ih.2 (.inr ⟨i, h4, h2⟩)
          exact ⟨t, .inl h3, h5⟩
        · subst h4; exact ⟨_, .inr rfl, h2⟩
theorem join_eq {L M : List Tg} (hL : checkF L = 0) (hM : checkF M = 0) (h : L.length + M.length ≤ 64) : joinF L M = (joinR L M M.length, 0) := by
  rw [joinF, if_neg (by omega), if_neg (by omega), if_neg (by omega)]
theorem join_uses {L M : List Tg} (hL : checkF L = 0) (hM : checkF M = 0) (h : L.length + M.length ≤ 64) (x : ByteArray) : x ∈ usesF (joinF L M).1 ↔ x ∈ usesF L ∨ x ∈ usesF M := by
  rw [join_eq hL hM h, mem_usesF, mem_usesF, mem_usesF, joinR_on]
  constructor
  · rintro ⟨h1, h2 | ⟨i, h2, h3⟩⟩
    · exact .inl ⟨h1, h2⟩
    · exact .inr ⟨h1, _, getT_mem M i h2, h3⟩
  · rintro (⟨h1, h2⟩ | ⟨h1, t, h2, h3⟩)
    · exact ⟨h1, .inl h2⟩
    · obtain ⟨i, h4, h5⟩ := getT_of_mem h2
      exact ⟨h1, .inr ⟨i, h4, by rw [h5]; exact h3⟩⟩
theorem cut_ok {L : List Tg} {a n : Int} (hL : checkF L = 0) (ha : 0 ≤ a ∧ a ≤ endF L) (hn : 0 ≤ n ∧ n ≤ endF L - a) : (splitF L a n).2 = 0 ∧ (cutF L a n).2 = 0 := by
  have : (splitF L a n).2 = 0 := by
    unfold splitF
    rw [if_neg (by omega), if_neg (by omega)]
  exact ⟨this, by rw [cutF, if_neg (by omega)]⟩
theorem size_eq {L : List Tg} (hL : checkF L = 0) : sizeF L = endF L := by rw [sizeF, if_pos hL]
end Go.Proofs.Ytcomimabihbfgaa
