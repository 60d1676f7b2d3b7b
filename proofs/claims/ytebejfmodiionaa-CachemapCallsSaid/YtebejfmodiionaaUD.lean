/- Valid states lead to valid states. -/
import Derived.Test.YtebejfmodiionaaUC
namespace Go.Proofs.Ytebejfmodiionaa
open Go.RowKit
set_option linter.unusedVariables false
set_option linter.unnecessarySimpa false
theorem mem_seenR (S : List Sl) (n : Int) : ∀ k, n ∈ seenR S k ↔ ∃ i, i < k ∧ (S.getD i default).valid = true ∧ (S.getD i default).block = n
  | 0 => by simp [seenR]
  | k + 1 => by
    have ih := mem_seenR S n k
    simp only [seenR]
    split
    · rename_i hv
      rw [List.mem_append, List.mem_singleton, ih]
      constructor
      · rintro (⟨i, h1, h2, h3⟩ | h)
        · exact ⟨i, by omega, h2, h3⟩
        · exact ⟨k, by omega, hv, h.symm⟩
      · rintro ⟨i, h1, h2, h3⟩
        rcases Nat.lt_or_eq_of_le (Nat.le_of_lt_succ h1) with h4 | h4
        · exact .inl ⟨i, h4, h2, h3⟩
        · subst h4; exact .inr h3.symm
    · rename_i hv
      rw [ih]
      constructor
      · rintro ⟨i, h1, h2, h3⟩; exact ⟨i, by omega, h2, h3⟩
      · rintro ⟨i, h1, h2, h3⟩
        rcases Nat.lt_or_eq_of_le (Nat.le_of_lt_succ h1) with h4 | h4
        · exact ⟨i, h4, h2, h3⟩
        · subst h4; exact absurd h2 hv
structure V2 (S : List Sl) (c : Int) (M : List Int) : Prop where
  l1 : 1 ≤ S.length
  l2 : S.length ≤ 1024
  c1 : 0 ≤ c
  c2 : c ≤ 1099511627776
  m8 : M.length ≤ 8
  zero : ∀ k, k < S.length → (S.getD k default).valid = false → zeroC (S.getD k default)
  good : ∀ k, k < S.length → (S.getD k default).valid = true → blkB (S.getD k default).block = true ∧ 0 ≤ (S.getD k default).stamp ∧ (S.getD k default).stamp ≤ c
  apart : ∀ i k, i < k → k < S.length → (S.getD i default).valid = true → (S.getD k default).valid = true → (S.getD i default).block ≠ (S.getD k default).block
  miss : ∀ m ∈ M, blkB m = true ∧ ∀ i, i < S.length → (S.getD i default).valid = true → (S.getD i default).block ≠ m
  nodup : M.Nodup
theorem getD_idx {M : List Int} {j : Nat} (h : j < M.length) : M.getD j default = M[j] := by
  rw [List.getD_eq_getElem?_getD, List.getElem?_eq_getElem h]; rfl
theorem V2.of {S : List Sl} {c : Int} {M : List Int} (h : validF S c M = 0) : V2 S c M := by
  have hv : VS S c M := Classical.not_not.1 fun hn => by rw [valid_2 hn] at h; omega
  obtain ⟨a1, a2, a3, a4, a5, a6, a7⟩ := hv
  refine ⟨a1, a2, a3, a4, a5, fun k hk => (a6 k hk).1, fun k hk hv => ?_, fun i k hi hk hvi hvk e => ?_, fun m hm => ?_, vs_nodup h⟩
  · obtain ⟨b1, b2, b3, _⟩ := (a6 k hk).2 hv
    exact ⟨b1, b2, b3⟩
  · exact ((a6 k hk).2 hvk).2.2.2 ((mem_seenR S _ k).2 ⟨i, hi, hvi, e⟩)
  · obtain ⟨j, hj, rfl⟩ := List.getElem_of_mem hm
    have := a7 j hj
    rw [okM, getD_idx hj] at this
    exact ⟨this.1, fun i hi hvi e => this.2 (List.mem_append_left _ ((mem_seenR S _ _).2 ⟨i, hi, hvi, e⟩))⟩
theorem V2.to {S : List Sl} {c : Int} {M : List Int} (h : V2 S c M) : validF S c M = 0 := by
  refine valid_0 ⟨h.l1, h.l2, h.c1, h.c2, h.m8, fun k hk => ⟨h.zero k hk, fun hv => ?_⟩, fun j hj => ?_⟩
  · obtain ⟨b1, b2, b3⟩ := h.good k hk hv
    refine ⟨b1, b2, b3, fun hm => ?_⟩
    obtain ⟨i, h1, h2, h3⟩ := (mem_seenR S _ k).1 hm
    exact h.apart i k h1 hk h2 hv h3
  · rw [okM, getD_idx hj]
    have hm := h.miss M[j] (List.getElem_mem hj)
    refine ⟨hm.1, fun hmm => ?_⟩
    rcases List.mem_append.1 hmm with h1 | h1
    · obtain ⟨i, h2, h3, h4⟩ := (mem_seenR S _ _).1 h1
      exact hm.2 i h2 h3 h4
    · obtain ⟨i, h2, h3⟩ := List.mem_take_iff_getElem.1 h1
      exact List.pairwise_iff_getElem.1 h.nodup i j (by omega) hj (by omega) h3
theorem getD_set (S : List Sl) (k i : Nat) (x : Sl) (hk : k < S.length) : (S.set k x).getD i default = if i = k then x else S.getD i default := by
  simp only [List.getD_eq_getElem?_getD, List.getElem?_set]
  by_cases e : i = k
  · rw [if_pos e.symm, if_pos e, if_pos hk]; rfl
  · rw [if_neg (fun h => e h.symm), if_neg e]
/-- one slot is changed -/
theorem V2.set {S : List Sl} {c c' : Int} {M M' : List Int} (h : V2 S c M) (k : Nat) (hk : k < S.length) (x : Sl) (hc : c ≤ c' ∧ c' ≤ 1099511627776) (hM : ∀ m ∈ M', m ∈ M) (hMn : M'.Nodup) (hMl : M'.length ≤ M.length)
    (h1 : x.valid = false → zeroC x) (h2 : x.valid = true → blkB x.block = true ∧ 0 ≤ x.stamp ∧ x.stamp ≤ c') (h3 : x.valid = true → (∀ i, i < S.length → i ≠ k → (S.getD i default).valid = true → (S.getD i default).block ≠ x.block) ∧ ∀ m ∈ M', x.block ≠ m) : V2 (S.set k x) c' M' := by
  have g := getD_set S k
  refine ⟨by rw [List.length_set]; exact h.l1, by rw [List.length_set]; exact h.l2, by have := h.c1; omega, hc.2, by have := h.m8; omega, fun i hi hv => ?_, fun i hi hv => ?_, fun i j hij hj hvi hvj => ?_, fun m hm => ⟨(h.miss m (hM m hm)).1, fun i hi hvi => ?_⟩, hMn⟩
  · rw [List.length_set] at hi
    rw [g i x hk] at hv ⊢
    split
    · rw [if_pos ‹_›] at hv; exact h1 hv
    · rw [if_neg ‹_›] at hv; exact h.zero i hi hv
  · rw [List.length_set] at hi
    rw [g i x hk] at hv ⊢
    split
    · rw [if_pos ‹_›] at hv; exact h2 hv
    · rw [if_neg ‹_›] at hv
      have := h.good i hi hv
      exact ⟨this.1, this.2.1, by omega⟩
  · rw [List.length_set] at hj
    rw [g i x hk] at hvi ⊢
    rw [g j x hk] at hvj ⊢
    by_cases e1 : i = k
    · rw [if_pos e1] at hvi ⊢
      rw [if_neg (by omega)] at hvj ⊢
      exact fun e => (h3 hvi).1 j hj (by omega) hvj e.symm
    · rw [if_neg e1] at hvi ⊢
      by_cases e2 : j = k
      · rw [if_pos e2] at hvj ⊢
        exact (h3 hvj).1 i (by omega) e1 hvi
      · rw [if_neg e2] at hvj ⊢
        exact h.apart i j hij hj hvi hvj
  · rw [List.length_set] at hi
    rw [g i x hk] at hvi ⊢
    split
    · rw [if_pos ‹_›] at hvi; exact (h3 hvi).2 m hm
    · rw [if_neg ‹_›] at hvi; exact (h.miss m (hM m hm)).2 i hi hvi
theorem V2.touch {S : List Sl} {c : Int} {M : List Int} {k : Int} (he : tchE S c M k = 0) : V2 (tchS S c k) (c + 1) M := by
  have h1 : ckValid S c M k = 0 := Classical.not_not.1 fun h => h (by rw [tchE, if_pos h] at he; exact he)
  have h2 : ¬ c = 1099511627776 := fun h => by rw [tchE, if_neg (fun h' => h' h1), if_pos h] at he; omega
  obtain ⟨g1, g2, g3, g4⟩ := ckValid_ok h1
  have h := V2.of g1
  have hc := h.c2
  have hg := h.good k.toNat (by omega) g4
  refine h.set k.toNat (by omega) _ ⟨by omega, by omega⟩ (fun m hm => hm) h.nodup (Nat.le_refl _) (fun hf => ?_) (fun _ => ⟨hg.1, by have := h.c1; dsimp only; omega, by dsimp only; omega⟩) (fun _ => ⟨fun i hi hne hv => ?_, fun m hm => (h.miss m hm).2 _ (by omega) g4⟩)
  · dsimp only at hf; rw [g4] at hf; cases hf
  · rcases Nat.lt_or_gt_of_ne hne with h5 | h5
    · exact h.apart i k.toNat h5 (by omega) hv g4
    · exact fun e => h.apart k.toNat i h5 hi g4 hv e.symm
theorem V2.sd {S : List Sl} {c : Int} {M : List Int} {k : Int} (d : Bool) (h1 : ckValid S c M k = 0) : V2 (sdS S k d) c M := by
  obtain ⟨g1, g2, g3, g4⟩ := ckValid_ok h1
  have h := V2.of g1
  have hc := h.c2
  have hg := h.good k.toNat (by omega) g4
  refine h.set k.toNat (by omega) _ ⟨by omega, by omega⟩ (fun m hm => hm) h.nodup (Nat.le_refl _) (fun hf => ?_) (fun _ => ⟨hg.1, hg.2.1, hg.2.2⟩) (fun _ => ⟨fun i hi hne hv => ?_, fun m hm => (h.miss m hm).2 _ (by omega) g4⟩)
  · dsimp only at hf; rw [g4] at hf; cases hf
  · rcases Nat.lt_or_gt_of_ne hne with h5 | h5
    · exact h.apart i k.toNat h5 (by omega) hv g4
    · exact fun e => h.apart k.toNat i h5 hi g4 hv e.symm
theorem V2.cl {S : List Sl} {c : Int} {M : List Int} {k : Int} (he : clE S c M k = 0) : V2 (clS S k) c M := by
  have h1 : ckSlot S c M k = 0 := Classical.not_not.1 fun h => h (by rw [clE, if_pos h] at he; exact he)
  obtain ⟨g1, g2, g3⟩ := ckSlot_ok h1
  have h := V2.of g1
  have hc := h.c2
  refine h.set k.toNat (by omega) default ⟨by omega, by omega⟩ (fun m hm => hm) h.nodup (Nat.le_refl _) (fun _ => ⟨rfl, rfl, rfl, rfl⟩) (fun hf => by cases hf) (fun hf => by cases hf)
theorem find_none {S : List Sl} {b : Int} (h : ¬ findI S b ≥ 0) (i : Nat) (hi : i < S.length) (hv : (S.getD i default).valid = true) : (S.getD i default).block ≠ b := by
  have : ¬ fdx S b < S.length := fun hl => h (by rw [findI, if_pos hl]; omega)
  exact fun e => fdx_lt (S := S) (b := b) (k := i) (by omega) ⟨hv, e⟩
theorem wo_mem {M : List Int} {b m : Int} : m ∈ wo M b ↔ m ∈ M ∧ m ≠ b := by simp [wo]
theorem wo_nodup {M : List Int} {b : Int} (h : M.Nodup) : (wo M b).Nodup := List.Nodup.sublist (List.filter_sublist) h
theorem V2.pl {S : List Sl} {c : Int} {M : List Int} {k b : Int} (he : plE S c M k b = 0) : V2 (plS S c k b) (c + 1) (wo M b) := by
  obtain ⟨h0, hb, hval, hf, h2⟩ := plE_ok he
  obtain ⟨g1, g2, g3⟩ := ckSlot_ok h0
  have h := V2.of g1
  have hc := h.c2
  have hc1 := h.c1
  refine h.set k.toNat (by omega) _ ⟨by omega, by omega⟩ (fun m hm => (wo_mem.1 hm).1) (wo_nodup h.nodup) (wo_len M b) (fun hf => by cases hf) (fun _ => ⟨hb, by dsimp only; omega, by dsimp only; omega⟩) (fun _ => ⟨fun i hi hne hv => find_none hf i hi hv, fun m hm => fun e => (wo_mem.1 hm).2 e.symm⟩)
theorem V2.ms {S : List Sl} {c : Int} {M : List Int} {b : Int} (he : mssE S c M b = 0) : V2 S c (mssM M b) := by
  have hv : validF S c M = 0 := Classical.not_not.1 fun h => by rw [mssE, if_pos h] at he; omega
  have hb : blkB b = true := Classical.not_not.1 fun h => by rw [mssE, if_neg (fun h => h hv), if_pos h] at he; omega
  have hf : ¬ findI S b ≥ 0 := fun h => by rw [mssE, if_neg (fun h => h hv), if_neg (fun h => h hb), if_pos h] at he; omega
  have h := V2.of hv
  have h8 := h.m8
  have key : ∀ M', (∀ m ∈ M', m ∈ M ∨ m = b) → M'.Nodup → M'.length ≤ 8 → V2 S c M' := fun M' k1 k2 k3 =>
    ⟨h.l1, h.l2, h.c1, h.c2, k3, h.zero, h.good, h.apart, fun m hm => (k1 m hm).elim (fun h1 => h.miss m h1) fun e => by
      subst e; exact ⟨hb, fun i hi hvi => find_none hf i hi hvi⟩, k2⟩
  unfold mssM
  split
  · exact key _ (fun m hm => .inl (wo_mem.1 hm).1) (wo_nodup h.nodup) (by have := wo_len M b; omega)
  · rename_i hm
    have hnd : (M ++ [b]).Nodup := List.nodup_append.2 ⟨h.nodup, by simp, fun x hx y hy => by
      rw [List.mem_singleton] at hy
      exact fun e => hm (by rw [← hy, ← e]; exact hx)⟩
    have hmem : ∀ m ∈ M ++ [b], m ∈ M ∨ m = b := fun m hm => by simpa using hm
    split
    · exact key _ (fun m hm => hmem m (List.mem_of_mem_drop hm)) (List.Nodup.sublist (List.drop_sublist _ _) hnd) (by rw [List.length_drop]; simp; omega)
    · exact key _ hmem hnd (by simp; omega)
theorem V2.new (n : Nat) (h : 1 ≤ n ∧ n ≤ 1024) : V2 (slZ n) 0 [] := by
  have hd : ∀ k, (slZ n).getD k default = default := fun k => by
    rw [slZ, List.getD_eq_getElem?_getD, List.getElem?_replicate]; split <;> rfl
  have hl : (slZ n).length = n := by simp [slZ]
  refine ⟨by omega, by omega, by omega, by omega, by simp, fun k _ _ => ?_, fun k _ hv => ?_, fun i k _ _ hv => ?_, (fun m hm => by cases hm), by simp⟩
  · rw [hd]; exact ⟨rfl, rfl, rfl, rfl⟩
  · rw [hd] at hv; cases hv
  · rw [hd] at hv; cases hv
end Go.Proofs.Ytebejfmodiionaa
