/- Places. -/
import Derived.Test.YtcomimabihbfgaaTx
namespace Go.Proofs.Ytcomimabihbfgaa
open Go.RowKit
set_option linter.unusedVariables false
set_option linter.unnecessarySimpa false
/-- what a sector of a target is -/
def mkP (t : Tg) (i : Int) : Tg := ⟨0, 0, t.on, if t.on = { data := #[] } then 0 else t.offset + (i - t.start), t.fail⟩
def At (L : List Tg) (i : Int) (p : Tg) : Prop := ∃ t ∈ L, t.start ≤ i ∧ i < t.start + t.length ∧ p = mkP t i
theorem At.ex : ∀ (L : List Tg) (s i : Int), chk L s = 0 → s ≤ i → i < s + sumL L → ∃ p, At L i p
  | [], s, i, _, h1, h2 => by simp only [sumL] at h2; omega
  | t :: L, s, i, h, h1, h2 => by
    obtain ⟨h3, h4⟩ := (chk_cons _ _ _).1 h
    have h5 := ck1_len h3
    simp only [sumL] at h2
    by_cases hc : i < s + t.length
    · exact ⟨_, t, List.mem_cons_self, by omega, by omega, rfl⟩
    · obtain ⟨p, u, hu, hp⟩ := At.ex L _ i h4 (by omega) (by omega)
      exact ⟨p, u, List.mem_cons_of_mem _ hu, hp⟩
theorem At.step {M : List Tg} {t p : Tg} {i : Int} (ht : 0 ≤ t.length) (hs : t.start = sumL M) (hc : chk M 0 = 0) (h : At M i p ∨ (t.start ≤ i ∧ i < t.start + t.length ∧ p = mkP t i)) : At (mrgS M t) i p := by
  rcases snoc_cases M with rfl | ⟨N, x, rfl⟩
  · rw [mrgS_nil]
    rcases h with ⟨u, hu, _⟩ | h
    · cases hu
    · exact ⟨t, List.mem_singleton.2 rfl, h⟩
  · rw [mrgS_snoc]
    obtain ⟨c1, c2⟩ := (chk_app _ _ _).1 hc
    have c3 := ck1_len ((chk_cons _ _ _).1 c2).1
    rw [sumL_app] at hs
    simp only [sumL] at hs
    split
    · rename_i hg
      rw [goesF_iff] at hg
      rcases h with ⟨u, hu, h1, h2, h3⟩ | ⟨h1, h2, h3⟩
      · rcases List.mem_append.1 hu with h4 | h4
        · exact ⟨u, by simp [h4], h1, h2, h3⟩
        · rw [List.mem_singleton] at h4
          subst h4
          exact ⟨mrgT u t, by simp, h1, by show i < u.start + (u.length + t.length); omega, h3⟩
      · refine ⟨mrgT x t, by simp, by show x.start ≤ i; omega, by show i < x.start + (x.length + t.length); omega, ?_⟩
        rw [h3]
        simp only [mkP, mrgT, hg.1, hg.2.1, Tg.mk.injEq, true_and, and_true]
        rcases hg.2.2.1 with h5 | h5
        · rw [hg.2.1] at h5
          rw [if_pos h5, if_pos h5]
        · split
          · rfl
          · omega
    · rcases h with ⟨u, hu, h1⟩ | h
      · exact ⟨u, List.mem_append_left _ hu, h1⟩
      · exact ⟨t, by simp, h⟩
theorem At.fold : ∀ (L M : List Tg) (i : Int) (p : Tg), chk M 0 = 0 → chk L (sumL M) = 0 → At M i p ∨ At L i p → At (L.foldl mrgS M) i p
  | [], M, i, p, _, _, h => h.elim id fun ⟨t, ht, _⟩ => by cases ht
  | t :: L, M, i, p, h1, h2, h => by
    obtain ⟨h3, h4⟩ := (chk_cons _ _ _).1 h2
    have h5 := (ck1_len h3).2.2
    refine At.fold L (mrgS M t) i p (mrg_chk M t h1 h3) (by rw [mrg_sum]; exact h4) ?_
    rcases h with h | ⟨u, hu, h⟩
    · exact .inl (At.step (by have := ck1_len h3; omega) h5 h1 (.inl h))
    · rcases List.mem_cons.1 hu with rfl | hu
      · exact .inl (At.step (by have := ck1_len h3; omega) h5 h1 (.inr h))
      · exact .inr ⟨u, hu, h⟩
theorem At.merge {L : List Tg} (h : checkF L = 0) {i : Int} {p : Tg} (ha : At L i p) : At (mergeF L) i p := by
  rw [mergeF_fold h]
  exact At.fold L [] i p rfl (chk_of h).2 (.inr ha)
theorem At.left {L M : List Tg} {i : Int} {p : Tg} (h : At L i p) : At (L ++ M) i p := by
  obtain ⟨t, ht, h⟩ := h
  exact ⟨t, List.mem_append_left _ ht, h⟩
theorem At.right {L M : List Tg} {i d : Int} {p : Tg} (h : At M i p) : At (L ++ M.map (shiftT d)) (d + i) p := by
  obtain ⟨t, ht, h1, h2, h3⟩ := h
  refine ⟨shiftT d t, List.mem_append_right _ (List.mem_map_of_mem ht), by show t.start + d ≤ _; omega, by show _ < t.start + d + t.length; omega, ?_⟩
  rw [h3]
  have e : t.offset + (i - t.start) = t.offset + (d + i - (t.start + d)) := by omega
  show mkP t i = ⟨0, 0, t.on, if t.on = { data := #[] } then 0 else t.offset + (d + i - (t.start + d)), t.fail⟩
  unfold mkP
  rw [e]
theorem At.cut {L : List Tg} {i low n : Int} {p : Tg} (h : At L i p) (h1 : low ≤ i) (h2 : i < low + n) : At (cutL low n L) (i - low) p := by
  obtain ⟨t, ht, h3, h4, h5⟩ := h
  have hc : max low t.start < min (low + n) (t.start + t.length) := by omega
  refine ⟨_, List.mem_flatMap.2 ⟨t, ht, by rw [cutOne, if_pos hc]; exact List.mem_singleton.2 rfl⟩, ?_, ?_, ?_⟩
  · dsimp only; omega
  · dsimp only; omega
  · rw [h5]
    simp only [mkP, Tg.mk.injEq, true_and, and_true]
    by_cases ho : t.on = { data := #[] }
    · rw [if_pos ho, if_pos ho]
    · rw [if_neg ho, if_neg ho, if_neg ho]; omega
theorem At.index {L : List Tg} (hv : TOK L) {i : Int} {p : Tg} (h : At L i p) : fnd L i < L.length ∧ (getT L (fnd L i)).start ≤ i ∧ i < (getT L (fnd L i)).start + (getT L (fnd L i)).length ∧ p = mkP (getT L (fnd L i)) i := by
  obtain ⟨t, ht, h3, h4, h5⟩ := h
  obtain ⟨k, hk, rfl⟩ := getT_of_mem ht
  obtain ⟨s1, s2⟩ := fnd_spec hv i
  have g1 := (s2 k hk).1 (by unfold te; omega)
  have e : fnd L i = k := by
    rcases Nat.lt_or_eq_of_le g1 with h | h
    · have g2 := (s2 (fnd L i) (by omega)).2 (Nat.le_refl _)
      have g3 := te_pre hv (fnd L i) (by omega)
      have g4 := pre_mono hv (fnd L i + 1) (k - (fnd L i + 1)) (by omega)
      rw [show fnd L i + 1 + (k - (fnd L i + 1)) = k by omega] at g4
      have g5 := (ck1_len (hv k hk)).2.2
      omega
    · exact h
  rw [e]
  exact ⟨hk, h3, h4, h5⟩
/-- the pieces of a cut follow one another -/
theorem pieces_at {L : List Tg} (hv : TOK L) (a n : Int) (ha : 0 ≤ a) (hn : 0 ≤ n) : ∀ j, j ≤ L.length → ∀ k, k < (splR L a n j).length → (getT L ((splR L a n j).getD k default).target.toNat).start + ((splR L a n j).getD k default).at' = a + endF (cutR L (splR L a n j) k)
  | 0, _, k, h => by simp [splR] at h
  | j + 1, hj, k, h => by
    have ih := pieces_at hv a n ha hn j (by omega)
    have h2 := (cut_list hv a n ha hn j (by omega)).2
    have h3 := ck1_len (hv j (by omega))
    simp only [splR] at h ⊢
    by_cases hk : k < (splR L a n j).length
    · have e : (splR L a n j ++ pc (getT L j) j a n).getD k default = (splR L a n j).getD k default := by
        simp only [List.getD_eq_getElem?_getD]; rw [List.getElem?_append_left hk]
      rw [e, cutR_app _ _ _ _ (by omega)]
      exact ih k hk
    · unfold pc at h ⊢
      by_cases hc : max a (getT L j).start < min (a + n) ((getT L j).start + (getT L j).length)
      · rw [if_pos hc] at h ⊢
        rw [List.length_append, List.length_singleton] at h
        have hk2 : k = (splR L a n j).length := by omega
        subst hk2
        rw [cutR_app _ _ _ _ (Nat.le_refl _), h2]
        have e : (splR L a n j ++ [(⟨j, max a (getT L j).start - (getT L j).start, min (a + n) ((getT L j).start + (getT L j).length) - max a (getT L j).start⟩ : Pc)]).getD (splR L a n j).length default = ⟨j, max a (getT L j).start - (getT L j).start, min (a + n) ((getT L j).start + (getT L j).length) - max a (getT L j).start⟩ := by
          simp only [List.getD_eq_getElem?_getD]; rw [List.getElem?_append_right (Nat.le_refl _), Nat.sub_self]; rfl
        rw [e]
        simp only [Int.toNat_natCast]
        unfold clip
        omega
      · rw [if_neg hc, List.append_nil] at h
        omega
end Go.Proofs.Ytcomimabihbfgaa
