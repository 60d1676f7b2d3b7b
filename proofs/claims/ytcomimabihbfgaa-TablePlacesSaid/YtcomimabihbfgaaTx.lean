/- Tables as lists: cuts, joins, merges. -/
import Derived.Test.YtcomimabihbfgaaTw
namespace Go.Proofs.Ytcomimabihbfgaa
open Go.RowKit
set_option linter.unusedVariables false
set_option linter.unnecessarySimpa false
def sumL : List Tg → Int
  | [] => 0
  | t :: L => t.length + sumL L
theorem sumL_app : ∀ (L M : List Tg), sumL (L ++ M) = sumL L + sumL M
  | [], M => by simp [sumL]
  | t :: L, M => by
    simp only [List.cons_append, sumL, sumL_app L M]
    omega
theorem ck1_iff (t : Tg) (s : Int) : ck1 t s = 0 ↔ t.start = s ∧ 1 ≤ t.length ∧ t.length ≤ 16777216 ∧ ¬ (t.fail = true ∧ t.on ≠ { data := #[] }) ∧ ¬ (t.on = { data := #[] } ∧ t.offset ≠ 0) ∧ 0 ≤ t.offset ∧ t.offset ≤ 16777216 - t.length := by
  unfold ck1
  split
  · rename_i h
    exact ⟨fun h => by omega, fun h' => absurd h'.1 h⟩
  · split
    · exact ⟨fun h => by omega, fun h' => by omega⟩
    · split
      · rename_i h
        exact ⟨fun h => by omega, fun h' => h.elim (fun h => absurd h h'.2.2.2.1) (fun h => absurd h h'.2.2.2.2.1)⟩
      · rename_i h1 h2 h3
        split
        · exact ⟨fun h => by omega, fun h' => by omega⟩
        · refine ⟨fun _ => ⟨by omega, by omega, by omega, fun h => h3 (.inl h), fun h => h3 (.inr h), by omega, by omega⟩, fun _ => rfl⟩
theorem chk_cons (t : Tg) (L : List Tg) (s : Int) : chk (t :: L) s = 0 ↔ ck1 t s = 0 ∧ chk L (s + t.length) = 0 := by
  simp only [chk]
  split
  · rename_i h; exact ⟨fun h' => ⟨h, h'⟩, fun h' => h'.2⟩
  · rename_i h; exact ⟨fun h' => absurd h' h, fun h' => absurd h'.1 h⟩
theorem chk_app : ∀ (L M : List Tg) (s : Int), chk (L ++ M) s = 0 ↔ chk L s = 0 ∧ chk M (s + sumL L) = 0
  | [], M, s => by simp [chk, sumL]
  | t :: L, M, s => by
    rw [List.cons_append, chk_cons, chk_cons, chk_app L M, sumL, Int.add_assoc, and_assoc]
theorem chk_of {L : List Tg} (h : checkF L = 0) : L.length ≤ 64 ∧ chk L 0 = 0 := by
  unfold checkF at h
  split at h
  · omega
  · exact ⟨by omega, h⟩
theorem of_chk {L : List Tg} (h1 : L.length ≤ 64) (h2 : chk L 0 = 0) : checkF L = 0 := by
  unfold checkF
  rw [if_neg (by omega)]; exact h2
theorem take_next (L : List Tg) (j : Nat) (h : j < L.length) : L.take (j + 1) = L.take j ++ [getT L j] := by
  rw [List.take_succ_eq_append_getElem h]
  unfold getT
  rw [List.getD_eq_getElem?_getD, List.getElem?_eq_getElem h]; rfl
theorem pre_sum (L : List Tg) : ∀ k, k ≤ L.length → pre L k = sumL (L.take k)
  | 0, _ => by simp [pre, sumL]
  | k + 1, h => by
    rw [take_next L k (by omega), sumL_app, ← pre_sum L k (by omega)]
    simp [pre, sumL]
theorem end_sum {L : List Tg} (h : checkF L = 0) : endF L = sumL L := by
  rw [(tok_bd h).2.2.1, pre_sum L _ (Nat.le_refl _), List.take_length]
/-! ### Cuts -/
def cutOne (a n : Int) (t : Tg) : List Tg := if max a t.start < min (a + n) (t.start + t.length) then [⟨max a t.start - a, min (a + n) (t.start + t.length) - max a t.start, t.on, if t.on = { data := #[] } then t.offset else t.offset + (max a t.start - t.start), t.fail⟩] else []
def cutL (a n : Int) (L : List Tg) : List Tg := L.flatMap (cutOne a n)
theorem cutR_app (L : List Tg) (ps qs : List Pc) : ∀ k, k ≤ ps.length → cutR L (ps ++ qs) k = cutR L ps k
  | 0, _ => rfl
  | k + 1, h => by
    have e : (ps ++ qs).getD k default = ps.getD k default := by
      simp only [List.getD_eq_getElem?_getD]; rw [List.getElem?_append_left (by omega)]
    simp only [cutR, cutR_app L ps qs k (by omega), e]
theorem cutR_snoc (L : List Tg) (ps : List Pc) (p : Pc) : cutR L (ps ++ [p]) (ps ++ [p]).length = cutR L ps ps.length ++ [cutT (getT L p.target.toNat) p (endF (cutR L ps ps.length))] := by
  have e : (ps ++ [p]).getD ps.length default = p := by
    simp only [List.getD_eq_getElem?_getD]; rw [List.getElem?_append_right (Nat.le_refl _), Nat.sub_self]; rfl
  rw [List.length_append, List.length_singleton]
  simp only [cutR, e, cutR_app L ps [p] _ (Nat.le_refl _)]
theorem endF_nil : endF [] = 0 := rfl
def clip (a n x : Int) : Int := max 0 (min (a + n) x - a)
theorem cutL_snoc (a n : Int) (L : List Tg) (t : Tg) : cutL a n (L ++ [t]) = cutL a n L ++ cutOne a n t := by
  unfold cutL; rw [List.flatMap_append]; simp
theorem cut_list {L : List Tg} (hv : TOK L) (a n : Int) (ha : 0 ≤ a) (hn : 0 ≤ n) : ∀ j, j ≤ L.length → cutR L (splR L a n j) (splR L a n j).length = cutL a n (L.take j) ∧ endF (cutR L (splR L a n j) (splR L a n j).length) = clip a n (pre L j)
  | 0, _ => ⟨by simp [splR, cutR, cutL], by simp [splR, cutR, endF_nil, pre, clip]; omega⟩
  | j + 1, hj => by
    obtain ⟨h1, h2⟩ := cut_list hv a n ha hn j (by omega)
    have h3 := ck1_len (hv j (by omega))
    rw [take_next L j (by omega), cutL_snoc]
    simp only [splR, pre]
    unfold pc cutOne
    by_cases hc : max a (getT L j).start < min (a + n) ((getT L j).start + (getT L j).length)
    · rw [if_pos hc, if_pos hc, cutR_snoc, h2]
      have e : clip a n (pre L j) = max a (getT L j).start - a := by unfold clip; omega
      refine ⟨?_, ?_⟩
      · rw [h1, e]
        simp [cutT]
      · rw [endF_cat, e]
        simp only [cutT]
        unfold clip; omega
    · rw [if_neg hc, if_neg hc, List.append_nil, List.append_nil]
      refine ⟨h1, ?_⟩
      rw [h2]
      unfold clip; omega
theorem cutF_list {L : List Tg} (h : checkF L = 0) (a n : Int) (ha : 0 ≤ a ∧ a ≤ endF L) (hn : 0 ≤ n ∧ n ≤ endF L - a) : cutF L a n = (cutL a n L, 0) := by
  obtain ⟨h1, h2⟩ := cut_ok h ha hn
  have h3 := (cut_list (tok_bd h).2.1 a n ha.1 hn.1 L.length (Nat.le_refl _)).1
  have e : splitF L a n = (splR L a n L.length, 0) := by
    unfold splitF
    rw [if_neg (by omega), if_neg (by omega)]
  rw [cutF, if_neg (by omega), e]
  dsimp only
  rw [h3, List.take_length]
theorem chk_cut (a n : Int) (hn : 0 ≤ n) : ∀ (L : List Tg) (s : Int), chk L s = 0 → chk (cutL a n L) (clip a n s) = 0 ∧ sumL (cutL a n L) = clip a n (s + sumL L) - clip a n s
  | [], s, _ => by simp [cutL, chk, sumL]
  | t :: L, s, h => by
    obtain ⟨h1, h2⟩ := (chk_cons t L s).1 h
    obtain ⟨ih1, ih2⟩ := chk_cut a n hn L (s + t.length) h2
    obtain ⟨g1, g2, g3, g4, g5, g6, g7⟩ := (ck1_iff t s).1 h1
    show chk (cutOne a n t ++ cutL a n L) _ = 0 ∧ sumL (cutOne a n t ++ cutL a n L) = _
    rw [sumL_app, chk_app]
    simp only [sumL]
    rw [← Int.add_assoc]
    unfold cutOne
    by_cases hc : max a t.start < min (a + n) (t.start + t.length)
    · rw [if_pos hc]
      have e : clip a n s + (min (a + n) (t.start + t.length) - max a t.start) = clip a n (s + t.length) := by unfold clip; omega
      have e2 : clip a n s = max a t.start - a := by unfold clip; omega
      refine ⟨⟨?_, ?_⟩, ?_⟩
      · rw [chk_cons]
        refine ⟨(ck1_iff _ _).2 ⟨e2.symm, ?_, ?_, g4, ?_, ?_, ?_⟩, rfl⟩
        · dsimp only; omega
        · dsimp only; omega
        · dsimp only
          rintro ⟨h5, h6⟩
          rw [if_pos h5] at h6
          exact g5 ⟨h5, h6⟩
        · dsimp only
          split <;> omega
        · dsimp only
          split <;> omega
      · simp only [sumL]
        rw [Int.add_zero, e]; exact ih1
      · simp only [sumL]
        rw [ih2]; omega
    · rw [if_neg hc]
      have e : clip a n (s + t.length) = clip a n s := by unfold clip; omega
      refine ⟨⟨rfl, ?_⟩, ?_⟩
      · simp only [sumL]; rw [Int.add_zero, ← e]; exact ih1
      · simp only [sumL]; rw [ih2, e]; omega
theorem cutL_len (a n : Int) : ∀ L : List Tg, (cutL a n L).length ≤ L.length
  | [] => Nat.le_refl _
  | t :: L => by
    have ih := cutL_len a n L
    show (cutOne a n t ++ cutL a n L).length ≤ _
    rw [List.length_append, List.length_cons]
    have : (cutOne a n t).length ≤ 1 := by unfold cutOne; split <;> simp
    omega
theorem cut_check {L : List Tg} (h : checkF L = 0) (a n : Int) (ha : 0 ≤ a ∧ a ≤ endF L) (hn : 0 ≤ n ∧ n ≤ endF L - a) : checkF (cutL a n L) = 0 ∧ endF (cutL a n L) = n := by
  obtain ⟨h1, h2⟩ := chk_of h
  have e := end_sum h
  obtain ⟨h3, h4⟩ := chk_cut a n hn.1 L 0 h2
  have e0 : clip a n 0 = 0 := by unfold clip; omega
  rw [e0] at h3
  have h5 := of_chk (Nat.le_trans (cutL_len a n L) h1) h3
  refine ⟨h5, ?_⟩
  rw [end_sum h5, h4, e0]
  unfold clip; omega
theorem cutOne_cutOne (a n b m : Int) (hb : 0 ≤ b) (hm : 0 ≤ m) (h : b + m ≤ n) (t : Tg) : (cutOne a n t).flatMap (cutOne b m) = cutOne (a + b) m t := by
  unfold cutOne
  by_cases hc : max a t.start < min (a + n) (t.start + t.length)
  · rw [if_pos hc]
    simp only [List.flatMap_cons, List.flatMap_nil, List.append_nil]
    by_cases hd : max (a + b) t.start < min (a + b + m) (t.start + t.length)
    · rw [if_pos hd, if_pos (by omega)]
      congr 1
      simp only [Tg.mk.injEq, true_and, and_true]
      refine ⟨by omega, by omega, ?_⟩
      split <;> omega
    · rw [if_neg hd, if_neg (by omega)]
  · rw [if_neg hc, if_neg (by omega)]
    rfl
theorem cutL_cutL (a n b m : Int) (hb : 0 ≤ b) (hm : 0 ≤ m) (h : b + m ≤ n) (L : List Tg) : cutL b m (cutL a n L) = cutL (a + b) m L := by
  unfold cutL
  rw [List.flatMap_assoc]
  congr 1
  funext t
  exact cutOne_cutOne a n b m hb hm h t
/-! ### Joins -/
def shiftT (d : Int) (t : Tg) : Tg := ⟨t.start + d, t.length, t.on, t.offset, t.fail⟩
theorem joinR_list {L M : List Tg} (hL : checkF L = 0) (hM : checkF M = 0) : ∀ k, k ≤ M.length → joinR L M k = L ++ (M.take k).map (shiftT (sumL L))
  | 0, _ => by simp [joinR]
  | k + 1, h => by
    have h1 := joinR_end M hL k
    have h2 := ck1_len ((tok_bd hM).2.1 k (by omega))
    have h3 : pre L L.length = sumL L := by rw [pre_sum L _ (Nat.le_refl _), List.take_length]
    rw [joinR, take_next M k (by omega), List.map_append, ← List.append_assoc, ← joinR_list hL hM k (by omega), h1, h3]
    congr 1
    simp only [List.map_cons, List.map_nil, shiftT]
    congr 1
    simp only [Tg.mk.injEq, and_self, and_true]
    omega
theorem joinF_list {L M : List Tg} (hL : checkF L = 0) (hM : checkF M = 0) (h : L.length + M.length ≤ 64) : joinF L M = (L ++ M.map (shiftT (sumL L)), 0) := by
  rw [join_eq hL hM h, joinR_list hL hM _ (Nat.le_refl _), List.take_length]
theorem chk_shift (d : Int) : ∀ (M : List Tg) (s : Int), chk M s = 0 → chk (M.map (shiftT d)) (s + d) = 0
  | [], s, _ => rfl
  | t :: M, s, h => by
    obtain ⟨h1, h2⟩ := (chk_cons t M s).1 h
    rw [List.map_cons, chk_cons]
    refine ⟨?_, ?_⟩
    · rw [ck1_iff] at h1 ⊢
      exact ⟨by have := h1.1; show t.start + d = s + d; omega, h1.2⟩
    · have := chk_shift d M _ h2
      show chk _ (s + d + t.length) = 0
      rw [show s + d + t.length = s + t.length + d by omega]
      exact this
theorem sumL_shift (d : Int) : ∀ M : List Tg, sumL (M.map (shiftT d)) = sumL M
  | [] => rfl
  | t :: M => by
    rw [List.map_cons, sumL, sumL, sumL_shift d M]; rfl
theorem join_check {L M : List Tg} (hL : checkF L = 0) (hM : checkF M = 0) (h : L.length + M.length ≤ 64) : checkF (L ++ M.map (shiftT (sumL L))) = 0 ∧ endF (L ++ M.map (shiftT (sumL L))) = endF L + endF M := by
  have h1 := (chk_of hL).2
  have h2 := (chk_of hM).2
  have h3 := chk_shift (sumL L) M 0 h2
  have h5 : checkF (L ++ M.map (shiftT (sumL L))) = 0 := of_chk (by simpa using h) ((chk_app _ _ _).2 ⟨h1, h3⟩)
  refine ⟨h5, ?_⟩
  rw [end_sum h5, end_sum hL, end_sum hM, sumL_app, sumL_shift]
/-! ### Merges -/
theorem mrgR_fold (L : List Tg) : ∀ k, k ≤ L.length → mrgR L k = (L.take k).foldl mrgS []
  | 0, _ => by simp [mrgR]
  | k + 1, h => by
    rw [mrgR, mrgR_fold L k (by omega), take_next L k (by omega), List.foldl_append]
    rfl
theorem mergeF_fold {L : List Tg} (h : checkF L = 0) : mergeF L = L.foldl mrgS [] := by
  rw [mergeF, if_neg (by omega), mrgR_fold L _ (Nat.le_refl _), List.take_length]
theorem mrgS_nil (t : Tg) : mrgS [] t = [t] := by unfold mrgS; rw [if_neg (fun h => by simp at h)]; rfl
theorem mrgS_snoc (M : List Tg) (x t : Tg) : mrgS (M ++ [x]) t = if goesF x t = true then M ++ [mrgT x t] else M ++ [x] ++ [t] := by
  unfold mrgS
  have e : (M ++ [x]).length - 1 = M.length := by simp
  have e2 : getT (M ++ [x]) M.length = x := getT_last M x
  rw [e, e2]
  by_cases h : goesF x t = true
  · rw [if_pos ⟨by simp, h⟩, if_pos h]
    simp
  · rw [if_neg (fun h' => h h'.2), if_neg h]
theorem goesF_iff (x t : Tg) : goesF x t = true ↔ x.fail = t.fail ∧ x.on = t.on ∧ (x.on = { data := #[] } ∨ t.offset = x.offset + x.length) ∧ x.length + t.length ≤ 16777216 := by
  unfold goesF
  simp only [Bool.and_eq_true, Bool.or_eq_true, decide_eq_true_eq]
theorem snoc_cases (M : List Tg) : M = [] ∨ ∃ N x, M = N ++ [x] := by
  rcases List.eq_nil_or_concat M with h | ⟨N, x, h⟩
  · exact .inl h
  · exact .inr ⟨N, x, by rw [h]; simp⟩
theorem mrg_sum (M : List Tg) (t : Tg) : sumL (mrgS M t) = sumL M + t.length := by
  rcases snoc_cases M with rfl | ⟨N, x, rfl⟩
  · rw [mrgS_nil]; simp [sumL]
  · rw [mrgS_snoc]
    split
    · simp only [sumL_app, sumL, mrgT]; omega
    · simp only [sumL_app, sumL]; omega
theorem mrg_len (M : List Tg) (t : Tg) : (mrgS M t).length ≤ M.length + 1 := by
  rcases snoc_cases M with rfl | ⟨N, x, rfl⟩
  · rw [mrgS_nil]; simp
  · rw [mrgS_snoc]
    split <;> simp
theorem mrg_chk (M : List Tg) (t : Tg) (h1 : chk M 0 = 0) (h2 : ck1 t (sumL M) = 0) : chk (mrgS M t) 0 = 0 := by
  rcases snoc_cases M with rfl | ⟨N, x, rfl⟩
  · rw [mrgS_nil, chk_cons]; exact ⟨h2, rfl⟩
  · rw [mrgS_snoc]
    obtain ⟨h3, h4⟩ := (chk_app _ _ _).1 h1
    obtain ⟨h4, _⟩ := (chk_cons _ _ _).1 h4
    rw [ck1_iff] at h2 h4
    split
    · rename_i hg
      rw [goesF_iff] at hg
      rw [chk_app, chk_cons]
      refine ⟨h3, (ck1_iff _ _).2 ?_, rfl⟩
      simp only [mrgT]
      refine ⟨h4.1, by omega, by omega, h4.2.2.2.1, h4.2.2.2.2.1, by omega, ?_⟩
      rcases hg.2.2.1 with h5 | h5
      · have : x.offset = 0 := Classical.not_not.1 fun h6 => h4.2.2.2.2.1 ⟨h5, h6⟩
        omega
      · omega
    · rw [chk_app, chk_cons]
      refine ⟨h1, ?_, rfl⟩
      rw [Int.zero_add, ck1_iff]; exact h2
theorem fold_chk : ∀ (L M : List Tg), chk M 0 = 0 → chk L (sumL M) = 0 → chk (L.foldl mrgS M) 0 = 0 ∧ sumL (L.foldl mrgS M) = sumL M + sumL L ∧ (L.foldl mrgS M).length ≤ M.length + L.length
  | [], M, h1, h2 => ⟨h1, by simp [sumL], Nat.le_refl _⟩
  | t :: L, M, h1, h2 => by
    obtain ⟨h3, h4⟩ := (chk_cons _ _ _).1 h2
    have h5 := mrg_sum M t
    have h6 := mrg_len M t
    obtain ⟨g1, g2, g3⟩ := fold_chk L (mrgS M t) (mrg_chk M t h1 h3) (by rw [h5]; exact h4)
    refine ⟨g1, ?_, ?_⟩
    · rw [List.foldl_cons, g2, h5, sumL]; omega
    · rw [List.foldl_cons, List.length_cons]; omega
theorem merge_check {L : List Tg} (h : checkF L = 0) : checkF (mergeF L) = 0 ∧ endF (mergeF L) = endF L ∧ (mergeF L).length ≤ L.length := by
  obtain ⟨h1, h2⟩ := chk_of h
  obtain ⟨g1, g2, g3⟩ := fold_chk L [] rfl h2
  rw [mergeF_fold h]
  have h5 := of_chk (by simp only [List.length_nil] at g3; omega) g1
  refine ⟨h5, ?_, by simpa using g3⟩
  rw [end_sum h5, end_sum h, g2]; simp [sumL]
theorem fold_len : ∀ (L M : List Tg), (L.foldl mrgS M).length ≤ M.length + L.length
  | [], M => Nat.le_refl _
  | t :: L, M => by
    have h1 := fold_len L (mrgS M t)
    have h2 := mrg_len M t
    rw [List.foldl_cons, List.length_cons]; omega
theorem mrg_fix (M : List Tg) (t : Tg) (ht : 0 ≤ t.length) (h : M.foldl mrgS [] = M) : (mrgS M t).foldl mrgS [] = mrgS M t := by
  rcases snoc_cases M with rfl | ⟨N, x, rfl⟩
  · rw [mrgS_nil]; simp [mrgS_nil]
  · have h' := h
    rw [List.foldl_append] at h
    simp only [List.foldl_cons, List.foldl_nil] at h
    -- what is ahead of the last one stays
    have key : N.foldl mrgS [] = N ∧ ∀ K y, N = K ++ [y] → ¬ goesF y x = true := by
      rcases snoc_cases (N.foldl mrgS []) with h0 | ⟨K, y, h0⟩
      · rw [h0, mrgS_nil] at h
        have : N = [] := by
          have := congrArg List.length h
          simp only [List.length_append, List.length_singleton] at this
          exact List.length_eq_zero_iff.1 (by omega)
        subst this
        exact ⟨rfl, fun K y h' => by simp at h'⟩
      · have hlen := fold_len N []
        rw [h0] at hlen
        simp only [List.length_append, List.length_singleton, List.length_nil] at hlen
        rw [h0, mrgS_snoc] at h
        by_cases hg : goesF y x = true
        · rw [if_pos hg] at h
          have := congrArg List.length h
          simp only [List.length_append, List.length_singleton] at this
          omega
        · rw [if_neg hg] at h
          have h1 := List.append_inj' h rfl
          refine ⟨by rw [h0, h1.1], fun K' y' h' => ?_⟩
          rw [← h1.1] at h'
          have h2 := List.append_inj' h' rfl
          have : y = y' := by simpa using h2.2
          rw [← this]; exact hg
    rw [mrgS_snoc]
    by_cases hg : goesF x t = true
    · rw [if_pos hg, List.foldl_append, key.1]
      simp only [List.foldl_cons, List.foldl_nil]
      rcases snoc_cases N with rfl | ⟨K, y, rfl⟩
      · rw [mrgS_nil]; rfl
      · rw [mrgS_snoc, if_neg]
        intro h2
        refine key.2 K y rfl ?_
        rw [goesF_iff] at h2 ⊢
        simp only [mrgT] at h2
        exact ⟨h2.1, h2.2.1, h2.2.2.1, by omega⟩
    · rw [if_neg hg, List.foldl_append, h']
      simp only [List.foldl_cons, List.foldl_nil]
      rw [mrgS_snoc, if_neg hg]
theorem fold_fix : ∀ (L M : List Tg), (∀ t ∈ L, 0 ≤ t.length) → M.foldl mrgS [] = M → (L.foldl mrgS M).foldl mrgS [] = L.foldl mrgS M
  | [], M, _, h => h
  | t :: L, M, hl, h => fold_fix L (mrgS M t) (fun u hu => hl u (List.mem_cons_of_mem _ hu)) (mrg_fix M t (hl t List.mem_cons_self) h)
theorem chk_lens : ∀ (L : List Tg) (s : Int), chk L s = 0 → ∀ t ∈ L, 1 ≤ t.length
  | [], _, _, t, h => by cases h
  | u :: L, s, h, t, ht => by
    obtain ⟨h1, h2⟩ := (chk_cons _ _ _).1 h
    rcases List.mem_cons.1 ht with rfl | h3
    · exact (ck1_len h1).1
    · exact chk_lens L _ h2 t h3
theorem merge_merge {L : List Tg} (h : checkF L = 0) : mergeF (mergeF L) = mergeF L := by
  rw [mergeF_fold (merge_check h).1, mergeF_fold h]
  exact fold_fix L [] (fun t ht => by have := chk_lens L 0 (chk_of h).2 t ht; omega) rfl
/-! ### A table that is cut in two and joined -/
theorem cutL_none (low : Int) (h0 : 0 ≤ low) : ∀ (L : List Tg) (s : Int), chk L s = 0 → low ≤ s → cutL 0 low L = []
  | [], _, _, _ => rfl
  | t :: L, s, h, hs => by
    obtain ⟨h1, h2⟩ := (chk_cons _ _ _).1 h
    have h3 := ck1_len h1
    show cutOne 0 low t ++ cutL 0 low L = []
    rw [cutL_none low h0 L _ h2 (by omega), cutOne, if_neg (by omega)]
    rfl
theorem cutOne_all {low E : Int} {t : Tg} {s : Int} (h1 : ck1 t s = 0) (hs : low ≤ s) (hE : s + t.length ≤ E) : (cutOne low (E - low) t).map (shiftT low) = [t] := by
  have h3 := ck1_len h1
  rw [cutOne, if_pos (by omega)]
  simp only [List.map_cons, List.map_nil, shiftT]
  obtain ⟨a, b, c, d, e⟩ := t
  dsimp only at *
  congr 1
  simp only [Tg.mk.injEq, and_true, true_and]
  refine ⟨by omega, by omega, ?_⟩
  split <;> omega
theorem chk_sum : ∀ (L : List Tg) (s : Int), chk L s = 0 → 0 ≤ sumL L
  | [], _, _ => by simp [sumL]
  | t :: L, s, h => by
    obtain ⟨h1, h2⟩ := (chk_cons _ _ _).1 h
    have h3 := ck1_len h1
    have h4 := chk_sum L _ h2
    simp only [sumL]; omega
theorem cutL_all (low E : Int) : ∀ (L : List Tg) (s : Int), chk L s = 0 → low ≤ s → s + sumL L ≤ E → (cutL low (E - low) L).map (shiftT low) = L
  | [], _, _, _, _ => rfl
  | t :: L, s, h, hs, hE => by
    obtain ⟨h1, h2⟩ := (chk_cons _ _ _).1 h
    have h3 := ck1_len h1
    have h4 := chk_sum L _ h2
    simp only [sumL] at hE
    show (cutOne low (E - low) t ++ cutL low (E - low) L).map (shiftT low) = _
    rw [List.map_append, cutL_all low E L _ h2 (by omega) (by omega), cutOne_all h1 hs (by omega)]
    rfl
theorem mrg_two (M : List Tg) (t t1 t2 : Tg) (h1 : t1.start = t.start) (h2 : t1.length + t2.length = t.length) (h3 : t1.on = t.on ∧ t2.on = t.on) (h4 : t1.fail = t.fail ∧ t2.fail = t.fail) (h5 : t1.offset = t.offset) (h6 : t.on = { data := #[] } ∨ t2.offset = t.offset + t1.length)
    (hM : ∀ x ∈ M, 0 ≤ x.length) (hs : sumL M + t.length ≤ 16777216) (hl : 0 ≤ t1.length ∧ 0 ≤ t2.length) : mrgS (mrgS M t1) t2 = mrgS M t := by
  have e : mrgT t1 t2 = t := by
    obtain ⟨a, b, c, d, e⟩ := t
    simp only [mrgT] at *
    simp only [Tg.mk.injEq]
    exact ⟨h1, h2, h3.1, h5, h4.1⟩
  have hsum : ∀ N : List Tg, (∀ x ∈ N, 0 ≤ x.length) → 0 ≤ sumL N := by
    intro N
    induction N with
    | nil => intro _; simp [sumL]
    | cons u N ih =>
      intro hN
      have h1 := hN u List.mem_cons_self
      have h2 := ih fun x hx => hN x (List.mem_cons_of_mem _ hx)
      simp only [sumL]; omega
  have hg : goesF t1 t2 = true := by
    rw [goesF_iff]
    have := hsum M hM
    refine ⟨by rw [h4.1, h4.2], by rw [h3.1, h3.2], ?_, by omega⟩
    rw [h3.1, h5]; exact h6
  rcases snoc_cases M with rfl | ⟨N, x, rfl⟩
  · rw [mrgS_nil, mrgS_nil]
    have := mrgS_snoc [] t1 t2
    rw [if_pos hg, e] at this
    exact this
  · have hx := hM x (by simp)
    have hN := hsum N fun y hy => hM y (by simp [hy])
    have hs' : sumL N + x.length + t.length ≤ 16777216 := by
      rw [sumL_app] at hs; simp only [sumL] at hs; omega
    rw [mrgS_snoc, mrgS_snoc N x t]
    by_cases hc : goesF x t = true
    · have hc1 : goesF x t1 = true := by
        rw [goesF_iff] at hc ⊢
        rw [h4.1, h3.1, h5]
        exact ⟨hc.1, hc.2.1, hc.2.2.1, by omega⟩
      rw [if_pos hc1, if_pos hc, mrgS_snoc, if_pos]
      · congr 1
        simp only [mrgT]
        congr 2
        omega
      · rw [goesF_iff] at hc ⊢
        simp only [mrgT]
        refine ⟨by rw [hc.1, h4.2], by rw [hc.2.1, h3.2], ?_, by omega⟩
        rcases hc.2.2.1 with h | h
        · exact .inl h
        · rcases h6 with h7 | h7
          · exact .inl (by rw [hc.2.1]; exact h7)
          · exact .inr (by omega)
    · have hc1 : ¬ goesF x t1 = true := fun h => hc (by
        rw [goesF_iff] at h ⊢
        rw [h4.1, h3.1, h5] at h
        exact ⟨h.1, h.2.1, h.2.2.1, by omega⟩)
      rw [if_neg hc1, if_neg hc, mrgS_snoc, if_pos hg, e]
theorem mrg_lens (M : List Tg) (t : Tg) (hM : ∀ x ∈ M, 0 ≤ x.length) (ht : 0 ≤ t.length) : ∀ x ∈ mrgS M t, 0 ≤ x.length := by
  rcases snoc_cases M with rfl | ⟨N, y, rfl⟩
  · rw [mrgS_nil]; intro x hx; rw [List.mem_singleton.1 hx]; exact ht
  · rw [mrgS_snoc]
    have hy := hM y (by simp)
    split
    · intro x hx
      rcases List.mem_append.1 hx with h | h
      · exact hM x (by simp [h])
      · rw [List.mem_singleton.1 h]; simp only [mrgT]; omega
    · intro x hx
      rcases List.mem_append.1 hx with h | h
      · exact hM x h
      · rw [List.mem_singleton.1 h]; exact ht
theorem merge_two (low E : Int) (h0 : 0 ≤ low) : ∀ (L : List Tg) (s : Int) (M : List Tg), chk L s = 0 → 0 ≤ s → s + sumL L ≤ E → (∀ x ∈ M, 0 ≤ x.length) → sumL M + sumL L ≤ 16777216 →
    (cutL 0 low L ++ (cutL low (E - low) L).map (shiftT low)).foldl mrgS M = L.foldl mrgS M
  | [], _, _, _, _, _, _, _ => rfl
  | t :: L, s, M, h, hs, hE, hM, hS => by
    obtain ⟨h1, h2⟩ := (chk_cons _ _ _).1 h
    have h3 := ck1_len h1
    have h4 := chk_sum L _ h2
    simp only [sumL] at hE hS
    have u1 : cutL 0 low (t :: L) = cutOne 0 low t ++ cutL 0 low L := rfl
    have u2 : cutL low (E - low) (t :: L) = cutOne low (E - low) t ++ cutL low (E - low) L := rfl
    by_cases c1 : s + t.length ≤ low
    · have e1 : cutOne 0 low t = [t] := by
        rw [cutOne, if_pos (by omega)]
        obtain ⟨a, b, c, d, e⟩ := t
        dsimp only at *
        congr 1
        simp only [Tg.mk.injEq, and_true, true_and]
        refine ⟨by omega, by omega, ?_⟩
        split <;> omega
      have e2 : cutOne low (E - low) t = [] := by rw [cutOne, if_neg (by omega)]
      rw [u1, u2, e1, e2]
      simp only [List.nil_append, List.cons_append, List.foldl_cons]
      exact merge_two low E h0 L _ _ h2 (by omega) (by omega) (mrg_lens M t hM (by omega)) (by rw [mrg_sum]; omega)
    · by_cases c2 : low ≤ s
      · rw [cutL_none low h0 _ s h c2, cutL_all low E _ s h c2 (by simp only [sumL]; omega)]
        rfl
      · rw [u1, u2, cutL_none low h0 L _ h2 (by omega), List.map_append, cutL_all low E L _ h2 (by omega) (by omega)]
        have e1 : cutOne 0 low t = [⟨max 0 t.start - 0, min (0 + low) (t.start + t.length) - max 0 t.start, t.on, if t.on = { data := #[] } then t.offset else t.offset + (max 0 t.start - t.start), t.fail⟩] := by rw [cutOne, if_pos (by omega)]
        have e2 : cutOne low (E - low) t = [⟨max low t.start - low, min (low + (E - low)) (t.start + t.length) - max low t.start, t.on, if t.on = { data := #[] } then t.offset else t.offset + (max low t.start - t.start), t.fail⟩] := by rw [cutOne, if_pos (by omega)]
        rw [e1, e2]
        simp only [List.nil_append, List.cons_append, List.append_nil, List.map_cons, List.map_nil, List.foldl_cons]
        rw [mrg_two M t]
        · show max 0 t.start - 0 = _; omega
        · show min (0 + low) (t.start + t.length) - max 0 t.start + (min (low + (E - low)) (t.start + t.length) - max low t.start) = _; omega
        · exact ⟨rfl, rfl⟩
        · exact ⟨rfl, rfl⟩
        · dsimp only; split <;> omega
        · dsimp only [shiftT]
          by_cases h5 : t.on = { data := #[] }
          · exact .inl h5
          · rw [if_neg h5]; right; omega
        · exact hM
        · omega
        · dsimp only [shiftT]; omega
theorem merge_halves {L : List Tg} (h : checkF L = 0) (low : Int) (h0 : 0 ≤ low ∧ low ≤ endF L) (hE : endF L ≤ 200) (hl : L.length ≤ 30) :
    ∃ J, joinF (cutL 0 low L) (cutL low (endF L - low) L) = (J, 0) ∧ checkF J = 0 ∧ mergeF J = mergeF L := by
  have a1 := cut_check h 0 low (by omega) (by omega)
  have a2 := cut_check h low (endF L - low) (by omega) (by omega)
  have l1 := cutL_len 0 low L
  have l2 := cutL_len low (endF L - low) L
  have e := end_sum h
  have e1 : sumL (cutL 0 low L) = low := by rw [← end_sum a1.1]; exact a1.2
  have hj := joinF_list a1.1 a2.1 (by omega)
  have hc := (join_check a1.1 a2.1 (by omega)).1
  refine ⟨_, hj, hc, ?_⟩
  rw [mergeF_fold hc, mergeF_fold h, e1]
  exact merge_two low (endF L) h0.1 L 0 [] (chk_of h).2 (by omega) (by omega) (fun x hx => by cases hx) (by simp only [sumL]; omega)
end Go.Proofs.Ytcomimabihbfgaa
