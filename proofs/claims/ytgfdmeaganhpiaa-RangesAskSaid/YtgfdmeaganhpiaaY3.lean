/- What the reference selects, as lists: insert, ends, Select. No conditions but those of each theorem. -/
import Derived.Test.YtgfdmeaganhpiaaY1
namespace Go.Proofs.Ytgfdmeaganhpiaa
open Go.RowKit
set_option linter.unusedVariables false
def insL : List Int → Int → List Int
  | [], n => [n]
  | x :: l, n => if x < n then x :: insL l n else if x = n then x :: l else n :: x :: l
theorem insL_at : ∀ (l : List Int) (n : Int) (k : Nat), k ≤ l.length → (∀ j, j < k → l.getD j default < n) → (k < l.length → ¬ l.getD k default < n) → insL l n = if k < l.length ∧ l.getD k default = n then l else l.take k ++ [n] ++ l.drop k
  | [], n, k, hk, h1, h2 => by
    have : k = 0 := by simpa using hk
    subst this
    simp [insL]
  | x :: l, n, 0, hk, h1, h2 => by
    have hx : ¬ x < n := by simpa using h2 (by simp)
    simp only [insL, if_neg hx]
    by_cases e : x = n <;> simp [e]
  | x :: l, n, k + 1, hk, h1, h2 => by
    have hx : x < n := by simpa using h1 0 (by omega)
    have ih := insL_at l n k (by simpa using hk) (fun j hj => by simpa using h1 (j + 1) (by omega)) (fun h => by simpa using h2 (by simpa using h))
    simp only [insL, if_pos hx, ih]
    simp only [List.length_cons, Nat.add_lt_add_iff_right, List.getD_cons_succ, List.take_succ_cons, List.drop_succ_cons, List.cons_append]
    split <;> rfl
theorem insL_mem : ∀ (l : List Int) (n x : Int), x ∈ insL l n ↔ x = n ∨ x ∈ l
  | [], n, x => by simp [insL]
  | y :: l, n, x => by
    simp only [insL]
    split
    · rw [List.mem_cons, insL_mem l n x, List.mem_cons]
      constructor
      · rintro (h | h | h)
        · exact .inr (.inl h)
        · exact .inl h
        · exact .inr (.inr h)
      · rintro (h | h | h)
        · exact .inr (.inl h)
        · exact .inl h
        · exact .inr (.inr h)
    · split
      · rename_i _ e
        subst e
        simp
      · simp
theorem insL_asc : ∀ (l : List Int) (n : Int), l.Pairwise (· < ·) → (insL l n).Pairwise (· < ·)
  | [], n, h => by simp [insL]
  | y :: l, n, h => by
    obtain ⟨h1, h2⟩ := List.pairwise_cons.1 h
    simp only [insL]
    split
    · rename_i hy
      refine List.pairwise_cons.2 ⟨fun x hx => ?_, insL_asc l n h2⟩
      rcases (insL_mem l n x).1 hx with rfl | hx
      · exact hy
      · exact h1 x hx
    · split
      · exact h
      · refine List.pairwise_cons.2 ⟨fun x hx => ?_, h⟩
        rcases List.mem_cons.1 hx with rfl | hx
        · omega
        · have := h1 x hx; omega
theorem insL_len : ∀ (l : List Int) (n : Int), (insL l n).length ≤ l.length + 1
  | [], n => by simp [insL]
  | y :: l, n => by
    have := insL_len l n
    simp only [insL]
    split
    · simp; omega
    · split <;> simp
/-- the ends of ranges, each one once -/
def endsL (L : List Rn) : List Int := L.foldl (fun acc r => insL (insL acc r.1) (r.1 + r.2)) []
theorem endsL_succ (L : List Rn) (k : Nat) (hk : k < L.length) : endsL (L.take (k + 1)) = insL (insL (endsL (L.take k)) (L.getD k default).1) ((L.getD k default).1 + (L.getD k default).2) := by
  rw [List.take_succ_eq_append_getElem hk, endsL, List.foldl_append, getD_at L k hk]; rfl
theorem endsL_snoc (L : List Rn) (r : Rn) : endsL (L ++ [r]) = insL (insL (endsL L) r.1) (r.1 + r.2) := by
  rw [endsL, List.foldl_append]; rfl
theorem endsL_all (L : List Rn) : (endsL L).Pairwise (· < ·) ∧ (endsL L).length ≤ 2 * L.length ∧ ∀ x, x ∈ endsL L ↔ ∃ r ∈ L, x = r.1 ∨ x = r.1 + r.2 := by
  have key : ∀ (n : Nat) (L : List Rn), L.length = n → (endsL L).Pairwise (· < ·) ∧ (endsL L).length ≤ 2 * L.length ∧ ∀ x, x ∈ endsL L ↔ ∃ r ∈ L, x = r.1 ∨ x = r.1 + r.2 := by
    intro n
    induction n with
    | zero =>
      intro L h
      obtain rfl := List.length_eq_zero_iff.1 h
      exact ⟨List.Pairwise.nil, by simp [endsL], fun x => by simp [endsL]⟩
    | succ n ih =>
      intro L h
      rcases Old.nil_or L with rfl | ⟨i, r, rfl⟩
      · simp at h
      · obtain ⟨h1, h2, h3⟩ := ih i (by simpa using h)
        rw [endsL_snoc]
        refine ⟨insL_asc _ _ (insL_asc _ _ h1), ?_, fun x => ?_⟩
        · have a1 := insL_len (insL (endsL i) r.1) (r.1 + r.2)
          have a2 := insL_len (endsL i) r.1
          simp only [List.length_append, List.length_singleton]
          omega
        · rw [insL_mem, insL_mem, h3]
          constructor
          · rintro (h | h | ⟨q, hq, h⟩)
            · exact ⟨r, by simp, .inr h⟩
            · exact ⟨r, by simp, .inl h⟩
            · exact ⟨q, by simp [hq], h⟩
          · rintro ⟨q, hq, h4⟩
            rcases List.mem_append.1 hq with hq | hq
            · exact .inr (.inr ⟨q, hq, h4⟩)
            · obtain rfl := List.mem_singleton.1 hq
              exact h4.elim (fun h => .inr (.inl h)) .inl
  exact key _ L rfl
/-- which numbers are wanted -/
def want (k : Int) (x y : Bool) : Bool := if k = 0 then x || y else if k = 1 then x && !y else x && y
def selS (a b : List Rn) (k : Int) (e : List Int) : Nat → List Rn
  | 0 => []
  | i + 1 => if want k (hasB a (e.getD i default)) (hasB b (e.getD i default)) = true then Old.addR (selS a b k e i) (e.getD i default, e.getD (i + 1) default - e.getD i default) else selS a b k e i
def selL (a b : List Rn) (k : Int) : List Rn := selS a b k (endsL (a ++ b)) ((endsL (a ++ b)).length - 1)
theorem want_ff (k : Int) : want k false false = false := by
  unfold want
  split
  · rfl
  · split <;> rfl
theorem hasB_mem (l : List Rn) (hv : ∀ r ∈ l, Old.Vld r) (n : Int) : hasB l n = true ↔ Old.Mem l n := by
  rw [hasB, List.any_eq_true]
  constructor
  · rintro ⟨r, hr, h⟩
    simp only [inB, Bool.and_eq_true, decide_eq_true_eq] at h
    exact ⟨r, hr, h.2⟩
  · rintro ⟨r, hr, h⟩
    exact ⟨r, hr, by simp only [inB, Bool.and_eq_true, decide_eq_true_eq]; exact ⟨hv r hr, h⟩⟩
theorem hasB_dec (l : List Rn) (hv : ∀ r ∈ l, Old.Vld r) (n : Int) : hasB l n = decide (Old.Mem l n) := by
  rw [Bool.eq_iff_iff, hasB_mem l hv, decide_eq_true_eq]
theorem asc_lt {E : List Int} (h : E.Pairwise (· < ·)) {i j : Nat} (hij : i < j) (hj : j < E.length) : E.getD i default < E.getD j default := by
  rw [List.getD_eq_getElem?_getD, List.getD_eq_getElem?_getD, List.getElem?_eq_getElem hj, List.getElem?_eq_getElem (by omega)]
  exact List.pairwise_iff_getElem.1 h i j (by omega) hj hij
theorem asc_ix {E : List Int} {x : Int} (hx : x ∈ E) : ∃ j, j < E.length ∧ E.getD j default = x := by
  obtain ⟨j, hj, e⟩ := List.getElem_of_mem hx
  exact ⟨j, hj, by rw [List.getD_eq_getElem?_getD, List.getElem?_eq_getElem hj]; exact e⟩
theorem asc_side {E : List Int} (h : E.Pairwise (· < ·)) {i : Nat} (hi : i + 1 < E.length) {x n : Int} (hx : x ∈ E) (h1 : E.getD i default ≤ n) (h2 : n < E.getD (i + 1) default) : (x ≤ n ↔ x ≤ E.getD i default) ∧ (n < x ↔ E.getD i default < x) := by
  obtain ⟨j, hj, rfl⟩ := asc_ix hx
  by_cases hji : j ≤ i
  · have : E.getD j default ≤ E.getD i default := by
      rcases Nat.lt_or_eq_of_le hji with h3 | rfl
      · exact Int.le_of_lt (asc_lt h h3 (by omega))
      · exact Int.le_refl _
    omega
  · have : E.getD (i + 1) default ≤ E.getD j default := by
      rcases Nat.lt_or_eq_of_le (show i + 1 ≤ j by omega) with h3 | rfl
      · exact Int.le_of_lt (asc_lt h h3 hj)
      · exact Int.le_refl _
    omega
theorem has_same {E : List Int} (h : E.Pairwise (· < ·)) (l : List Rn) (hl : ∀ r ∈ l, r.1 ∈ E ∧ r.1 + r.2 ∈ E) {i : Nat} (hi : i + 1 < E.length) {n : Int} (h1 : E.getD i default ≤ n) (h2 : n < E.getD (i + 1) default) : hasB l n = hasB l (E.getD i default) := by
  unfold hasB
  rw [Bool.eq_iff_iff, List.any_eq_true, List.any_eq_true]
  have key : ∀ r ∈ l, inB r n = inB r (E.getD i default) := fun r hr => by
    obtain ⟨a1, a2⟩ := hl r hr
    have s1 := asc_side h hi a1 h1 h2
    have s2 := asc_side h hi a2 h1 h2
    simp only [inB]
    rw [decide_eq_decide.2 s1.1, decide_eq_decide.2 s2.2]
  exact ⟨fun ⟨r, hr, h⟩ => ⟨r, hr, by rw [← key r hr]; exact h⟩, fun ⟨r, hr, h⟩ => ⟨r, hr, by rw [key r hr]; exact h⟩⟩
theorem has_out {E : List Int} (h : E.Pairwise (· < ·)) (l : List Rn) (hl : ∀ r ∈ l, r.1 ∈ E ∧ r.1 + r.2 ∈ E) {n : Int} (hn : n < E.getD 0 default ∨ E.getD (E.length - 1) default ≤ n) : hasB l n = false := by
  rw [Bool.eq_false_iff]
  intro hh
  rw [hasB, List.any_eq_true] at hh
  obtain ⟨r, hr, hi⟩ := hh
  obtain ⟨a1, a2⟩ := hl r hr
  simp only [inB, Bool.and_eq_true, decide_eq_true_eq] at hi
  obtain ⟨j, hj, e1⟩ := asc_ix a1
  obtain ⟨j2, hj2, e2⟩ := asc_ix a2
  rcases hn with hn | hn
  · have : E.getD 0 default ≤ E.getD j default := by
      rcases Nat.eq_zero_or_pos j with rfl | h3
      · exact Int.le_refl _
      · exact Int.le_of_lt (asc_lt h h3 hj)
    omega
  · have : E.getD j2 default ≤ E.getD (E.length - 1) default := by
      rcases Nat.lt_or_eq_of_le (show j2 ≤ E.length - 1 by omega) with h3 | rfl
      · exact Int.le_of_lt (asc_lt h h3 (by omega))
      · exact Int.le_refl _
    omega

theorem selS_ok (a b : List Rn) (k : Int) {E : List Int} (h : E.Pairwise (· < ·)) (h0 : ∀ x ∈ E, 0 ≤ x ∧ x ≤ 1073741824) (ha : ∀ r ∈ a, r.1 ∈ E ∧ r.1 + r.2 ∈ E) (hb : ∀ r ∈ b, r.1 ∈ E ∧ r.1 + r.2 ∈ E) : ∀ i, i + 1 ≤ E.length →
    Old.NF (selS a b k E i) ∧ (∀ r ∈ selS a b k E i, r.1 + r.2 ≤ E.getD i default) ∧ (selS a b k E i).length ≤ i ∧ ∀ n, Old.Mem (selS a b k E i) n ↔ (E.getD 0 default ≤ n ∧ n < E.getD i default) ∧ want k (hasB a n) (hasB b n) = true
  | 0, hi => ⟨Old.nf_nil, fun r hr => by simp [selS] at hr, Nat.le_refl _, fun n => ⟨fun hm => absurd hm (Old.mem_nil n), fun ⟨hm, _⟩ => by omega⟩⟩
  | i + 1, hi => by
    obtain ⟨p1, p2, p3, p4⟩ := selS_ok a b k h h0 ha hb i (by omega)
    have hlt := asc_lt h (show i < i + 1 by omega) (by omega)
    have hge : E.getD 0 default ≤ E.getD i default := by
      rcases Nat.eq_zero_or_pos i with rfl | h3
      · exact Int.le_refl _
      · exact Int.le_of_lt (asc_lt h h3 (by omega))
    have hin : ∀ j, j < E.length → 0 ≤ E.getD j default ∧ E.getD j default ≤ 1073741824 := fun j hj => h0 _ (by rw [List.getD_eq_getElem?_getD, List.getElem?_eq_getElem hj]; exact List.getElem_mem hj)
    have i1 := hin i (by omega)
    have i2 := hin (i + 1) (by omega)
    have hsame : ∀ n, E.getD i default ≤ n → n < E.getD (i + 1) default → want k (hasB a n) (hasB b n) = want k (hasB a (E.getD i default)) (hasB b (E.getD i default)) := fun n q1 q2 => by
      rw [has_same h a ha (by omega) q1 q2, has_same h b hb (by omega) q1 q2]
    simp only [selS]
    split
    · rename_i hw
      have hpos := fun r (hr : r ∈ selS a b k E i) => p1.1 r hr
      obtain ⟨q1, q2, q3, q4⟩ := Old.add_ok (selS a b k E i) (E.getD i default, E.getD (i + 1) default - E.getD i default) p1 (fun r hr => by have := p2 r hr; have := (hpos r hr).2.1; dsimp only; omega) (by dsimp only; omega) (by dsimp only; omega) (by dsimp only; omega)
      refine ⟨q1, q4 _ (fun r hr => by have := p2 r hr; omega) (by dsimp only; omega), ?_, fun n => ?_⟩
      · rcases Old.nil_or (selS a b k E i) with e | ⟨l, x, e⟩
        · rw [e, Old.addR_nil]; simp
        · rw [e] at p3 ⊢
          by_cases hx : E.getD i default ≤ x.1 + x.2
          · rw [Old.addR_on _ _ _ hx]; simp at p3 ⊢; omega
          · rw [Old.addR_off _ _ _ hx]; simp at p3 ⊢; omega
      · rw [q2, p4]
        dsimp only
        constructor
        · rintro (⟨⟨c1, c2⟩, c3⟩ | ⟨c1, c2⟩)
          · exact ⟨⟨c1, by omega⟩, c3⟩
          · exact ⟨⟨by omega, by omega⟩, by rw [hsame n c1 (by omega)]; exact hw⟩
        · rintro ⟨⟨c1, c2⟩, c3⟩
          by_cases hn : n < E.getD i default
          · exact .inl ⟨⟨c1, hn⟩, c3⟩
          · exact .inr ⟨by omega, by omega⟩
    · rename_i hw
      refine ⟨p1, fun r hr => by have := p2 r hr; omega, by omega, fun n => ?_⟩
      rw [p4]
      constructor
      · rintro ⟨⟨c1, c2⟩, c3⟩
        exact ⟨⟨c1, by omega⟩, c3⟩
      · rintro ⟨⟨c1, c2⟩, c3⟩
        by_cases hn : n < E.getD i default
        · exact ⟨⟨c1, hn⟩, c3⟩
        · rw [hsame n (by omega) (by omega)] at c3
          exact absurd c3 hw
/-- what the reference selects: a normal form of what is wanted -/
theorem sel_ok (a b : List Rn) (k : Int) (ha : ∀ r ∈ a, Old.Vld r) (hb : ∀ r ∈ b, Old.Vld r) : Old.NF (selL a b k) ∧ (selL a b k).length ≤ 2 * (a.length + b.length) ∧ ∀ n, Old.Mem (selL a b k) n ↔ want k (hasB a n) (hasB b n) = true := by
  obtain ⟨e1, e2, e3⟩ := endsL_all (a ++ b)
  have hA : ∀ r ∈ a, r.1 ∈ endsL (a ++ b) ∧ r.1 + r.2 ∈ endsL (a ++ b) := fun r hr => ⟨(e3 _).2 ⟨r, by simp [hr], .inl rfl⟩, (e3 _).2 ⟨r, by simp [hr], .inr rfl⟩⟩
  have hB : ∀ r ∈ b, r.1 ∈ endsL (a ++ b) ∧ r.1 + r.2 ∈ endsL (a ++ b) := fun r hr => ⟨(e3 _).2 ⟨r, by simp [hr], .inl rfl⟩, (e3 _).2 ⟨r, by simp [hr], .inr rfl⟩⟩
  have h0 : ∀ x ∈ endsL (a ++ b), 0 ≤ x ∧ x ≤ 1073741824 := fun x hx => by
    obtain ⟨r, hr, h⟩ := (e3 x).1 hx
    have hv : Old.Vld r := (List.mem_append.1 hr).elim (ha r) (hb r)
    have := (vld_iff r).1 hv
    omega
  have hlen : (a ++ b).length = a.length + b.length := List.length_append
  by_cases hE : (endsL (a ++ b)).length = 0
  · have hn : a = [] ∧ b = [] := by
      rcases a with _ | ⟨x, a⟩
      · rcases b with _ | ⟨x, b⟩
        · exact ⟨rfl, rfl⟩
        · have := (hB x (by simp)).1
          rw [List.length_eq_zero_iff.1 hE] at this
          cases this
      · have := (hA x (by simp)).1
        rw [List.length_eq_zero_iff.1 hE] at this
        cases this
    obtain ⟨rfl, rfl⟩ := hn
    have e : selL [] [] k = [] := rfl
    rw [e]
    refine ⟨Old.nf_nil, by simp, fun n => ⟨fun hm => absurd hm (Old.mem_nil n), fun hw => ?_⟩⟩
    have : want k (hasB [] n) (hasB [] n) = false := want_ff k
    rw [this] at hw
    cases hw
  · obtain ⟨p1, p2, p3, p4⟩ := selS_ok a b k e1 h0 hA hB ((endsL (a ++ b)).length - 1) (by omega)
    refine ⟨p1, ?_, fun n => (p4 n).trans ⟨fun h => h.2, fun hw => ⟨?_, hw⟩⟩⟩
    · show (selS a b k (endsL (a ++ b)) ((endsL (a ++ b)).length - 1)).length ≤ _
      omega
    · refine Decidable.byContradiction fun hc => ?_
      have ho : n < (endsL (a ++ b)).getD 0 default ∨ (endsL (a ++ b)).getD ((endsL (a ++ b)).length - 1) default ≤ n := by omega
      rw [has_out e1 a hA ho, has_out e1 b hB ho, want_ff] at hw
      cases hw
end Go.Proofs.Ytgfdmeaganhpiaa
