/- Tokens with other blanks between them are read again: the pure part of LexerBlanks. No conditions but those of each theorem. -/
import Derived.Test.YtnjidpidcmapkaaSyZ
import Derived.KernelRfl
import Derived.Test.YtnjidpidcmapkaaXE
namespace Go.Proofs.Ytnjidpidcmapkaa
open Go.RowKit
set_option linter.unusedVariables false
set_option linter.unnecessarySimpa false
set_option linter.unusedSimpArgs false
/-- what a token of a text is -/
def Wfk (x : Tk) : Prop :=
  (x.kind = 1 ∧ x.text ≠ [] ∧ (∀ z ∈ x.text, isW z = true) ∧ ¬ isNum x.text = true) ∨ x.kind = 2 ∨
  (x.kind = 3 ∧ ∀ z ∈ x.text, isQ z = true) ∨ (x.kind = 4 ∧ ∃ z, x.text = [z] ∧ isS z = true)
def sumT (T : List Tk) : Nat := (T.map fun x => x.text.length).sum
theorem sumT_snoc (T : List Tk) (x : Tk) : sumT (T ++ [x]) = sumT T + x.text.length := by simp [sumT]
theorem escV_q {r : List Int} (h : escB r = true) : isQ (escV r) = true := by
  have h' := of_decide_eq_true h
  unfold escV
  split
  · decide
  · split
    · decide
    · split
      · decide
      · omega
theorem txt_q (L : List Int) : ∀ (n : Nat) (out : List Int) (k : Nat) (w : List Int) (j : Nat), L.length - k ≤ n → txt L out k = some (w, j) → (∀ z ∈ out, isQ z = true) → (∀ z ∈ w, isQ z = true) ∧ w.length + k < out.length + j
  | 0, out, k, w, j, hn, h, _ => by
    rw [txt, dif_neg (by omega)] at h
    cases h
  | n + 1, out, k, w, j, hn, h, hq => by
    have snoc : ∀ z, isQ z = true → ∀ y ∈ out ++ [z], isQ y = true := fun z hz y hy => by
      rcases List.mem_append.1 hy with hy | hy
      · exact hq y hy
      · rw [List.mem_singleton.1 hy]; exact hz
    rw [txt] at h
    split at h
    · split at h
      · simp only [Option.some.injEq, Prod.mk.injEq] at h
        obtain ⟨rfl, rfl⟩ := h
        exact ⟨hq, by omega⟩
      · split at h
        · split at h
          · rename_i h3
            have := txt_q L n _ _ _ _ (by omega) h (snoc _ (escV_q h3))
            rw [List.length_append, List.length_singleton] at this
            exact ⟨this.1, by omega⟩
          · cases h
        · split at h
          · rename_i h3
            have h3' := of_decide_eq_true h3
            have := txt_q L n _ _ _ _ (by omega) h (snoc _ (decide_eq_true (by omega)))
            rw [List.length_append, List.length_singleton] at this
            exact ⟨this.1, by omega⟩
          · cases h
    · cases h
theorem lex_wf (L : List Int) : ∀ (f i : Nat) (l c : Int) (T T0 : List Tk), lex L f i l c T = .ok T0 → i ≤ L.length → (∀ x ∈ T, Wfk x) → sumT T ≤ i → ∃ T' l' c', T0 = T' ++ [Tk.mk 5 [] 0 l' c'] ∧ (∀ x ∈ T', Wfk x) ∧ sumT T' ≤ L.length
  | 0, i, l, c, T, T0, h, _, _, _ => by cases h
  | f + 1, i, l, c, T, T0, h, hi, hT, hs => by
    have ih := lex_wf L f
    have hn := tl_le noLf L i hi
    have hw := tl_le isW L i hi
    have snoc : ∀ x, Wfk x → ∀ y ∈ T ++ [x], Wfk y := fun x hx y hy => by
      rcases List.mem_append.1 hy with hy | hy
      · exact hT y hy
      · rw [List.mem_singleton.1 hy]; exact hx
    rw [lex] at h
    split at h
    · rename_i h0
      split at h
      · exact ih _ _ _ _ _ h (by omega) hT (by omega)
      split at h
      · exact ih _ _ _ _ _ h (by omega) hT (by omega)
      split at h
      · exact ih _ _ _ _ _ h (by omega) hT (by omega)
      split at h
      · rename_i h4
        exact ih _ _ _ _ _ h (by omega) (snoc _ (.inr (.inr (.inr ⟨rfl, _, rfl, h4⟩)))) (by rw [sumT_snoc, List.length_singleton]; omega)
      split at h
      · rename_i h5
        have hp := tl_pos isW L i h5 h0
        split at h
        · split at h
          · exact ih _ _ _ _ _ h (by omega) (snoc _ (.inr (.inl rfl))) (by rw [sumT_snoc, List.length_nil]; omega)
          · cases h
        · rename_i h6
          refine ih _ _ _ _ _ h (by omega) (snoc _ (.inl ⟨rfl, fun e => ?_, fun z hz => ?_, h6⟩)) (by rw [sumT_snoc, tw_len]; omega)
          · have := tw_len isW L i
            rw [show tw isW L i = [] from e] at this
            simp at this; omega
          · exact List.all_eq_true.1 List.all_takeWhile z hz
      split at h
      · cases hq : txt L [] (i + 1) with
        | none => rw [hq] at h; cases h
        | some p =>
          obtain ⟨w, j⟩ := p
          rw [hq] at h
          dsimp only at h
          have hj := txt_le L _ _ _ _ _ (Nat.le_refl _) hq
          have hk := txt_q L _ _ _ _ _ (Nat.le_refl _) hq (fun z hz => by cases hz)
          rw [List.length_nil] at hk
          exact ih _ _ _ _ _ h (by omega) (snoc _ (.inr (.inr (.inl ⟨rfl, hk.1⟩)))) (by rw [sumT_snoc]; dsimp only; omega)
      · cases h
    · simp only [Rs.ok.injEq] at h
      exact ⟨T, l, c, h.symm, hT, by omega⟩
/-! ### Where the reading stands -/
def AtP (J : List Int) (i : Nat) (T : List Tk) : Prop := ∃ f l c, J.length < f + i ∧ lexF J = lex J f i l c T
theorem AtP.start (J : List Int) : AtP J 0 [] := ⟨_, _, _, by omega, rfl⟩
theorem AtP.fuel {J : List Int} {i : Nat} {T : List Tk} (h : AtP J i T) (hi : i ≤ J.length) : ∃ f l c, J.length < f + 1 + i ∧ lexF J = lex J (f + 1) i l c T := by
  obtain ⟨f, l, c, h1, h2⟩ := h
  obtain ⟨f, rfl⟩ : ∃ f', f = f' + 1 := ⟨f - 1, by omega⟩
  exact ⟨f, l, c, h1, h2⟩
theorem AtP.nl {J t : List Int} {i : Nat} {T : List Tk} (h : AtP J i T) (hd : J.drop i = 10 :: t) : AtP J (i + 1) T := by
  obtain ⟨h1, h2, h3⟩ := drop_facts hd
  obtain ⟨f, l, c, hf, he⟩ := h.fuel (by omega)
  rw [lex, if_pos h1, if_pos h2] at he
  exact ⟨f, _, _, by omega, he⟩
theorem AtP.blank {J t : List Int} {a : Int} {i : Nat} {T : List Tk} (h : AtP J i T) (hd : J.drop i = a :: t) (ha : a = 32 ∨ a = 9) : AtP J (i + 1) T := by
  obtain ⟨h1, h2, h3⟩ := drop_facts hd
  obtain ⟨f, l, c, hf, he⟩ := h.fuel (by omega)
  rw [lex, if_pos h1, h2, if_neg (by omega), if_pos ha] at he
  exact ⟨f, _, _, by omega, he⟩
theorem tw_pre (p : Int → Bool) : ∀ (u : List Int) (a : Int) (t : List Int), (∀ z ∈ u, p z = true) → p a = false → (u ++ a :: t).takeWhile p = u
  | [], a, t, _, ha => by rw [List.nil_append, List.takeWhile_cons_of_neg (by rw [ha]; decide)]
  | x :: u, a, t, hu, ha => by
    rw [List.cons_append, List.takeWhile_cons_of_pos (hu x (List.mem_cons_self ..)), tw_pre p u a t (fun z hz => hu z (List.mem_cons_of_mem _ hz)) ha]
theorem AtP.comment {J t u : List Int} {i : Nat} {T : List Tk} (h : AtP J i T) (hd : J.drop i = (35 :: u) ++ 10 :: t) (hu : ∀ z ∈ u, z ≠ 10) : AtP J (i + (u.length + 1)) T := by
  obtain ⟨h1, h2, h3⟩ := drop_facts (show J.drop i = 35 :: (u ++ 10 :: t) from hd)
  have ht : tl noLf J i = u.length + 1 := by
    unfold tl
    rw [hd, tw_pre noLf (35 :: u) 10 t (fun z hz => ?_) (by decide)]
    · rfl
    · rcases List.mem_cons.1 hz with e | e
      · rw [e]; decide
      · simp only [noLf, decide_eq_true_eq]; exact hu z e
  obtain ⟨f, l, c, hf, he⟩ := h.fuel (by omega)
  rw [lex, if_pos h1, h2, if_neg (by decide), if_neg (by decide), if_pos rfl, ht] at he
  exact ⟨f, _, _, by omega, he⟩
/-- the blanks between -/
def betB : List (List Int) := [[32], [10], [9], [35, 120, 10], [32, 35, 32, 34, 32, 35, 10, 10]]
theorem drop_two {J a b : List Int} {i : Nat} (h : J.drop i = a ++ b) : J.drop (i + a.length) = b := by
  rw [← List.drop_drop, h, List.drop_left]
theorem AtP.bet {J r b : List Int} {i : Nat} {T : List Tk} (h : AtP J i T) (hb : b ∈ betB) (hd : J.drop i = b ++ r) : AtP J (i + b.length) T := by
  simp only [betB, List.mem_cons, List.not_mem_nil, or_false] at hb
  rcases hb with rfl | rfl | rfl | rfl | rfl
  · exact h.blank hd (.inl rfl)
  · exact h.nl hd
  · exact h.blank hd (.inr rfl)
  · have h1 := h.comment (u := [120]) (t := r) hd (by decide)
    exact h1.nl (t := r) (drop_two (a := [35, 120]) hd)
  · have hd' : J.drop i = 32 :: ([35, 32, 34, 32, 35, 10, 10] ++ r) := by rw [hd]; rfl
    have h1 := h.blank hd' (.inl rfl)
    have d1 : J.drop (i + 1) = [35, 32, 34, 32, 35, 10, 10] ++ r := drop_two (a := [32]) (b := [35, 32, 34, 32, 35, 10, 10] ++ r) hd'
    have h2 := h1.comment (u := [32, 34, 32, 35]) (t := 10 :: r) d1 (by decide)
    have d2 : J.drop (i + 1 + 5) = 10 :: 10 :: r := drop_two (a := [35, 32, 34, 32, 35]) d1
    have h3 := h2.nl d2
    have d3 : J.drop (i + 1 + 5 + 1) = 10 :: r := drop_two (a := [10]) d2
    exact h3.nl d3
theorem bet_head {b : List Int} (hb : b ∈ betB) : ∃ a t, b = a :: t ∧ isW a = false := by
  simp only [betB, List.mem_cons, List.not_mem_nil, or_false] at hb
  rcases hb with rfl | rfl | rfl | rfl | rfl <;> exact ⟨_, _, rfl, by decide⟩
/-- a token as it is written -/
def tokS (x : Tk) : List Int := if x.kind = 3 then quoteL x.text else x.text
theorem AtP.tok {J r : List Int} {a : Int} {i : Nat} {T : List Tk} {y : Tk} (h : AtP J i T) (hy : Wfk y) (h2k : y.kind ≠ 2) (ha : isW a = false) (hd : J.drop i = tokS y ++ a :: r) : ∃ x, x.kind = y.kind ∧ x.text = y.text ∧ AtP J (i + (tokS y).length) (T ++ [x]) := by
  rcases hy with ⟨hk, hne, hall, hnum⟩ | hk | ⟨hk, hall⟩ | ⟨hk, z, hz, hs⟩
  · have e : tokS y = y.text := by rw [tokS, if_neg (by omega)]
    rw [e] at hd ⊢
    obtain ⟨b, t, hb⟩ : ∃ b t, y.text = b :: t := by
      cases ht : y.text with
      | nil => exact absurd ht hne
      | cons b t => exact ⟨b, t, rfl⟩
    have hbw := hall b (by rw [hb]; exact List.mem_cons_self ..)
    obtain ⟨h1, h2, h3⟩ := drop_facts (show J.drop i = b :: (t ++ a :: r) by rw [hd, hb]; rfl)
    have htw : tw isW J i = y.text := by unfold tw; rw [hd]; exact tw_pre isW y.text a r hall ha
    have htl : tl isW J i = y.text.length := by rw [← tw_len, htw]
    have hbs : isS b = false := decide_eq_false fun hh => by
      have := of_decide_eq_true hbw
      omega
    obtain ⟨f, l, c, hf, he⟩ := h.fuel (by omega)
    have hbw' := of_decide_eq_true hbw
    rw [lex, if_pos h1, h2, if_neg (by omega), if_neg (by omega), if_neg (by omega), if_neg (by rw [hbs]; decide), if_pos hbw, htw, if_neg hnum, htl] at he
    have hl : 1 ≤ y.text.length := by rw [hb]; simp
    exact ⟨Tk.mk 1 y.text 0 l c, hk.symm, rfl, f, _, _, by omega, he⟩
  · exact absurd hk h2k
  · have e : tokS y = quoteL y.text := by rw [tokS, if_pos hk]
    rw [e] at hd ⊢
    have hlen : (quoteL y.text).length = (y.text.flatMap qc).length + 2 := by simp [quoteL]
    obtain ⟨h1, h2, h3⟩ := drop_facts (show J.drop i = 34 :: (y.text.flatMap qc ++ 34 :: a :: r) by rw [hd]; simp [quoteL])
    have ht := txt_quote J (a :: r) y.text [] (i + 1) hall h3
    obtain ⟨f, l, c, hf, he⟩ := h.fuel (by omega)
    rw [lex, if_pos h1, h2, if_neg (by decide), if_neg (by decide), if_neg (by decide), if_neg (by decide), if_neg (by decide), if_pos rfl, ht] at he
    dsimp only at he
    rw [show i + 1 + (y.text.flatMap qc).length + 1 = i + (quoteL y.text).length by omega] at he
    exact ⟨Tk.mk 3 ([] ++ y.text) 0 l c, hk.symm, by simp, f, _, _, by omega, he⟩
  · have e : tokS y = [z] := by rw [tokS, if_neg (by omega), hz]
    rw [e] at hd ⊢
    obtain ⟨h1, h2, h3⟩ := drop_facts (show J.drop i = z :: (a :: r) from hd)
    have hs' := of_decide_eq_true hs
    obtain ⟨f, l, c, hf, he⟩ := h.fuel (by omega)
    rw [lex, if_pos h1, h2, if_neg (by omega), if_neg (by omega), if_neg (by omega), if_pos hs] at he
    exact ⟨Tk.mk 4 [z] 0 l c, hk.symm, hz.symm, f, _, _, by simp only [List.length_singleton]; omega, he⟩
def kt (x : Tk) : Int × List Int := (x.kind, x.text)
theorem relex (J b : List Int) (hb : b ∈ betB) : ∀ (ys : List Tk) (i : Nat) (T : List Tk), (∀ y ∈ ys, Wfk y ∧ y.kind ≠ 2) → AtP J i T → J.drop i = ys.flatMap (fun y => tokS y ++ b) → i ≤ J.length → ∃ R, lexF J = .ok R ∧ R.map kt = T.map kt ++ ys.map kt ++ [(5, [])]
  | [], i, T, _, h, hd, hi => by
    have hl : i = J.length := by
      have := congrArg List.length hd
      simp at this; omega
    obtain ⟨f, l, c, hf, he⟩ := h.fuel hi
    rw [lex, if_neg (by omega)] at he
    exact ⟨_, he, by simp [kt]⟩
  | y :: ys, i, T, hy, h, hd, hi => by
    rw [List.flatMap_cons] at hd
    obtain ⟨a, t, e, ha⟩ := bet_head hb
    have hy0 := hy y (List.mem_cons_self ..)
    obtain ⟨x, hx1, hx2, hx3⟩ := h.tok (a := a) (r := t ++ ys.flatMap fun y => tokS y ++ b) hy0.1 hy0.2 ha (by rw [hd, e]; simp)
    have hd2 : J.drop (i + (tokS y).length) = b ++ ys.flatMap fun y => tokS y ++ b := drop_two (by rw [hd, List.append_assoc])
    have hx4 := hx3.bet hb hd2
    have hd3 := drop_two hd2
    have hle : i + (tokS y).length + b.length ≤ J.length := by
      have := congrArg List.length hd
      simp at this; omega
    obtain ⟨R, hR1, hR2⟩ := relex J b hb ys _ _ (fun z hz => hy z (List.mem_cons_of_mem _ hz)) hx4 hd3 hle
    refine ⟨R, hR1, ?_⟩
    rw [hR2]
    simp [kt, hx1, hx2]
def notNum (x : Tk) : Bool := decide (x.kind ≠ 2)
/-- the tokens but numbers, joined by blanks -/
def joinT (b : List Int) (T : List Tk) : List Int := b ++ (T.filter notNum).flatMap fun y => tokS y ++ b
theorem relex_all (b : List Int) (hb : b ∈ betB) (T : List Tk) (hT : ∀ x ∈ T, Wfk x) : ∃ R, lexF (joinT b T) = .ok R ∧ R.map kt = (T.filter notNum).map kt ++ [(5, [])] := by
  have h0 := (AtP.start (joinT b T)).bet (r := (T.filter notNum).flatMap fun y => tokS y ++ b) hb rfl
  obtain ⟨R, h1, h2⟩ := relex (joinT b T) b hb (T.filter notNum) _ _ (fun y hy => by
    rw [List.mem_filter] at hy
    exact ⟨hT y hy.1, of_decide_eq_true hy.2⟩) h0 (by rw [Nat.zero_add]; unfold joinT; rw [List.drop_left]) (by unfold joinT; simp)
  exact ⟨R, h1, by simpa using h2⟩
end Go.Proofs.Ytnjidpidcmapkaa
