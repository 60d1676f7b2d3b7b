/- Places of tokens: LexerPlaces. No conditions but those of each theorem. -/
import Derived.Test.YtnjidpidcmapkaaSyZ
import Derived.KernelRfl
import Derived.Test.YtnjidpidcmapkaaXD
namespace Go.Proofs.Ytnjidpidcmapkaa
open Go.RowKit
set_option linter.unusedVariables false
set_option linter.unnecessarySimpa false
set_option linter.unusedSimpArgs false
/-- line and column of a place -/
def posF (L : List Int) : Nat → Int × Int
  | 0 => (1, 1)
  | i + 1 => if L.getD i 0 = 10 then ((posF L i).1 + 1, 1) else ((posF L i).1, (posF L i).2 + 1)
theorem posF_lt (L : List Int) (i : Nat) : ∀ n, (posF L i).1 < (posF L (i + n + 1)).1 ∨ ((posF L i).1 = (posF L (i + n + 1)).1 ∧ (posF L i).2 < (posF L (i + n + 1)).2)
  | 0 => by
    simp only [Nat.add_zero]
    rw [posF]
    split
    · left; simp only; omega
    · right; exact ⟨rfl, by simp only; omega⟩
  | n + 1 => by
    have ih := posF_lt L i n
    rw [show i + (n + 1) + 1 = (i + n + 1) + 1 by omega, posF]
    split
    · left; simp only; omega
    · simp only; omega
theorem posF_inj {L : List Int} {i j : Nat} (h : posF L i = posF L j) : i = j := by
  rcases Nat.lt_trichotomy i j with h1 | h1 | h1
  · have := posF_lt L i (j - i - 1)
    rw [show i + (j - i - 1) + 1 = j by omega, h] at this
    omega
  · exact h1
  · have := posF_lt L j (i - j - 1)
    rw [show j + (i - j - 1) + 1 = i by omega, h] at this
    omega
theorem pos_run (L : List Int) (i : Nat) : ∀ n, (∀ j, j < n → L.getD (i + j) 0 ≠ 10) → posF L (i + n) = ((posF L i).1, (posF L i).2 + n)
  | 0, _ => by simp
  | n + 1, h => by
    have ih := pos_run L i n fun j hj => h j (by omega)
    rw [show i + (n + 1) = (i + n) + 1 by omega, posF, if_neg (h n (by omega)), ih]
    simp only [Prod.mk.injEq, true_and]
    omega
theorem posF_bd (L : List Int) : ∀ i, 1 ≤ (posF L i).1 ∧ (posF L i).1 ≤ i + 1 ∧ 1 ≤ (posF L i).2 ∧ (posF L i).2 ≤ i + 1
  | 0 => by simp [posF]
  | i + 1 => by
    have := posF_bd L i
    rw [posF]
    split
    · simp only; omega
    · simp only; omega
/-- a token stands in the text at its place -/
def Okt (L : List Int) (x : Tk) (s : Nat) : Prop :=
  s ≤ L.length ∧ posF L s = (x.line, x.col) ∧ ((x.kind = 1 ∨ x.kind = 4) → s + x.text.length ≤ L.length ∧ (L.drop s).take x.text.length = x.text) ∧ (x.kind = 5 → s = L.length)
def Stt (L : List Int) (T : List Tk) (st : Nat → Nat) (n : Nat) : Prop :=
  (∀ k, k < T.length → Okt L (T.getD k default) (st k) ∧ st k < n) ∧ ∀ j k, j < k → k < T.length → st j < st k
theorem Stt.mono {L : List Int} {T : List Tk} {st : Nat → Nat} {n m : Nat} (h : Stt L T st n) (hm : n ≤ m) : Stt L T st m :=
  ⟨fun k hk => ⟨(h.1 k hk).1, by have := (h.1 k hk).2; omega⟩, h.2⟩
theorem Stt.snoc {L : List Int} {T : List Tk} {st : Nat → Nat} {i n : Nat} {x : Tk} (h : Stt L T st i) (hx : Okt L x i) (hn : i < n) : Stt L (T ++ [x]) (fun k => if k < T.length then st k else i) n := by
  refine ⟨fun k hk => ?_, fun j k hjk hk => ?_⟩
  · rw [List.length_append, List.length_singleton] at hk
    by_cases e : k < T.length
    · simp only [if_pos e]
      rw [List.getD_eq_getElem?_getD, List.getElem?_append_left e, ← List.getD_eq_getElem?_getD]
      have := h.1 k e
      exact ⟨this.1, by omega⟩
    · obtain rfl : k = T.length := by omega
      simp only [if_neg e]
      rw [List.getD_eq_getElem?_getD, List.getElem?_append_right (Nat.le_refl _), Nat.sub_self]
      exact ⟨hx, hn⟩
  · rw [List.length_append, List.length_singleton] at hk
    by_cases e : k < T.length
    · simp only [if_pos e, if_pos (show j < T.length by omega)]
      exact h.2 j k hjk e
    · simp only [if_neg e, if_pos (show j < T.length by omega)]
      exact (h.1 j (by omega)).2
theorem txt_no (L : List Int) : ∀ (n : Nat) (out : List Int) (k : Nat) (w : List Int) (j : Nat), L.length - k ≤ n → txt L out k = some (w, j) → ∀ m, k ≤ m → m < j → L.getD m 0 ≠ 10
  | 0, out, k, w, j, hn, h => by
    rw [txt, dif_neg (by omega)] at h
    cases h
  | n + 1, out, k, w, j, hn, h => by
    intro m hm1 hm2
    rw [txt] at h
    split at h
    · split at h
      · rename_i h1
        simp only [Option.some.injEq, Prod.mk.injEq] at h
        rw [show m = k by omega, h1]; decide
      · split at h
        · rename_i h2
          split at h
          · rename_i h3
            have h3' := of_decide_eq_true h3
            rw [drop_getD, Nat.add_zero] at h3'
            by_cases e1 : m = k
            · rw [e1, h2]; decide
            · by_cases e2 : m = k + 1
              · rw [e2]; omega
              · exact txt_no L n _ _ _ _ (by omega) h m (by omega) hm2
          · cases h
        · split at h
          · rename_i h3
            have h3' := of_decide_eq_true h3
            by_cases e1 : m = k
            · rw [e1]; omega
            · exact txt_no L n _ _ _ _ (by omega) h m (by omega) hm2
          · cases h
    · cases h
theorem one_take (L : List Int) (i : Nat) (h : i < L.length) : (L.drop i).take 1 = [L.getD i 0] := by
  rw [List.drop_eq_getElem_cons h, List.take_succ_cons, List.take_zero, List.getD_eq_getElem?_getD, List.getElem?_eq_getElem h]
  rfl
theorem lex_st (L : List Int) : ∀ (f i : Nat) (l c : Int) (T T0 : List Tk) (st : Nat → Nat), lex L f i l c T = .ok T0 → posF L i = (l, c) → i ≤ L.length → Stt L T st i → ∃ st', Stt L T0 st' (L.length + 1)
  | 0, i, l, c, T, T0, st, h, _, _, _ => by cases h
  | f + 1, i, l, c, T, T0, st, h, hp, hi, hS => by
    have ih := lex_st L f
    rw [lex] at h
    split at h
    · rename_i h0
      have hp1 : posF L (i + 1) = if L.getD i 0 = 10 then (l + 1, 1) else (l, c + 1) := by rw [posF, hp]
      split at h
      · rename_i h1
        rw [if_pos h1] at hp1
        exact ih _ _ _ _ _ _ h hp1 (by omega) (hS.mono (by omega))
      rename_i h1
      rw [if_neg h1] at hp1
      split at h
      · exact ih _ _ _ _ _ _ h hp1 (by omega) (hS.mono (by omega))
      split at h
      · rename_i h2 h3
        have hle := tl_le noLf L i hi
        refine ih _ _ _ _ _ _ h ?_ (by omega) (hS.mono (by omega))
        rw [pos_run L i _ fun j hj => of_decide_eq_true (tl_in noLf L i j hj), hp]
      split at h
      · refine ih _ _ _ _ _ _ h hp1 (by omega) (hS.snoc ⟨hi, hp, fun _ => ⟨by simp only [List.length_singleton]; omega, one_take L i h0⟩, fun hk => ?_⟩ (by omega))
        cases hk
      split at h
      · rename_i h4 h5
        have hle := tl_le isW L i hi
        have hps := tl_pos isW L i h5 h0
        have hpw : posF L (i + tl isW L i) = (l, c + tl isW L i) := by
          rw [pos_run L i _ fun j hj => ?_, hp]
          have := of_decide_eq_true (tl_in isW L i j hj)
          omega
        split at h
        · split at h
          · exact ih _ _ _ _ _ _ h hpw (by omega) (hS.snoc ⟨hi, hp, fun hk => (by rcases hk with hk | hk <;> cases hk), fun hk => (by cases hk)⟩ (by omega))
          · cases h
        · refine ih _ _ _ _ _ _ h hpw (by omega) (hS.snoc ⟨hi, hp, fun _ => ⟨by simp only [tw_len]; omega, ?_⟩, fun hk => by cases hk⟩ (by omega))
          exact tw_take isW (L.drop i)
      split at h
      · rename_i h6
        cases hq : txt L [] (i + 1) with
        | none => rw [hq] at h; cases h
        | some p =>
          obtain ⟨w, j⟩ := p
          rw [hq] at h
          dsimp only at h
          have hj := txt_le L _ _ _ _ _ (Nat.le_refl _) hq
          have hn := txt_no L _ _ _ _ _ (Nat.le_refl _) hq
          have hpw : posF L (i + (j - i)) = (l, c + ((j - i : Nat) : Int)) := by
            rw [pos_run L i _ fun m hm => ?_, hp]
            by_cases e : m = 0
            · rw [e, Nat.add_zero, h6]; decide
            · exact hn (i + m) (by omega) (by omega)
          rw [show i + (j - i) = j by omega, show ((j - i : Nat) : Int) = (j : Int) - i by omega] at hpw
          exact ih _ _ _ _ _ _ h hpw (by omega) (hS.snoc ⟨hi, hp, fun hk => (by rcases hk with hk | hk <;> cases hk), fun hk => (by cases hk)⟩ (by omega))
      · cases h
    · rename_i h0
      simp only [Rs.ok.injEq] at h
      subst h
      exact ⟨_, hS.snoc ⟨hi, hp, fun hk => (by rcases hk with hk | hk <;> cases hk), fun _ => by omega⟩ (by omega)⟩
/-- what stands between the pieces -/
def seps : List (List Int) := [[32], [10], [32, 35, 32, 120, 10], []]
def sepsB : List ByteArray := [ByteArray.mk #[32], ByteArray.mk #[10], ByteArray.mk #[32, 35, 32, 120, 10], ByteArray.mk #[]]
theorem seps_eq : sepsB = seps.map str := by kernel_rfl
def sepW (k : Int) : List Int := seps.getD k.toNat []
theorem sep_bts (k : Int) : Bts (sepW k) ∧ (sepW k).length ≤ 5 := by
  unfold sepW
  have key : ∀ l ∈ seps, (l.all (fun z => decide (0 ≤ z) && decide (z < 256)) && decide (l.length ≤ 5)) = true := by decide +kernel
  rw [List.getD_eq_getElem?_getD]
  cases e : seps[k.toNat]? with
  | none => exact ⟨fun z hz => (by cases hz), Nat.zero_le _⟩
  | some l =>
    have h := key l (List.mem_of_getElem? e)
    rw [Bool.and_eq_true] at h
    exact ⟨bts_lit l h.1, of_decide_eq_true h.2⟩
theorem sep_at (k : Int) (h : 0 ≤ k ∧ k < 4) : sepsB.getD k.toNat default = str (sepW k) := by
  rw [seps_eq]
  unfold sepW
  have hl : k.toNat < seps.length := by show k.toNat < 4; omega
  rw [List.getD_eq_getElem?_getD, List.getElem?_map, List.getElem?_eq_getElem hl, List.getD_eq_getElem?_getD, List.getElem?_eq_getElem hl]
  rfl
theorem sep_lit (z : List Int) (m p : Nat) (hm : m ≤ 1000) (hz : m ≤ z.length) (hp : p ≤ m) : CallOK Try.prog 18 [.ptr 0 0 0 0, .sl 2 0 1 4 none] [(0, .blk 47 [.sl 1 0 1 m none, I p]), (1, .ro 1 z.length (rowG encI z)), (2, .ro 1 4 (rowsOf (sepsB.map (fun t => S t)) 1))] (S (str (sepW (nV z m p 4)))) [(0, some (.blk 47 [.sl 1 0 1 m none, I (nA m p 4)]))] := by
  have h := nV_bd z m p 4 (by omega)
  rw [← sep_at _ h]
  refine (word_any z m p sepsB hm hz hp (by decide)).sim fun id => ?_
  simp only [find]
  split
  · exact OSim.refl _
  · split
    · exact OSim.refl _
    · split
      · exact ob_lit (fun s => S s) sepsB
      · exact OSim.refl _
theorem lex_errs (L : List Int) : ∀ (f i : Nat) (l c : Int) (T : List Tk) (e l0 c0 : Int), lex L f i l c T = .err e l0 c0 → L.length < f + i → i ≤ L.length → e = 1 ∨ e = 8
  | 0, i, l, c, T, e, l0, c0, h, hf, hi => by omega
  | f + 1, i, l, c, T, e, l0, c0, h, hf, hi => by
    have ih := lex_errs L f
    have hn := tl_le noLf L i hi
    have hw := tl_le isW L i hi
    rw [lex] at h
    split at h
    · rename_i h0
      split at h
      · exact ih _ _ _ _ _ _ _ h (by omega) (by omega)
      split at h
      · exact ih _ _ _ _ _ _ _ h (by omega) (by omega)
      split at h
      · rename_i h3
        have := tl_pos noLf L i (by rw [h3]; rfl) h0
        exact ih _ _ _ _ _ _ _ h (by omega) (by omega)
      split at h
      · exact ih _ _ _ _ _ _ _ h (by omega) (by omega)
      split at h
      · rename_i h5
        have := tl_pos isW L i h5 h0
        split at h
        · split at h
          · exact ih _ _ _ _ _ _ _ h (by omega) (by omega)
          · simp only [Rs.err.injEq] at h; omega
        · exact ih _ _ _ _ _ _ _ h (by omega) (by omega)
      split at h
      · cases hq : txt L [] (i + 1) with
        | none => rw [hq] at h; simp only [Rs.err.injEq] at h; omega
        | some p =>
          obtain ⟨w, j⟩ := p
          rw [hq] at h
          dsimp only at h
          have hj := txt_le L _ _ _ _ _ (Nat.le_refl _) hq
          exact ih _ _ _ _ _ _ _ h (by omega) (by omega)
      · simp only [Rs.err.injEq] at h; omega
    · cases h
end Go.Proofs.Ytnjidpidcmapkaa
