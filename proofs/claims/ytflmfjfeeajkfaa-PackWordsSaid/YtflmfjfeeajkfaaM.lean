/- The bytes of words, and back; FromText as one contract. No conditions but those of each theorem. -/
import Derived.Test.YtflmfjfeeajkfaaY
namespace Go.Proofs.Ytflmfjfeeajkfaa
open Go.ChangeShapes Go.WideShapes Go.ChangeAt Go.RowKit
set_option linter.unusedVariables false
set_option linter.unusedSimpArgs false

/-- byte r of a word -/
def bt8 (x r : Nat) : Nat := x / 2 ^ (8 * r) % 256
theorem bt8_bit (x r i : Nat) (hi : i < 8) : (bt8 x r).testBit i = x.testBit (8 * r + i) := by
  unfold bt8
  rw [show 256 = 2 ^ 8 from rfl, Nat.testBit_mod_two_pow, Nat.testBit_div_two_pow]
  simp [hi, Nat.add_comm]
theorem bt8_ext (x y : Nat) (hx : x < 2 ^ 64) (hy : y < 2 ^ 64) (h : ∀ r, r < 8 → bt8 x r = bt8 y r) : x = y := by
  apply Nat.eq_of_testBit_eq
  intro i
  by_cases hi : i < 64
  · have h1 := h (i / 8) (by omega)
    have h2 := bt8_bit x (i / 8) (i % 8) (by omega)
    have h3 := bt8_bit y (i / 8) (i % 8) (by omega)
    rw [show 8 * (i / 8) + i % 8 = i by omega] at h2 h3
    rw [← h2, ← h3, h1]
  · have h1 : 2 ^ 64 ≤ 2 ^ i := Nat.pow_le_pow_right (by omega) (by omega)
    rw [Nat.testBit_lt_two_pow (Nat.lt_of_lt_of_le hx h1), Nat.testBit_lt_two_pow (Nat.lt_of_lt_of_le hy h1)]
theorem bt8_lt (x r : Nat) : bt8 x r < 256 := Nat.mod_lt _ (by omega)
theorem byte_ext (x y : Nat) (hx : x < 256) (hy : y < 256) (h : ∀ i, i < 8 → x.testBit i = y.testBit i) : x = y := by
  apply Nat.eq_of_testBit_eq
  intro i
  by_cases hi : i < 8
  · exact h i hi
  · have h1 : 2 ^ 8 ≤ 2 ^ i := Nat.pow_le_pow_right (by omega) (by omega)
    rw [Nat.testBit_lt_two_pow (Nat.lt_of_lt_of_le hx h1), Nat.testBit_lt_two_pow (Nat.lt_of_lt_of_le hy h1)]
theorem bt8_or (x b r r' : Nat) (hb : b < 256) (hx : bt8 x r = 0) : bt8 (x ||| (b <<< (8 * r))) r' = if r' = r then b else bt8 x r' := by
  refine byte_ext _ _ (bt8_lt _ _) (by split; exact hb; exact bt8_lt _ _) fun i hi => ?_
  rw [bt8_bit _ _ _ hi, Nat.testBit_or, Nat.testBit_shiftLeft]
  by_cases e : r' = r
  · subst e
    rw [if_pos rfl, ← bt8_bit x r' i hi, hx]
    simp
  · rw [if_neg e, bt8_bit _ _ _ hi]
    have h : (decide (8 * r' + i ≥ 8 * r) && b.testBit (8 * r' + i - 8 * r)) = false := by
      by_cases h : 8 * r' + i ≥ 8 * r
      · have h1 : 8 ≤ 8 * r' + i - 8 * r := by omega
        have h2 : 2 ^ 8 ≤ 2 ^ (8 * r' + i - 8 * r) := Nat.pow_le_pow_right (by omega) h1
        rw [Nat.testBit_lt_two_pow (Nat.lt_of_lt_of_le hb h2)]
        simp
      · simp [h]
    rw [h, Bool.or_false]
/-- the bytes of the words of a text -/
theorem tw_byte (b : Nat → Nat) (hb : ∀ i, b i < 256) (n : Nat) (k i : Nat) : bt8 (tw b n k (1 + i / 8)) (i % 8) = if i < k then b i else 0 := by
  induction k with
  | zero => unfold tw; rw [if_neg (by omega)]; simp [bt8]
  | succ k ih =>
    unfold tw
    by_cases e : 1 + i / 8 = 1 + k / 8
    · rw [if_pos e]
      have hk : bt8 (tw b n k (1 + i / 8)) (k % 8) = 0 := by
        have : ∀ m, (∀ j, bt8 (tw b n m (1 + j / 8)) (j % 8) = if j < m then b j else 0) := by
          intro m
          induction m with
          | zero => intro j; unfold tw; rw [if_neg (by omega)]; simp [bt8]
          | succ m ihm =>
            intro j
            unfold tw
            by_cases e2 : 1 + j / 8 = 1 + m / 8
            · rw [if_pos e2, bt8_or _ _ _ _ (hb m) (by
                have := ihm m
                rw [if_neg (by omega)] at this
                rw [e2]; exact this)]
              by_cases e3 : j % 8 = m % 8
              · obtain rfl : j = m := by omega
                simp
              · rw [if_neg e3, ihm j]
                by_cases e4 : j < m
                · rw [if_pos e4, if_pos (by omega)]
                · rw [if_neg e4, if_neg (by omega)]
            · rw [if_neg e2, ihm j]
              by_cases e4 : j < m
              · rw [if_pos e4, if_pos (by omega)]
              · rw [if_neg e4, if_neg (by omega)]
        have h := this k k
        rw [if_neg (by omega)] at h
        rw [e]; exact h
      rw [bt8_or _ _ _ _ (hb k) hk]
      by_cases e3 : i % 8 = k % 8
      · obtain rfl : i = k := by omega
        simp
      · rw [if_neg e3, ih]
        by_cases e4 : i < k
        · rw [if_pos e4, if_pos (by omega)]
        · rw [if_neg e4, if_neg (by omega)]
    · rw [if_neg e, ih]
      by_cases e4 : i < k
      · rw [if_pos e4, if_pos (by omega)]
      · rw [if_neg e4, if_neg (by omega)]
theorem tw_zero (b : Nat → Nat) (n k : Nat) : tw b n k 0 = n := by
  induction k with
  | zero => rfl
  | succ k ih => unfold tw; rw [if_neg (by omega), ih]

/-- the words of a text -/
def wt (s : ByteArray) : List Nat := (List.range (ln s.size)).map (tw (byt s) s.size s.size)
theorem wt_length (s : ByteArray) : (wt s).length = ln s.size := by simp [wt]
theorem wt_at (s : ByteArray) (j : Nat) (hj : j < ln s.size) : (wt s)[j]?.getD 0 = tw (byt s) s.size s.size j := by simp [wt, hj]
theorem wt_row (s : ByteArray) : rowu (ln s.size) (tw (byt s) s.size s.size) = vs (wt s) := by simp [rowu, vs, wt]
theorem wt_lt (s : ByteArray) (h : s.size ≤ 100000) (j : Nat) (hj : j < ln s.size) : (wt s)[j]?.getD 0 < 18446744073709551616 := by
  rw [wt_at s j hj]; exact tw_lt _ (byt_lt s) _ (by omega) _ _
theorem wt_fbt (s : ByteArray) (i : Nat) (hi : 1 + i / 8 < ln s.size) : fbt (wt s) i = if i < s.size then byt s i else 0 := by
  unfold fbt
  rw [wt_at s _ hi]
  exact tw_byte _ (byt_lt s) _ _ _
theorem tx_wt (s : ByteArray) (h : ∀ i, i < s.size → fbt (wt s) i = byt s i) : tx (wt s) s.size = s := by
  unfold tx
  have e : (List.range s.size).map (fun i => UInt8.ofNat (fbt (wt s) i)) = s.data.toList := by
    apply List.ext_getElem?
    intro j
    by_cases hj : j < s.size
    · have hj2 : j < s.data.toList.length := by simpa using hj
      rw [List.getElem?_eq_getElem hj2]
      simp only [List.getElem?_map, List.getElem?_range hj, Option.map_some, h j hj]
      unfold byt
      rw [dif_pos hj, UInt8.ofNat_toNat]
      rfl
    · have hj2 : s.data.toList.length ≤ j := by simp; exact Nat.le_of_not_lt hj
      rw [List.getElem?_eq_none hj2, List.getElem?_eq_none (by simp; omega)]
  rw [e]

/-- the words are those of a text -/
def ftOK (len : Nat) (ws : List Nat) : Prop := ∃ L n, len = L + 1 ∧ ws[0]?.getD 0 = n ∧ n ≤ 8192 ∧ L + 1 = ln n ∧ ∀ i, n ≤ i → i < 8 * L → fbt ws i = 0
theorem wt_ok (s : ByteArray) (hs : s.size ≤ 8192) : ftOK (ln s.size) (wt s) ∧ (wt s)[0]?.getD 0 = s.size ∧ tx (wt s) s.size = s := by
  have hl : 1 ≤ ln s.size := by unfold ln; omega
  have h0 : (wt s)[0]?.getD 0 = s.size := by rw [wt_at s 0 (by omega), tw_zero]
  refine ⟨⟨ln s.size - 1, s.size, by omega, h0, hs, by omega, fun i h1 h2 => ?_⟩, h0, tx_wt s fun i hi => ?_⟩
  · rw [wt_fbt s i (by omega), if_neg (by omega)]
  · rw [wt_fbt s i (by unfold ln; omega), if_pos hi]
theorem tx_byt (ws : List Nat) (n i : Nat) (hi : i < n) : byt (tx ws n) i = fbt ws i := by
  unfold byt
  rw [dif_pos (by rw [tx_size]; exact hi)]
  have h : (tx ws n)[i]'(by rw [tx_size]; exact hi) = UInt8.ofNat (fbt ws i) := by
    show (tx ws n).data[i]'_ = _
    simp [tx]
  rw [h]
  have := fbt_lt ws i
  simp
  omega
/-- words of a text are the words of that text -/
theorem wt_tx {len : Nat} {ws : List Nat} (hlen : ws.length = len) (hlt : ∀ j, j < len → ws[j]?.getD 0 < 18446744073709551616) (h : ftOK len ws) : wt (tx ws (ws[0]?.getD 0)) = ws := by
  obtain ⟨L, n, rfl, h0, h1, h2, h3⟩ := h
  rw [h0]
  have hsz := tx_size ws n
  apply List.ext_getElem?
  intro j
  by_cases hj : j < L + 1
  · have hj2 : j < ws.length := by omega
    have hj3 : j < (wt (tx ws n)).length := by rw [wt_length, hsz]; omega
    have e1 : (wt (tx ws n))[j]? = some ((wt (tx ws n))[j]?.getD 0) := by rw [List.getElem?_eq_getElem hj3]; rfl
    have e2 : ws[j]? = some (ws[j]?.getD 0) := by rw [List.getElem?_eq_getElem hj2]; rfl
    rw [e1, e2]
    congr 1
    rw [wt_at _ _ (by rw [hsz]; omega)]
    by_cases hj0 : j = 0
    · subst hj0
      rw [tw_zero, h0, hsz]
    · refine bt8_ext _ _ (tw_lt _ (byt_lt _) _ (by rw [hsz]; omega) _ _) (hlt j hj) fun r hr => ?_
      have hb := tw_byte (byt (tx ws n)) (byt_lt _) (tx ws n).size (tx ws n).size (8 * (j - 1) + r)
      rw [show 1 + (8 * (j - 1) + r) / 8 = j by omega, show (8 * (j - 1) + r) % 8 = r by omega] at hb
      rw [hb, hsz]
      have hf : fbt ws (8 * (j - 1) + r) = bt8 (ws[j]?.getD 0) r := by
        unfold fbt bt8
        rw [show 1 + (8 * (j - 1) + r) / 8 = j by omega, show (8 * (j - 1) + r) % 8 = r by omega]
      rw [← hf]
      split
      · rename_i hi; exact tx_byt ws n _ hi
      · rename_i hi; exact (h3 _ (by omega) (by omega)).symm
  · rw [List.getElem?_eq_none (show (wt (tx ws n)).length ≤ j by rw [wt_length, hsz]; omega), List.getElem?_eq_none (show ws.length ≤ j by omega)]

theorem ft_yes (a : Option Addr) (len cap : Nat) (ws : List Nat) (w : World) (hW : Wd w.heap.size w a len cap ws) (h : ftOK len ws) :
    Calls Try.prog 15 #[.slice a len cap] w fun e w' => e = .returned (.tuple #[.string (tx ws (ws[0]?.getD 0)), .int .i64 0]) ∧ Below w.heap.size w w' := by
  obtain ⟨L, n, rfl, h0, h1, h2, h3⟩ := h
  rw [h0]
  exact ft_ok a L cap n ws w.heap.size w (Nat.le_refl _) hW h0 h1 h2 h3
theorem rft_yes (a : Option Addr) (len cap : Nat) (ws : List Nat) (w : World) (hW : Wd w.heap.size w a len cap ws) (h : ftOK len ws) :
    Calls Try.prog 17 #[.slice a len cap] w fun e w' => e = .returned (.tuple #[.string (tx ws (ws[0]?.getD 0)), .int .i64 0]) ∧ Below w.heap.size w w' := by
  obtain ⟨L, n, rfl, h0, h1, h2, h3⟩ := h
  rw [h0]
  exact rft_ok a L cap n ws w.heap.size w (Nat.le_refl _) hW h0 h1 h2 h3
theorem first_bad (p : Nat → Prop) (a b : Nat) (h : ¬ ∀ i, a ≤ i → i < b → p i) : ∃ k, a ≤ k ∧ k < b ∧ ¬ p k ∧ ∀ i, a ≤ i → i < k → p i := by
  obtain ⟨k0, h1, h2, h3⟩ := first_not (fun j => a ≤ j → p j) b (fun hh => h fun i h1 h2 => hh i h2 h1)
  exact ⟨k0, Decidable.byContradiction fun hk => h3 fun hk' => absurd hk' hk, h1, fun hp => h3 fun _ => hp, fun i hi hk => h2 i hk hi⟩
theorem ft_no (a : Option Addr) (len cap : Nat) (ws : List Nat) (w : World) (hl : len ≤ 1000) (hW : Wd w.heap.size w a len cap ws) (h : ¬ ftOK len ws) :
    Calls Try.prog 15 #[.slice a len cap] w fun e w' => e = .returned (.tuple #[.string { data := #[] }, .int .i64 2]) ∧ Below w.heap.size w w' := by
  have same : ∀ {f : Nat} {ar : Array Value} {v : Value}, Calls Try.prog f ar w (fun e w' => e = .returned v ∧ w = w') → Calls Try.prog f ar w (fun e w' => e = .returned v ∧ Below w.heap.size w w') := fun h => h.mono fun e w' ⟨h1, h2⟩ => ⟨h1, by rw [← h2]; exact Below.refl _ _⟩
  cases len with
  | zero => exact same (ft_short a cap w)
  | succ L =>
    by_cases h1 : ws[0]?.getD 0 ≤ 8192
    · by_cases h2 : L + 1 = ln (ws[0]?.getD 0)
      · obtain ⟨k, h3, h4, h5, h6⟩ := first_bad (fun i => fbt ws i = 0) (ws[0]?.getD 0) (8 * L) (fun hh => h ⟨L, _, rfl, rfl, h1, h2, hh⟩)
        exact ft_pad a L cap _ ws w.heap.size w (Nat.le_refl _) hW rfl h1 h2 k h3 h4 h5 h6
      · exact same (ft_len a _ cap ws w.heap.size (by omega) w hW h1 h2)
    · exact same (ft_big a _ cap ws w.heap.size (by omega) w hW (by omega))
theorem rft_no (a : Option Addr) (len cap : Nat) (ws : List Nat) (w : World) (hl : len ≤ 1000) (hW : Wd w.heap.size w a len cap ws) (h : ¬ ftOK len ws) :
    Calls Try.prog 17 #[.slice a len cap] w fun e w' => e = .returned (.tuple #[.string { data := #[] }, .int .i64 2]) ∧ Below w.heap.size w w' := by
  have same : ∀ {f : Nat} {ar : Array Value} {v : Value}, Calls Try.prog f ar w (fun e w' => e = .returned v ∧ w = w') → Calls Try.prog f ar w (fun e w' => e = .returned v ∧ Below w.heap.size w w') := fun h => h.mono fun e w' ⟨h1, h2⟩ => ⟨h1, by rw [← h2]; exact Below.refl _ _⟩
  cases len with
  | zero => exact same (rft_short a cap w)
  | succ L =>
    by_cases h1 : ws[0]?.getD 0 ≤ 8 * (L + 1)
    · by_cases h2 : L + 1 = ln (ws[0]?.getD 0)
      · obtain ⟨k, h3, h4, h5, h6⟩ := first_bad (fun i => fbt ws i = 0) (ws[0]?.getD 0) (8 * L) (fun hh => h ⟨L, _, rfl, rfl, by omega, h2, hh⟩)
        exact rft_pad a L cap _ ws w.heap.size w (Nat.le_refl _) hW rfl (by omega) h2 k h3 h4 h5 h6
      · exact same (rft_len a _ cap ws w.heap.size (by omega) (by omega) w hW h1 h2)
    · exact same (rft_big a _ cap ws w.heap.size (by omega) (by omega) w hW (by omega))
end Go.Proofs.Ytflmfjfeeajkfaa
