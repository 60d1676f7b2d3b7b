/- Numbers in texts: the leading sign, whether a word is a number, its value; what a backslash stands for. No conditions but those of each theorem. -/
import Derived.Test.YtnjidpidcmapkaaSyZ
import Derived.KernelRfl
import Derived.Test.YtnjidpidcmapkaaX1
namespace Go.Proofs.Ytnjidpidcmapkaa
open Go.RowKit
set_option linter.unusedVariables false
set_option linter.unnecessarySimpa false
set_option linter.unusedSimpArgs false
/-- a word's digits: what stands behind a minus -/
def dig (w : List Int) : List Int := if w.getD 0 0 = 45 then w.drop 1 else w
def isNum (w : List Int) : Bool := decide (dig w ≠ [] ∧ ¬ ((dig w).getD 0 0 = 48 ∧ w ≠ [48]) ∧ ∀ k, k < (dig w).length → isD ((dig w).getD k 0) = true)
/-- the value of digits -/
def val (l : List Int) : Int := l.foldl (fun v z => 10 * v + (z - 48)) 0
/-- a number's value -/
def sval (w : List Int) : Int := if w.getD 0 0 = 45 then - val (dig w) else val (dig w)
theorem val_succ (l : List Int) (k : Nat) (hk : k < l.length) : val (l.take (k + 1)) = 10 * val (l.take k) + (l.getD k 0 - 48) := by
  unfold val
  rw [List.take_succ_eq_append_getElem hk, List.foldl_append, List.getD_eq_getElem?_getD, List.getElem?_eq_getElem hk]
  rfl
theorem val_nonneg (l : List Int) (h : ∀ k, k < l.length → isD (l.getD k 0) = true) : ∀ k, 0 ≤ val (l.take k) ∧ (∀ j, j ≤ k → val (l.take j) ≤ val (l.take k))
  | 0 => ⟨by simp [val], fun j hj => by rw [show j = 0 by omega]; exact Int.le_refl _⟩
  | k + 1 => by
    obtain ⟨h1, h2⟩ := val_nonneg l h k
    by_cases hk : k < l.length
    · have h3 := h k hk
      simp only [isD, decide_eq_true_eq] at h3
      have h4 := val_succ l k hk
      refine ⟨by omega, fun j hj => ?_⟩
      by_cases e : j = k + 1
      · rw [e]; exact Int.le_refl _
      · have := h2 j (by omega); omega
    · rw [List.take_of_length_le (by omega)] at h1 h2 ⊢
      refine ⟨h1, fun j hj => ?_⟩
      by_cases e : j = k + 1
      · rw [e, List.take_of_length_le (by omega)]; exact Int.le_refl _
      · exact h2 j (by omega)
theorem dig_len (w : List Int) : (dig w).length ≤ w.length ∧ ((dig w).length < w.length ↔ w.getD 0 0 = 45) := by
  unfold dig
  split
  · rename_i h
    have : w ≠ [] := fun e => by rw [e] at h; simp at h
    have := List.length_pos_iff.2 this
    simp only [List.length_drop]
    exact ⟨by omega, ⟨fun _ => h, fun _ => by omega⟩⟩
  · rename_i h
    exact ⟨Nat.le_refl _, ⟨fun hh => absurd hh (Nat.lt_irrefl _), fun hh => absurd hh h⟩⟩
theorem Bts.dig {w : List Int} (h : Bts w) : Bts (dig w) := by
  unfold Go.Proofs.Ytnjidpidcmapkaa.dig
  split
  · exact h.drop 1
  · exact h
theorem bts_lit (l : List Int) (h : l.all (fun z => decide (0 ≤ z) && decide (z < 256)) = true := by decide) : Bts l := fun z hz => by
  have := List.all_eq_true.1 h z hz
  simpa using this
theorem dig_at (w : List Int) (k : Nat) : (dig w).getD k 0 = w.getD (k + (if w.getD 0 0 = 45 then 1 else 0)) 0 := by
  unfold dig
  split
  · simp [List.getD_eq_getElem?_getD, List.getElem?_drop, Nat.add_comm]
  · simp
set_option maxRecDepth 10000 in
set_option maxHeartbeats 4000000 in
theorem hasPrefix_any (w : List Int) (hw : Bts w) (hl : w.length ≤ 1000000) : CallOK Try.prog 54 [S (str w), S { data := #[45] }] [] (B (decide (w.getD 0 0 = 45))) [] := by
  refine CallOK.intro Try.call54 Try.func54 rfl rfl trivial ?_
  have hsz := str_size w
  have hs1 : ByteArray.size { data := #[45] } = 1 := rfl
  have he : 1 ≤ w.length → ((str w).extract 0 (ByteArray.size { data := #[45] }) = { data := #[45] } ↔ w.getD 0 0 = 45) := fun h => by
    rw [show ({ data := #[45] } : ByteArray) = str [45] from rfl, str_extract, show (str [45]).size = 1 from rfl, List.drop_zero, str_eq (hw.take 1) (bts_lit _)]
    cases w with
    | nil => simp at h
    | cons a w => simp
  refine (Classical.em ((↑(str w).size : Int) ≥ (↑(ByteArray.mk #[(45 : UInt8)]).size : Int))).elim (fun hc1 => ?ga0) (fun hc1 => ?gb0)
  case' gb0 =>
    refine Safe.ends mixed Go.Proofs.Try.func54 4 [⟨100, []⟩, ⟨200, [(4, .tt false)]⟩] (r := B (false)) (hp := []) (ob := [decide ((↑(str w).size : Int) ≥ (↑(ByteArray.mk #[(45 : UInt8)]).size : Int)) = false]) rfl (by kernel_rfl) ⟨(decide_eq_false hc1), trivial⟩ ?_ trivial trivial rfl
  case' ga0 =>
    refine Safe.ends mixed Go.Proofs.Try.func54 4 [⟨100, []⟩, ⟨200, [(4, .tt true)]⟩] (r := B (decide ((str w).extract (0 : Nat) (ByteArray.mk #[(45 : UInt8)]).size = ByteArray.mk #[(45 : UInt8)]))) (hp := []) (ob := [decide ((↑(str w).size : Int) ≥ (↑(ByteArray.mk #[(45 : UInt8)]).size : Int)) = true, (0 : Int) ≤ (↑(ByteArray.mk #[(45 : UInt8)]).size : Int) ∧ (↑(ByteArray.mk #[(45 : UInt8)]).size : Int) ≤ (↑(str w).size : Int)]) rfl (by kernel_rfl) ⟨(decide_eq_true hc1), (by omega), trivial⟩ ?_ trivial trivial rfl
  · exact congrArg B (decide_eq_decide.2 (he (by omega)))
  · refine congrArg B (decide_eq_false ?_).symm
    have : w = [] := List.eq_nil_of_length_eq_zero (by omega)
    rw [this]; simp
set_option maxRecDepth 10000 in
set_option maxHeartbeats 4000000 in
theorem trim1_any (w : List Int) (hw : Bts w) (hl : w.length ≤ 1000000) : CallOK Try.prog 52 [S (str w), S { data := #[45] }] [] (S (str (dig w))) [] := by
  refine CallOK.intro Try.call52 Try.func52 rfl rfl trivial ?_
  have hsz := str_size w
  have hs1 : ByteArray.size { data := #[45] } = 1 := rfl
  have hne : w.getD 0 0 = 45 → 1 ≤ w.length := fun h => by
    cases w with
    | nil => simp at h
    | cons a w => simp
  refine (Classical.em (w.getD (0 : Nat) (0 : Int) = (45 : Int))).elim (fun hc1 => ?ga1) (fun hc1 => ?gb1)
  case' gb1 =>
    refine Safe.ends mixed Go.Proofs.Try.func52 9 [⟨100, []⟩, ⟨200, [(2, .call [] (B false) [])]⟩, ⟨300, []⟩] (r := S (str w)) (hp := []) (ob := [CallOK Try.prog (54 : Nat) ([] ++ [AV.val (Value.string (str w)), AV.val (Value.string (ByteArray.mk #[(45 : UInt8)]))] ++ []) [] (AV.val (Value.bool false)) []]) rfl (by kernel_rfl) ⟨(CallOK.isB (hasPrefix_any (w) (by first | omega | assumption | (have := hne (by assumption); omega)) (by first | omega | assumption | (have := hne (by assumption); omega))) (decide_eq_false hc1)), trivial⟩ ?_ trivial trivial rfl
  case' ga1 =>
    refine Safe.ends mixed Go.Proofs.Try.func52 8 [⟨100, []⟩, ⟨200, [(2, .call [] (B true) [])]⟩, ⟨300, []⟩] (r := S ((str w).extract (ByteArray.mk #[(45 : UInt8)]).size (str w).size)) (hp := []) (ob := [CallOK Try.prog (54 : Nat) ([] ++ [AV.val (Value.string (str w)), AV.val (Value.string (ByteArray.mk #[(45 : UInt8)]))] ++ []) [] (AV.val (Value.bool true)) [], (0 : Int) ≤ (↑(ByteArray.mk #[(45 : UInt8)]).size : Int) ∧ (↑(ByteArray.mk #[(45 : UInt8)]).size : Int) ≤ (↑(str w).size : Int)]) rfl (by kernel_rfl) ⟨(CallOK.isB (hasPrefix_any (w) (by first | omega | assumption | (have := hne (by assumption); omega)) (by first | omega | assumption | (have := hne (by assumption); omega))) (decide_eq_true hc1)), (by first | omega | assumption | (have := hne (by assumption); omega)), trivial⟩ ?_ trivial trivial rfl
  · show S _ = S _
    have : (str w).extract 1 (str w).size = str (dig w) := by
      rw [str_extract, str_size, List.take_length, dig, if_pos hc1]
    exact congrArg S this
  · show S _ = S _
    rw [dig, if_neg hc1]
set_option maxRecDepth 10000 in
set_option maxHeartbeats 4000000 in
theorem trim_any (w : List Int) (hw : Bts w) (hl : w.length ≤ 1000000) : CallOK Try.prog 50 [S (str w), S { data := #[45] }] [] (S (str (dig w))) [] := by
  refine CallOK.intro Try.call50 Try.func50 rfl rfl trivial ?_
  refine Safe.ends mixed Go.Proofs.Try.func50 4 [⟨100, []⟩, ⟨200, [(2, .call [] (S (str (dig w))) [])]⟩] (r := S (str (dig w))) (hp := []) (ob := [CallOK Try.prog (52 : Nat) ([] ++ [AV.val (Value.string (str w)), AV.val (Value.string (ByteArray.mk #[(45 : UInt8)]))] ++ []) [] (AV.val (Value.string (str (dig w)))) []]) rfl (by kernel_rfl) ⟨(trim1_any (w) (by first | omega | assumption) (by first | omega | assumption)), trivial⟩ rfl trivial trivial rfl
theorem str_nil (l : List Int) : str l = { data := #[] } ↔ l = [] := by
  constructor
  · intro h
    have := str_size l
    rw [h] at this
    exact List.eq_nil_of_length_eq_zero this.symm
  · rintro rfl; rfl
set_option maxRecDepth 10000 in
set_option maxHeartbeats 4000000 in
theorem isNumber_any (w : List Int) (hw : Bts w) (hl : w.length ≤ 1000000) : CallOK Try.prog 43 [S (str w)] [] (B (isNum w)) [] := by
  refine CallOK.intro Try.call43 Try.func43 rfl rfl trivial ?_
  have hdl := dig_len w
  have hsz := str_size (dig w)
  have hb := str_byte hw.dig
  have h0 := str_nil (dig w)
  have h48 : str w = { data := #[48] } ↔ w = [48] := str_eq hw (bts_lit [48])
  refine Safe.withLoop (loopAt Try.f43 0) [] 29 (fun g : Nat => [(3, S (str (dig w))), (19, I (str (dig w)).size), (20, I g)]) (fun _ => []) (fun g => g ≤ (dig w).length ∧ dig w ≠ [] ∧ ¬ ((dig w).getD 0 0 = 48 ∧ w ≠ [48]) ∧ ∀ k, k < g → isD ((dig w).getD k 0) = true) (fun g => (dig w).length - g) ?_ ?_
  · rintro k ⟨hk, hn, hz, hd⟩ ih
    refine (Classical.em ((↑k : Int) < (↑(str (dig w)).size : Int))).elim (fun hc1 => ?ga2) (fun hc1 => ?gb2)
    case' gb2 =>
      refine Safe.ends mixed Go.Proofs.Try.func43 7 [⟨100, [(0, .tt false)]⟩, ⟨200, []⟩] (r := B (true)) (hp := []) (ob := [decide ((↑k : Int) < (↑(str (dig w)).size : Int)) = false]) rfl (by kernel_rfl) ⟨(decide_eq_false hc1), trivial⟩ ?_ trivial trivial rfl
    case' ga2 =>
      refine (Classical.em ((isD (byteAt (str (dig w)) k)) = true)).elim (fun hc2 => ?ga3) (fun hc2 => ?gb3)
      case' gb3 =>
        refine Safe.ends mixed Go.Proofs.Try.func43 14 [⟨100, [(0, .tt true)]⟩, ⟨200, []⟩, ⟨300, [(3, .call [] (B false) [])]⟩, ⟨400, []⟩] (r := B (false)) (hp := []) (ob := [decide ((↑k : Int) < (↑(str (dig w)).size : Int)) = true, (0 : Int) ≤ (↑k : Int) ∧ (↑k : Int) < (↑(str (dig w)).size : Int), CallOK Try.prog (49 : Nat) ([] ++ [AV.val (Value.int IntKind.u8 (byteAt (str (dig w)) k))] ++ []) [] (AV.val (Value.bool false)) []]) rfl (by kernel_rfl) ⟨(decide_eq_true hc1), (by omega), (CallOK.isB (isDigit_any (byteAt (str (dig w)) k)) (eq_false_of_ne_true hc2)), trivial⟩ ?_ trivial trivial rfl
      case' ga3 =>
        refine Safe.goto mixed 16 [⟨100, [(0, .tt true)]⟩, ⟨200, []⟩, ⟨300, [(3, .call [] (B true) [])]⟩, ⟨400, []⟩] [3, 19, 20] [] (todo' := loopAt Go.Proofs.Try.f43 0) (sl := slotsOf 29 [(3, S (str (dig w))), (19, I ((↑(str (dig w)).size : Int))), (20, I ((↑k : Int) + (1 : Int)))]) (hp := []) (ob := [decide ((↑k : Int) < (↑(str (dig w)).size : Int)) = true, (0 : Int) ≤ (↑k : Int) ∧ (↑k : Int) < (↑(str (dig w)).size : Int), CallOK Try.prog (49 : Nat) ([] ++ [AV.val (Value.int IntKind.u8 (byteAt (str (dig w)) k))] ++ []) [] (AV.val (Value.bool true)) [], inK IntKind.i64 ((↑k : Int) + (1 : Int))]) rfl rfl (by kernel_rfl) ⟨(decide_eq_true hc1), (by omega), (CallOK.isB (isDigit_any (byteAt (str (dig w)) k)) hc2), (by simp only [inK]; omega), trivial⟩ rfl trivial ?_
    · rw [hb] at hc2
      refine ih (k + 1) ⟨by omega, hn, hz, fun j hj => ?_⟩ (by omega)
      by_cases e : j = k
      · rw [e]; exact hc2
      · exact hd j (by omega)
    · rw [hb] at hc2
      refine congrArg B (decide_eq_false fun h => hc2 (h.2.2 k (by omega))).symm
    · refine congrArg B (decide_eq_true ⟨hn, hz, fun j hj => hd j (by omega)⟩).symm
  · intro H
    refine (Classical.em (str (dig w) = ByteArray.mk #[])).elim (fun hc1 => ?ga4) (fun hc1 => ?gb4)
    case' gb4 =>
      refine (Classical.em (byteAt (str (dig w)) (0 : Nat) = (48 : Int))).elim (fun hc2 => ?ga5) (fun hc2 => ?gb5)
      case' gb5 =>
        refine Safe.goto mixed 14 [⟨100, []⟩, ⟨200, [(1, .call [] (S (str (dig w))) [])]⟩, ⟨300, [(1, .tt false), (5, .tt false)]⟩, ⟨400, []⟩] [3, 19, 20] [] (todo' := loopAt Go.Proofs.Try.f43 0) (sl := slotsOf 29 [(3, S (str (dig w))), (19, I ((↑(str (dig w)).size : Int))), (20, I ((0 : Int)))]) (hp := []) (ob := [CallOK Try.prog (50 : Nat) ([] ++ [AV.val (Value.string (str w)), ofV (Value.string (ByteArray.mk #[(45 : UInt8)]))] ++ []) [] (AV.val (Value.string (str (dig w)))) [], decide (str (dig w) = ByteArray.mk #[]) = false, (0 : Int) ≤ (0 : Int) ∧ (0 : Int) < (↑(str (dig w)).size : Int), decide (byteAt (str (dig w)) (0 : Nat) = (48 : Int)) = false]) rfl rfl (by kernel_rfl) ⟨(trim_any (w) (by first | omega | assumption | (have := mt h0.2 (by assumption); have := List.length_pos_iff.2 this; omega)) (by first | omega | assumption | (have := mt h0.2 (by assumption); have := List.length_pos_iff.2 this; omega))), (decide_eq_false hc1), (by first | omega | assumption | (have := mt h0.2 (by assumption); have := List.length_pos_iff.2 this; omega)), (decide_eq_false hc2), trivial⟩ rfl trivial ?_
      case' ga5 =>
        refine (Classical.em (¬str w = ByteArray.mk #[(48 : UInt8)])).elim (fun hc3 => ?ga6) (fun hc3 => ?gb6)
        case' gb6 =>
          refine Safe.goto mixed 14 [⟨100, []⟩, ⟨200, [(1, .call [] (S (str (dig w))) [])]⟩, ⟨300, [(1, .tt false), (5, .tt true), (8, .tt false)]⟩, ⟨400, []⟩] [3, 19, 20] [] (todo' := loopAt Go.Proofs.Try.f43 0) (sl := slotsOf 29 [(3, S (str (dig w))), (19, I ((↑(str (dig w)).size : Int))), (20, I ((0 : Int)))]) (hp := []) (ob := [CallOK Try.prog (50 : Nat) ([] ++ [AV.val (Value.string (str w)), ofV (Value.string (ByteArray.mk #[(45 : UInt8)]))] ++ []) [] (AV.val (Value.string (str (dig w)))) [], decide (str (dig w) = ByteArray.mk #[]) = false, (0 : Int) ≤ (0 : Int) ∧ (0 : Int) < (↑(str (dig w)).size : Int), decide (byteAt (str (dig w)) (0 : Nat) = (48 : Int)) = true, (decide ¬str w = ByteArray.mk #[(48 : UInt8)]) = false]) rfl rfl (by kernel_rfl) ⟨(trim_any (w) (by first | omega | assumption | (have := mt h0.2 (by assumption); have := List.length_pos_iff.2 this; omega)) (by first | omega | assumption | (have := mt h0.2 (by assumption); have := List.length_pos_iff.2 this; omega))), (decide_eq_false hc1), (by first | omega | assumption | (have := mt h0.2 (by assumption); have := List.length_pos_iff.2 this; omega)), (decide_eq_true hc2), (decide_eq_false hc3), trivial⟩ rfl trivial ?_
        case' ga6 =>
          refine Safe.ends mixed Go.Proofs.Try.func43 10 [⟨100, []⟩, ⟨200, [(1, .call [] (S (str (dig w))) [])]⟩, ⟨300, [(1, .tt false), (5, .tt true), (8, .tt true)]⟩, ⟨400, []⟩] (r := B (false)) (hp := []) (ob := [CallOK Try.prog (50 : Nat) ([] ++ [AV.val (Value.string (str w)), ofV (Value.string (ByteArray.mk #[(45 : UInt8)]))] ++ []) [] (AV.val (Value.string (str (dig w)))) [], decide (str (dig w) = ByteArray.mk #[]) = false, (0 : Int) ≤ (0 : Int) ∧ (0 : Int) < (↑(str (dig w)).size : Int), decide (byteAt (str (dig w)) (0 : Nat) = (48 : Int)) = true, (decide ¬str w = ByteArray.mk #[(48 : UInt8)]) = true]) rfl (by kernel_rfl) ⟨(trim_any (w) (by first | omega | assumption | (have := mt h0.2 (by assumption); have := List.length_pos_iff.2 this; omega)) (by first | omega | assumption | (have := mt h0.2 (by assumption); have := List.length_pos_iff.2 this; omega))), (decide_eq_false hc1), (by first | omega | assumption | (have := mt h0.2 (by assumption); have := List.length_pos_iff.2 this; omega)), (decide_eq_true hc2), (decide_eq_true hc3), trivial⟩ ?_ trivial trivial rfl
    case' ga4 =>
      refine Safe.ends mixed Go.Proofs.Try.func43 10 [⟨100, []⟩, ⟨200, [(1, .call [] (S (str (dig w))) [])]⟩, ⟨300, [(1, .tt true)]⟩, ⟨400, []⟩] (r := B (false)) (hp := []) (ob := [CallOK Try.prog (50 : Nat) ([] ++ [AV.val (Value.string (str w)), ofV (Value.string (ByteArray.mk #[(45 : UInt8)]))] ++ []) [] (AV.val (Value.string (str (dig w)))) [], decide (str (dig w) = ByteArray.mk #[]) = true]) rfl (by kernel_rfl) ⟨(trim_any (w) (by first | omega | assumption | (have := mt h0.2 (by assumption); have := List.length_pos_iff.2 this; omega)) (by first | omega | assumption | (have := mt h0.2 (by assumption); have := List.length_pos_iff.2 this; omega))), (decide_eq_true hc1), trivial⟩ ?_ trivial trivial rfl
    case ga4 => exact congrArg B (decide_eq_false fun h => h.1 (h0.1 hc1)).symm
    case ga6 =>
      rw [hb] at hc2
      exact congrArg B (decide_eq_false fun h => h.2.1 ⟨hc2, fun e => hc3 (h48.2 e)⟩).symm
    case gb6 => exact H 0 ⟨Nat.zero_le _, fun e => hc1 (h0.2 e), fun h => h.2 (h48.1 (Classical.not_not.1 hc3)), fun k hk => by omega⟩
    case gb5 =>
      rw [hb] at hc2
      exact H 0 ⟨Nat.zero_le _, fun e => hc1 (h0.2 e), fun h => hc2 h.1, fun k hk => by omega⟩
set_option maxRecDepth 10000 in
set_option maxHeartbeats 4000000 in
theorem value_ok (w : List Int) (hw : Bts w) (hl : w.length ≤ 1000000) (hd : ∀ k, k < (dig w).length → isD ((dig w).getD k 0) = true) (hv : val (dig w) ≤ 9007199254740992) : CallOK Try.prog 44 [S (str w)] [] (.tup [I (sval w), B true]) [] := by
  refine CallOK.intro Try.call44 Try.func44 rfl rfl trivial ?_
  have hdl := dig_len w
  have hsz := str_size (dig w)
  have hsz2 := str_size w
  have hb := str_byte hw.dig
  refine Safe.withLoop (loopAt Try.f44 0) [] 33 (fun g : Nat => [(0, S (str w)), (4, S (str (dig w))), (5, I (val ((dig w).take g))), (10, I (str (dig w)).size), (11, I g)]) (fun _ => []) (fun g => g ≤ (dig w).length) (fun g => (dig w).length - g) ?_ ?_
  · rintro k hk ih
    have h1 := (val_nonneg (dig w) hd (dig w).length).2 k hk
    have h2 := (val_nonneg (dig w) hd k).1
    rw [List.take_length] at h1
    have h3 := (val_nonneg (dig w) hd (dig w).length).2 (k + 1)
    rw [List.take_length] at h3
    have h4 : k < (dig w).length → 48 ≤ byteAt (str (dig w)) k ∧ byteAt (str (dig w)) k ≤ 57 := fun h => by
      have := hd k h
      simp only [isD, decide_eq_true_eq] at this
      rw [hb]; exact this
    have h5 : k < (dig w).length → val ((dig w).take (k + 1)) = 10 * val ((dig w).take k) + (byteAt (str (dig w)) k - 48) := fun h => by
      rw [hb]; exact val_succ (dig w) k h
    refine (Classical.em ((↑k : Int) < (↑(str (dig w)).size : Int))).elim (fun hc1 => ?ga7) (fun hc1 => ?gb7)
    case' gb7 =>
      refine (Classical.em ((↑(str (dig w)).size : Int) < (↑(str w).size : Int))).elim (fun hc2 => ?ga9) (fun hc2 => ?gb9)
      case' gb9 =>
        refine Safe.ends mixed Go.Proofs.Try.func44 12 [⟨100, [(0, .tt false)]⟩, ⟨200, [(4, .tt false)]⟩, ⟨300, []⟩] (r := .tup [I (val (List.take k (dig w))), B (true)]) (hp := []) (ob := [decide ((↑k : Int) < (↑(str (dig w)).size : Int)) = false, decide ((↑(str (dig w)).size : Int) < (↑(str w).size : Int)) = false]) rfl (by kernel_rfl) ⟨(decide_eq_false hc1), (decide_eq_false hc2), trivial⟩ ?_ trivial trivial rfl
      case' ga9 =>
        refine Safe.ends mixed Go.Proofs.Try.func44 12 [⟨100, [(0, .tt false)]⟩, ⟨200, [(4, .tt true)]⟩, ⟨300, []⟩, ⟨400, []⟩] (r := .tup [I ((0 : Int) - val (List.take k (dig w))), B (true)]) (hp := []) (ob := [decide ((↑k : Int) < (↑(str (dig w)).size : Int)) = false, decide ((↑(str (dig w)).size : Int) < (↑(str w).size : Int)) = true, inK IntKind.i64 ((0 : Int) - val (List.take k (dig w)))]) rfl (by kernel_rfl) ⟨(decide_eq_false hc1), (decide_eq_true hc2), (by simp only [inK]; first | omega | (have := h4 (by omega); omega)), trivial⟩ ?_ trivial trivial rfl
    case' ga7 =>
      refine (Classical.em ((10 : Int) * val (List.take k (dig w)) + (byteAt (str (dig w)) k - (48 : Int)) > (9007199254740992 : Int))).elim (fun hc2 => ?ga8) (fun hc2 => ?gb8)
      case' gb8 =>
        refine Safe.goto mixed 18 [⟨100, [(0, .tt true)]⟩, ⟨200, []⟩, ⟨300, []⟩, ⟨400, [(1, .tt false)]⟩, ⟨500, []⟩] [0, 4, 5, 10, 11] [] (todo' := loopAt Go.Proofs.Try.f44 0) (sl := slotsOf 33 [(0, S (str w)), (4, S (str (dig w))), (5, I ((10 : Int) * val (List.take k (dig w)) + (byteAt (str (dig w)) k - (48 : Int)))), (10, I ((↑(str (dig w)).size : Int))), (11, I ((↑k : Int) + (1 : Int)))]) (hp := []) (ob := [decide ((↑k : Int) < (↑(str (dig w)).size : Int)) = true, inK IntKind.i64 ((10 : Int) * val (List.take k (dig w))), (0 : Int) ≤ (↑k : Int) ∧ (↑k : Int) < (↑(str (dig w)).size : Int), inK IntKind.u8 (byteAt (str (dig w)) k - (48 : Int)), inK IntKind.i64 (byteAt (str (dig w)) k - (48 : Int)), inK IntKind.i64 ((10 : Int) * val (List.take k (dig w)) + (byteAt (str (dig w)) k - (48 : Int))), decide ((10 : Int) * val (List.take k (dig w)) + (byteAt (str (dig w)) k - (48 : Int)) > (9007199254740992 : Int)) = false, inK IntKind.i64 ((↑k : Int) + (1 : Int))]) rfl rfl (by kernel_rfl) ⟨(decide_eq_true hc1), (by simp only [inK]; first | omega | (have := h4 (by omega); omega)), (by first | omega | (have := h4 (by omega); omega)), (by simp only [inK]; first | omega | (have := h4 (by omega); omega)), (by simp only [inK]; first | omega | (have := h4 (by omega); omega)), (by simp only [inK]; first | omega | (have := h4 (by omega); omega)), (decide_eq_false hc2), (by simp only [inK]; first | omega | (have := h4 (by omega); omega)), trivial⟩ rfl trivial ?_
      case' ga8 =>
        refine Safe.ends mixed Go.Proofs.Try.func44 16 [⟨100, [(0, .tt true)]⟩, ⟨200, []⟩, ⟨300, []⟩, ⟨400, [(1, .tt true)]⟩, ⟨500, []⟩] (r := .tup [I ((0 : Int)), B (false)]) (hp := []) (ob := [decide ((↑k : Int) < (↑(str (dig w)).size : Int)) = true, inK IntKind.i64 ((10 : Int) * val (List.take k (dig w))), (0 : Int) ≤ (↑k : Int) ∧ (↑k : Int) < (↑(str (dig w)).size : Int), inK IntKind.u8 (byteAt (str (dig w)) k - (48 : Int)), inK IntKind.i64 (byteAt (str (dig w)) k - (48 : Int)), inK IntKind.i64 ((10 : Int) * val (List.take k (dig w)) + (byteAt (str (dig w)) k - (48 : Int))), decide ((10 : Int) * val (List.take k (dig w)) + (byteAt (str (dig w)) k - (48 : Int)) > (9007199254740992 : Int)) = true]) rfl (by kernel_rfl) ⟨(decide_eq_true hc1), (by simp only [inK]; first | omega | (have := h4 (by omega); omega)), (by first | omega | (have := h4 (by omega); omega)), (by simp only [inK]; first | omega | (have := h4 (by omega); omega)), (by simp only [inK]; first | omega | (have := h4 (by omega); omega)), (by simp only [inK]; first | omega | (have := h4 (by omega); omega)), (decide_eq_true hc2), trivial⟩ ?_ trivial trivial rfl
    case ga8 => have := h5 (by omega); have := h3 (by omega); omega
    case gb8 =>
      have := h5 (by omega)
      rw [← this]
      exact ih (k + 1) (by omega) (by omega)
    case ga9 =>
      show AV.tup _ = AV.tup _
      rw [sval, if_pos (hdl.2.1 (by omega)), List.take_of_length_le (by omega)]
      rw [show (0 : Int) - val (dig w) = - val (dig w) by omega]
    case gb9 =>
      show AV.tup _ = AV.tup _
      rw [sval, if_neg (fun h => by have := hdl.2.2 h; omega), List.take_of_length_le (by omega)]
  · intro H
    refine Safe.goto mixed 11 [⟨100, []⟩, ⟨200, [(1, .call [] (S (str (dig w))) [])]⟩, ⟨300, []⟩, ⟨400, []⟩] [0, 4, 5, 10, 11] [] (todo' := loopAt Go.Proofs.Try.f44 0) (sl := slotsOf 33 [(0, S (str w)), (4, S (str (dig w))), (5, I ((0 : Int))), (10, I ((↑(str (dig w)).size : Int))), (11, I ((0 : Int)))]) (hp := []) (ob := [CallOK Try.prog (50 : Nat) ([] ++ [AV.val (Value.string (str w)), ofV (Value.string (ByteArray.mk #[(45 : UInt8)]))] ++ []) [] (AV.val (Value.string (str (dig w)))) []]) rfl rfl (by kernel_rfl) ⟨(trim_any (w) (by first | omega | assumption) (by first | omega | assumption)), trivial⟩ rfl trivial ?_
    exact H 0 (Nat.zero_le _)
set_option maxRecDepth 10000 in
set_option maxHeartbeats 4000000 in
theorem value_err (w : List Int) (hw : Bts w) (hl : w.length ≤ 1000000) (hd : ∀ k, k < (dig w).length → isD ((dig w).getD k 0) = true) (hv : ¬ val (dig w) ≤ 9007199254740992) : CallOK Try.prog 44 [S (str w)] [] (.tup [I 0, B false]) [] := by
  refine CallOK.intro Try.call44 Try.func44 rfl rfl trivial ?_
  have hdl := dig_len w
  have hsz := str_size (dig w)
  have hsz2 := str_size w
  have hb := str_byte hw.dig
  refine Safe.withLoop (loopAt Try.f44 0) [] 33 (fun g : Nat => [(0, S (str w)), (4, S (str (dig w))), (5, I (val ((dig w).take g))), (10, I (str (dig w)).size), (11, I g)]) (fun _ => []) (fun g => g ≤ (dig w).length ∧ val ((dig w).take g) ≤ 9007199254740992) (fun g => (dig w).length - g) ?_ ?_
  · rintro k ⟨hk, hkv⟩ ih
    have h2 := (val_nonneg (dig w) hd k).1
    have h4 : k < (dig w).length → 48 ≤ byteAt (str (dig w)) k ∧ byteAt (str (dig w)) k ≤ 57 := fun h => by
      have := hd k h
      simp only [isD, decide_eq_true_eq] at this
      rw [hb]; exact this
    have h5 : k < (dig w).length → val ((dig w).take (k + 1)) = 10 * val ((dig w).take k) + (byteAt (str (dig w)) k - 48) := fun h => by
      rw [hb]; exact val_succ (dig w) k h
    have h6 : k < (dig w).length := by
      rcases Nat.lt_or_eq_of_le hk with h | h
      · exact h
      · rw [h, List.take_length] at hkv; exact absurd hkv hv
    refine (Classical.em ((↑k : Int) < (↑(str (dig w)).size : Int))).elim (fun hc1 => ?ga10) (fun hc1 => ?gb10)
    case' gb10 =>
      refine (Classical.em ((↑(str (dig w)).size : Int) < (↑(str w).size : Int))).elim (fun hc2 => ?ga12) (fun hc2 => ?gb12)
      case' gb12 =>
        refine Safe.ends mixed Go.Proofs.Try.func44 12 [⟨100, [(0, .tt false)]⟩, ⟨200, [(4, .tt false)]⟩, ⟨300, []⟩] (r := .tup [I (val (List.take k (dig w))), B (true)]) (hp := []) (ob := [decide ((↑k : Int) < (↑(str (dig w)).size : Int)) = false, decide ((↑(str (dig w)).size : Int) < (↑(str w).size : Int)) = false]) rfl (by kernel_rfl) ⟨(decide_eq_false hc1), (decide_eq_false hc2), trivial⟩ ?_ trivial trivial rfl
      case' ga12 =>
        refine Safe.ends mixed Go.Proofs.Try.func44 12 [⟨100, [(0, .tt false)]⟩, ⟨200, [(4, .tt true)]⟩, ⟨300, []⟩, ⟨400, []⟩] (r := .tup [I ((0 : Int) - val (List.take k (dig w))), B (true)]) (hp := []) (ob := [decide ((↑k : Int) < (↑(str (dig w)).size : Int)) = false, decide ((↑(str (dig w)).size : Int) < (↑(str w).size : Int)) = true, inK IntKind.i64 ((0 : Int) - val (List.take k (dig w)))]) rfl (by kernel_rfl) ⟨(decide_eq_false hc1), (decide_eq_true hc2), (by simp only [inK]; first | omega | (have := h4 (by omega); omega)), trivial⟩ ?_ trivial trivial rfl
    case' ga10 =>
      refine (Classical.em ((10 : Int) * val (List.take k (dig w)) + (byteAt (str (dig w)) k - (48 : Int)) > (9007199254740992 : Int))).elim (fun hc2 => ?ga11) (fun hc2 => ?gb11)
      case' gb11 =>
        refine Safe.goto mixed 18 [⟨100, [(0, .tt true)]⟩, ⟨200, []⟩, ⟨300, []⟩, ⟨400, [(1, .tt false)]⟩, ⟨500, []⟩] [0, 4, 5, 10, 11] [] (todo' := loopAt Go.Proofs.Try.f44 0) (sl := slotsOf 33 [(0, S (str w)), (4, S (str (dig w))), (5, I ((10 : Int) * val (List.take k (dig w)) + (byteAt (str (dig w)) k - (48 : Int)))), (10, I ((↑(str (dig w)).size : Int))), (11, I ((↑k : Int) + (1 : Int)))]) (hp := []) (ob := [decide ((↑k : Int) < (↑(str (dig w)).size : Int)) = true, inK IntKind.i64 ((10 : Int) * val (List.take k (dig w))), (0 : Int) ≤ (↑k : Int) ∧ (↑k : Int) < (↑(str (dig w)).size : Int), inK IntKind.u8 (byteAt (str (dig w)) k - (48 : Int)), inK IntKind.i64 (byteAt (str (dig w)) k - (48 : Int)), inK IntKind.i64 ((10 : Int) * val (List.take k (dig w)) + (byteAt (str (dig w)) k - (48 : Int))), decide ((10 : Int) * val (List.take k (dig w)) + (byteAt (str (dig w)) k - (48 : Int)) > (9007199254740992 : Int)) = false, inK IntKind.i64 ((↑k : Int) + (1 : Int))]) rfl rfl (by kernel_rfl) ⟨(decide_eq_true hc1), (by simp only [inK]; first | omega | (have := h4 (by omega); omega)), (by first | omega | (have := h4 (by omega); omega)), (by simp only [inK]; first | omega | (have := h4 (by omega); omega)), (by simp only [inK]; first | omega | (have := h4 (by omega); omega)), (by simp only [inK]; first | omega | (have := h4 (by omega); omega)), (decide_eq_false hc2), (by simp only [inK]; first | omega | (have := h4 (by omega); omega)), trivial⟩ rfl trivial ?_
      case' ga11 =>
        refine Safe.ends mixed Go.Proofs.Try.func44 16 [⟨100, [(0, .tt true)]⟩, ⟨200, []⟩, ⟨300, []⟩, ⟨400, [(1, .tt true)]⟩, ⟨500, []⟩] (r := .tup [I ((0 : Int)), B (false)]) (hp := []) (ob := [decide ((↑k : Int) < (↑(str (dig w)).size : Int)) = true, inK IntKind.i64 ((10 : Int) * val (List.take k (dig w))), (0 : Int) ≤ (↑k : Int) ∧ (↑k : Int) < (↑(str (dig w)).size : Int), inK IntKind.u8 (byteAt (str (dig w)) k - (48 : Int)), inK IntKind.i64 (byteAt (str (dig w)) k - (48 : Int)), inK IntKind.i64 ((10 : Int) * val (List.take k (dig w)) + (byteAt (str (dig w)) k - (48 : Int))), decide ((10 : Int) * val (List.take k (dig w)) + (byteAt (str (dig w)) k - (48 : Int)) > (9007199254740992 : Int)) = true]) rfl (by kernel_rfl) ⟨(decide_eq_true hc1), (by simp only [inK]; first | omega | (have := h4 (by omega); omega)), (by first | omega | (have := h4 (by omega); omega)), (by simp only [inK]; first | omega | (have := h4 (by omega); omega)), (by simp only [inK]; first | omega | (have := h4 (by omega); omega)), (by simp only [inK]; first | omega | (have := h4 (by omega); omega)), (decide_eq_true hc2), trivial⟩ rfl trivial trivial rfl
    all_goals first
      | (exfalso; omega)
      | (have := h5 (by omega)
         rw [← this]
         exact ih (k + 1) ⟨by omega, by omega⟩ (by omega))
      | exact rfl
  · intro H
    refine Safe.goto mixed 11 [⟨100, []⟩, ⟨200, [(1, .call [] (S (str (dig w))) [])]⟩, ⟨300, []⟩, ⟨400, []⟩] [0, 4, 5, 10, 11] [] (todo' := loopAt Go.Proofs.Try.f44 0) (sl := slotsOf 33 [(0, S (str w)), (4, S (str (dig w))), (5, I ((0 : Int))), (10, I ((↑(str (dig w)).size : Int))), (11, I ((0 : Int)))]) (hp := []) (ob := [CallOK Try.prog (50 : Nat) ([] ++ [AV.val (Value.string (str w)), ofV (Value.string (ByteArray.mk #[(45 : UInt8)]))] ++ []) [] (AV.val (Value.string (str (dig w)))) []]) rfl rfl (by kernel_rfl) ⟨(trim_any (w) (by first | omega | assumption) (by first | omega | assumption)), trivial⟩ rfl trivial ?_
    exact H 0 ⟨Nat.zero_le _, by simp [val]⟩
def capV (w : List Int) : Int := min (val (dig w)) 9007199254740993
def numV (w : List Int) : Int := if isNum w = true then (if w.getD 0 0 = 45 then - capV w else capV w) else 0
set_option maxRecDepth 10000 in
set_option maxHeartbeats 4000000 in
theorem number_any (w : List Int) (hw : Bts w) (hl : w.length ≤ 1000000) : CallOK Try.prog 41 [S (str w)] [] (.tup [I (numV w), B (isNum w)]) [] := by
  refine CallOK.intro Try.call41 Try.func41 rfl rfl trivial ?_
  have hdl := dig_len w
  have hsz := str_size w
  have hb := str_byte hw
  have hda := dig_at w
  have hdd : (dig w).length = w.length - (if w.getD 0 0 = 45 then 1 else 0) := by
    unfold dig
    split <;> simp
  refine Safe.withLoop (loopAt Try.f41 0) [] 62 (fun g : Nat × Nat => [(0, S (str w)), (4, I g.1), (5, I (min (val ((dig w).take g.2)) 9007199254740993)), (6, I ((g.1 + g.2 : Nat) : Int))]) (fun _ => []) (fun g => g.2 ≤ (dig w).length ∧ g.1 = (if w.getD 0 0 = 45 then 1 else 0) ∧ (dig w) ≠ [] ∧ ¬ ((dig w).getD 0 0 = 48 ∧ w ≠ [48]) ∧ (∀ j, j < g.2 → isD ((dig w).getD j 0) = true) ∧ 0 ≤ val ((dig w).take g.2)) (fun g => (dig w).length - g.2) ?_ ?_
  · rintro ⟨o, k⟩ ⟨hk, ho, hn, hz, hd, h2⟩ ih
    dsimp only at hk ho hd h2 ih ⊢
    have ho1 : o ≤ 1 := by split at ho <;> omega
    have hlen : w.length = (dig w).length + o := by
      have : o ≤ w.length := by
        split at ho
        · rename_i h; have := hdl.2.2 h; omega
        · omega
      rw [hdd, ← ho]; omega
    have hbk : byteAt (str w) (o + k) = (dig w).getD k 0 := by rw [hb, hda, ← ho, Nat.add_comm]
    have h5 : k < (dig w).length → val ((dig w).take (k + 1)) = 10 * val ((dig w).take k) + (byteAt (str w) (o + k) - 48) := fun h => by
      rw [hbk]; exact val_succ (dig w) k h
    have h6 : isD (byteAt (str w) (o + k)) = true → 48 ≤ byteAt (str w) (o + k) ∧ byteAt (str w) (o + k) ≤ 57 := fun h => by simpa [isD] using h
    have nf : isNum w = false → (AV.tup [I 0, B false]) = .tup [I (numV w), B (isNum w)] := fun h => by rw [numV, h]; rfl
    refine (Classical.em ((↑(o + k) : Int) < (↑(str w).size : Int))).elim (fun hc1 => ?ga13) (fun hc1 => ?gb13)
    case' gb13 =>
      refine (Classical.em ((↑o : Int) = (1 : Int))).elim (fun hc2 => ?ga15) (fun hc2 => ?gb15)
      case' gb15 =>
        refine Safe.ends mixed Go.Proofs.Try.func41 12 [⟨100, [(3, .tt false)]⟩, ⟨200, [(1, .tt false)]⟩, ⟨300, []⟩] (r := .tup [I (min (val (List.take k (dig w))) (9007199254740993 : Int)), B (true)]) (hp := []) (ob := [decide ((↑(o + k) : Int) < (↑(str w).size : Int)) = false, decide ((↑o : Int) = (1 : Int)) = false]) rfl (by kernel_rfl) ⟨(decide_eq_false hc1), (decide_eq_false hc2), trivial⟩ ?_ trivial trivial rfl
      case' ga15 =>
        refine Safe.ends mixed Go.Proofs.Try.func41 11 [⟨100, [(3, .tt false)]⟩, ⟨200, [(1, .tt true)]⟩, ⟨300, []⟩] (r := .tup [I ((0 : Int) - min (val (List.take k (dig w))) (9007199254740993 : Int)), B (true)]) (hp := []) (ob := [decide ((↑(o + k) : Int) < (↑(str w).size : Int)) = false, decide ((↑o : Int) = (1 : Int)) = true, inK IntKind.i64 ((0 : Int) - min (val (List.take k (dig w))) (9007199254740993 : Int))]) rfl (by kernel_rfl) ⟨(decide_eq_false hc1), (decide_eq_true hc2), (by simp only [inK]; first | omega | (have := h6 (by assumption); omega)), trivial⟩ ?_ trivial trivial rfl
    case' ga13 =>
      refine (Classical.em ((isD (byteAt (str w) (o + k))) = true)).elim (fun hc2 => ?ga14) (fun hc2 => ?gb14)
      case' gb14 =>
        refine Safe.ends mixed Go.Proofs.Try.func41 13 [⟨100, [(3, .tt true)]⟩, ⟨200, [(3, .call [] (B false) [])]⟩, ⟨300, []⟩] (r := .tup [I ((0 : Int)), B (false)]) (hp := []) (ob := [decide ((↑(o + k) : Int) < (↑(str w).size : Int)) = true, (0 : Int) ≤ (↑(o + k) : Int) ∧ (↑(o + k) : Int) < (↑(str w).size : Int), CallOK Try.prog (48 : Nat) ([] ++ [AV.val (Value.int IntKind.u8 (byteAt (str w) (o + k)))] ++ []) [] (AV.val (Value.bool false)) []]) rfl (by kernel_rfl) ⟨(decide_eq_true hc1), (by first | omega | (have := h6 (by assumption); omega)), (CallOK.isB (rdigit_any (byteAt (str w) (o + k))) (eq_false_of_ne_true hc2)), trivial⟩ ?_ trivial trivial rfl
      case' ga14 =>
        refine Safe.goto mixed 16 [⟨100, [(3, .tt true)]⟩, ⟨200, [(3, .call [] (B true) [])]⟩, ⟨300, []⟩, ⟨400, []⟩] [0, 4, 5, 6] [] (todo' := loopAt Go.Proofs.Try.f41 0) (sl := slotsOf 62 [(0, S (str w)), (4, I ((↑o : Int))), (5, I (min (min (val (List.take k (dig w))) (9007199254740993 : Int) * (10 : Int) + (byteAt (str w) (o + k) - (48 : Int))) (9007199254740993 : Int))), (6, I ((↑(o + k) : Int) + (1 : Int)))]) (hp := []) (ob := [decide ((↑(o + k) : Int) < (↑(str w).size : Int)) = true, (0 : Int) ≤ (↑(o + k) : Int) ∧ (↑(o + k) : Int) < (↑(str w).size : Int), CallOK Try.prog (48 : Nat) ([] ++ [AV.val (Value.int IntKind.u8 (byteAt (str w) (o + k)))] ++ []) [] (AV.val (Value.bool true)) [], inK IntKind.i64 (min (val (List.take k (dig w))) (9007199254740993 : Int) * (10 : Int)), (0 : Int) ≤ (↑(o + k) : Int) ∧ (↑(o + k) : Int) < (↑(str w).size : Int), inK IntKind.u8 (byteAt (str w) (o + k) - (48 : Int)), inK IntKind.i64 (byteAt (str w) (o + k) - (48 : Int)), inK IntKind.i64 (min (val (List.take k (dig w))) (9007199254740993 : Int) * (10 : Int) + (byteAt (str w) (o + k) - (48 : Int))), inK IntKind.i64 ((↑(o + k) : Int) + (1 : Int))]) rfl rfl (by kernel_rfl) ⟨(decide_eq_true hc1), (by first | omega | (have := h6 (by assumption); omega)), (CallOK.isB (rdigit_any (byteAt (str w) (o + k))) hc2), (by simp only [inK]; first | omega | (have := h6 (by assumption); omega)), (by first | omega | (have := h6 (by assumption); omega)), (by simp only [inK]; first | omega | (have := h6 (by assumption); omega)), (by simp only [inK]; first | omega | (have := h6 (by assumption); omega)), (by simp only [inK]; first | omega | (have := h6 (by assumption); omega)), (by simp only [inK]; first | omega | (have := h6 (by assumption); omega)), trivial⟩ rfl trivial ?_
    case ga14 =>
      have e1 := h5 (by omega)
      have e2 := h6 hc2
      rw [show min (min (val (List.take k (dig w))) 9007199254740993 * 10 + (byteAt (str w) (o + k) - 48)) 9007199254740993 = min (val (List.take (k + 1) (dig w))) 9007199254740993 by omega, show ((o + k : Nat) : Int) + 1 = ((o + (k + 1) : Nat) : Int) by omega]
      refine ih (o, k + 1) ⟨by omega, ho, hn, hz, fun j hj => ?_, by dsimp only; omega⟩ (by dsimp only; omega)
      by_cases e : j = k
      · rw [e, ← hbk]; exact hc2
      · exact hd j (by omega)
    case gb14 =>
      exact nf (decide_eq_false fun h => hc2 (by rw [hbk]; exact h.2.2 k (by omega)))
    case ga15 =>
      have e1 : isNum w = true := decide_eq_true ⟨hn, hz, fun j hj => hd j (by omega)⟩
      have e2 : w.getD 0 0 = 45 := Classical.byContradiction fun h => by rw [if_neg h] at ho; omega
      show AV.tup _ = AV.tup _
      rw [numV, e1, if_pos rfl, if_pos e2, capV, List.take_of_length_le (by omega), Int.zero_sub]
    case gb15 =>
      have e1 : isNum w = true := decide_eq_true ⟨hn, hz, fun j hj => hd j (by omega)⟩
      have e2 : ¬ w.getD 0 0 = 45 := fun h => by rw [if_pos h] at ho; omega
      show AV.tup _ = AV.tup _
      rw [numV, e1, if_pos rfl, if_neg e2, capV, List.take_of_length_le (by omega)]
  · intro H
    have nf : isNum w = false → (AV.tup [I 0, B false]) = .tup [I (numV w), B (isNum w)] := fun h => by rw [numV, h]; rfl
    have hb0 := hb 0
    have hb1 := hb 1
    have hd1 : w.getD 0 0 = 45 → (dig w).getD 0 0 = w.getD 1 0 ∧ (dig w).length = w.length - 1 := fun h => by
      have := hda 0
      rw [if_pos h] at this hdd
      exact ⟨this, hdd⟩
    have hd2 : ¬ w.getD 0 0 = 45 → (dig w).getD 0 0 = w.getD 0 0 ∧ (dig w).length = w.length := fun h => by
      have := hda 0
      rw [if_neg h] at this hdd
      exact ⟨this, hdd⟩
    have hv0 : min (val ([] : List Int)) 9007199254740993 = 0 := by decide
    have hnil : (dig w).length = 0 → isNum w = false := fun h => decide_eq_false fun h2 => h2.1 (List.eq_nil_of_length_eq_zero h)
    have h48 : (dig w).getD 0 0 = 48 → w ≠ [48] → isNum w = false := fun h1 h2 => decide_eq_false fun h => h.2.1 ⟨h1, h2⟩
    refine (Classical.em ((↑(str w).size : Int) > (0 : Int))).elim (fun hc1 => ?ga16) (fun hc1 => ?gb16)
    case' gb16 =>
      refine (Classical.em ((0 : Int) = (↑(str w).size : Int))).elim (fun hc2 => ?ga24) (fun hc2 => ?gb24)
      case' gb24 =>
        refine (Classical.em (byteAt (str w) (0 : Nat) = (48 : Int))).elim (fun hc3 => ?ga25) (fun hc3 => ?gb25)
        case' gb25 =>
          refine Safe.goto mixed 19 [⟨100, []⟩, ⟨200, []⟩, ⟨300, [(2, .tt false)]⟩, ⟨400, [(3, .tt false), (8, .tt false)]⟩, ⟨500, []⟩] [0, 4, 5, 6] [] (todo' := loopAt Go.Proofs.Try.f41 0) (sl := slotsOf 62 [(0, S (str w)), (4, I ((0 : Int))), (5, I ((0 : Int))), (6, I ((0 : Int)))]) (hp := []) (ob := [decide ((↑(str w).size : Int) > (0 : Int)) = false, decide ((0 : Int) = (↑(str w).size : Int)) = false, (0 : Int) ≤ (0 : Int) ∧ (0 : Int) < (↑(str w).size : Int), decide (byteAt (str w) (0 : Nat) = (48 : Int)) = false]) rfl rfl (by kernel_rfl) ⟨(decide_eq_false hc1), (decide_eq_false hc2), (by omega), (decide_eq_false hc3), trivial⟩ rfl trivial ?_
        case' ga25 =>
          refine (Classical.em ((↑(str w).size : Int) > (0 : Int) + (1 : Int))).elim (fun hc4 => ?ga26) (fun hc4 => ?gb26)
          case' gb26 =>
            refine Safe.goto mixed 19 [⟨100, []⟩, ⟨200, []⟩, ⟨300, [(2, .tt false)]⟩, ⟨400, [(3, .tt false), (8, .tt true), (14, .tt false)]⟩, ⟨500, []⟩] [0, 4, 5, 6] [] (todo' := loopAt Go.Proofs.Try.f41 0) (sl := slotsOf 62 [(0, S (str w)), (4, I ((0 : Int))), (5, I ((0 : Int))), (6, I ((0 : Int)))]) (hp := []) (ob := [decide ((↑(str w).size : Int) > (0 : Int)) = false, decide ((0 : Int) = (↑(str w).size : Int)) = false, (0 : Int) ≤ (0 : Int) ∧ (0 : Int) < (↑(str w).size : Int), decide (byteAt (str w) (0 : Nat) = (48 : Int)) = true, inK IntKind.i64 ((0 : Int) + (1 : Int)), decide ((↑(str w).size : Int) > (0 : Int) + (1 : Int)) = false]) rfl rfl (by kernel_rfl) ⟨(decide_eq_false hc1), (decide_eq_false hc2), (by omega), (decide_eq_true hc3), (by simp only [inK]; omega), (decide_eq_false hc4), trivial⟩ rfl trivial ?_
          case' ga26 =>
            refine Safe.ends mixed Go.Proofs.Try.func41 15 [⟨100, []⟩, ⟨200, []⟩, ⟨300, [(2, .tt false)]⟩, ⟨400, [(3, .tt false), (8, .tt true), (14, .tt true)]⟩, ⟨500, []⟩] (r := .tup [I ((0 : Int)), B (false)]) (hp := []) (ob := [decide ((↑(str w).size : Int) > (0 : Int)) = false, decide ((0 : Int) = (↑(str w).size : Int)) = false, (0 : Int) ≤ (0 : Int) ∧ (0 : Int) < (↑(str w).size : Int), decide (byteAt (str w) (0 : Nat) = (48 : Int)) = true, inK IntKind.i64 ((0 : Int) + (1 : Int)), decide ((↑(str w).size : Int) > (0 : Int) + (1 : Int)) = true]) rfl (by kernel_rfl) ⟨(decide_eq_false hc1), (decide_eq_false hc2), (by omega), (decide_eq_true hc3), (by simp only [inK]; omega), (decide_eq_true hc4), trivial⟩ ?_ trivial trivial rfl
      case' ga24 =>
        refine Safe.ends mixed Go.Proofs.Try.func41 15 [⟨100, []⟩, ⟨200, []⟩, ⟨300, [(2, .tt false)]⟩, ⟨400, [(3, .tt true)]⟩, ⟨500, []⟩] (r := .tup [I ((0 : Int)), B (false)]) (hp := []) (ob := [decide ((↑(str w).size : Int) > (0 : Int)) = false, decide ((0 : Int) = (↑(str w).size : Int)) = true]) rfl (by kernel_rfl) ⟨(decide_eq_false hc1), (decide_eq_true hc2), trivial⟩ ?_ trivial trivial rfl
    case' ga16 =>
      refine (Classical.em (byteAt (str w) (0 : Nat) = (45 : Int))).elim (fun hc2 => ?ga17) (fun hc2 => ?gb17)
      case' gb17 =>
        refine (Classical.em ((0 : Int) = (↑(str w).size : Int))).elim (fun hc3 => ?ga21) (fun hc3 => ?gb21)
        case' gb21 =>
          refine (Classical.em (byteAt (str w) (0 : Nat) = (48 : Int))).elim (fun hc4 => ?ga22) (fun hc4 => ?gb22)
          case' gb22 =>
            refine Safe.goto mixed 19 [⟨100, []⟩, ⟨200, []⟩, ⟨300, [(2, .tt true), (6, .tt false)]⟩, ⟨400, [(3, .tt false), (8, .tt false)]⟩, ⟨500, []⟩] [0, 4, 5, 6] [] (todo' := loopAt Go.Proofs.Try.f41 0) (sl := slotsOf 62 [(0, S (str w)), (4, I ((0 : Int))), (5, I ((0 : Int))), (6, I ((0 : Int)))]) (hp := []) (ob := [decide ((↑(str w).size : Int) > (0 : Int)) = true, (0 : Int) ≤ (0 : Int) ∧ (0 : Int) < (↑(str w).size : Int), decide (byteAt (str w) (0 : Nat) = (45 : Int)) = false, decide ((0 : Int) = (↑(str w).size : Int)) = false, (0 : Int) ≤ (0 : Int) ∧ (0 : Int) < (↑(str w).size : Int), decide (byteAt (str w) (0 : Nat) = (48 : Int)) = false]) rfl rfl (by kernel_rfl) ⟨(decide_eq_true hc1), (by omega), (decide_eq_false hc2), (decide_eq_false hc3), (by omega), (decide_eq_false hc4), trivial⟩ rfl trivial ?_
          case' ga22 =>
            refine (Classical.em ((↑(str w).size : Int) > (0 : Int) + (1 : Int))).elim (fun hc5 => ?ga23) (fun hc5 => ?gb23)
            case' gb23 =>
              refine Safe.goto mixed 19 [⟨100, []⟩, ⟨200, []⟩, ⟨300, [(2, .tt true), (6, .tt false)]⟩, ⟨400, [(3, .tt false), (8, .tt true), (14, .tt false)]⟩, ⟨500, []⟩] [0, 4, 5, 6] [] (todo' := loopAt Go.Proofs.Try.f41 0) (sl := slotsOf 62 [(0, S (str w)), (4, I ((0 : Int))), (5, I ((0 : Int))), (6, I ((0 : Int)))]) (hp := []) (ob := [decide ((↑(str w).size : Int) > (0 : Int)) = true, (0 : Int) ≤ (0 : Int) ∧ (0 : Int) < (↑(str w).size : Int), decide (byteAt (str w) (0 : Nat) = (45 : Int)) = false, decide ((0 : Int) = (↑(str w).size : Int)) = false, (0 : Int) ≤ (0 : Int) ∧ (0 : Int) < (↑(str w).size : Int), decide (byteAt (str w) (0 : Nat) = (48 : Int)) = true, inK IntKind.i64 ((0 : Int) + (1 : Int)), decide ((↑(str w).size : Int) > (0 : Int) + (1 : Int)) = false]) rfl rfl (by kernel_rfl) ⟨(decide_eq_true hc1), (by omega), (decide_eq_false hc2), (decide_eq_false hc3), (by omega), (decide_eq_true hc4), (by simp only [inK]; omega), (decide_eq_false hc5), trivial⟩ rfl trivial ?_
            case' ga23 =>
              refine Safe.ends mixed Go.Proofs.Try.func41 15 [⟨100, []⟩, ⟨200, []⟩, ⟨300, [(2, .tt true), (6, .tt false)]⟩, ⟨400, [(3, .tt false), (8, .tt true), (14, .tt true)]⟩, ⟨500, []⟩] (r := .tup [I ((0 : Int)), B (false)]) (hp := []) (ob := [decide ((↑(str w).size : Int) > (0 : Int)) = true, (0 : Int) ≤ (0 : Int) ∧ (0 : Int) < (↑(str w).size : Int), decide (byteAt (str w) (0 : Nat) = (45 : Int)) = false, decide ((0 : Int) = (↑(str w).size : Int)) = false, (0 : Int) ≤ (0 : Int) ∧ (0 : Int) < (↑(str w).size : Int), decide (byteAt (str w) (0 : Nat) = (48 : Int)) = true, inK IntKind.i64 ((0 : Int) + (1 : Int)), decide ((↑(str w).size : Int) > (0 : Int) + (1 : Int)) = true]) rfl (by kernel_rfl) ⟨(decide_eq_true hc1), (by omega), (decide_eq_false hc2), (decide_eq_false hc3), (by omega), (decide_eq_true hc4), (by simp only [inK]; omega), (decide_eq_true hc5), trivial⟩ ?_ trivial trivial rfl
        case' ga21 =>
          refine Safe.ends mixed Go.Proofs.Try.func41 15 [⟨100, []⟩, ⟨200, []⟩, ⟨300, [(2, .tt true), (6, .tt false)]⟩, ⟨400, [(3, .tt true)]⟩, ⟨500, []⟩] (r := .tup [I ((0 : Int)), B (false)]) (hp := []) (ob := [decide ((↑(str w).size : Int) > (0 : Int)) = true, (0 : Int) ≤ (0 : Int) ∧ (0 : Int) < (↑(str w).size : Int), decide (byteAt (str w) (0 : Nat) = (45 : Int)) = false, decide ((0 : Int) = (↑(str w).size : Int)) = true]) rfl (by kernel_rfl) ⟨(decide_eq_true hc1), (by omega), (decide_eq_false hc2), (decide_eq_true hc3), trivial⟩ ?_ trivial trivial rfl
      case' ga17 =>
        refine (Classical.em ((1 : Int) = (↑(str w).size : Int))).elim (fun hc3 => ?ga18) (fun hc3 => ?gb18)
        case' gb18 =>
          refine (Classical.em (byteAt (str w) (1 : Nat) = (48 : Int))).elim (fun hc4 => ?ga19) (fun hc4 => ?gb19)
          case' gb19 =>
            refine Safe.goto mixed 19 [⟨100, []⟩, ⟨200, []⟩, ⟨300, [(2, .tt true), (6, .tt true)]⟩, ⟨400, []⟩, ⟨500, [(3, .tt false), (8, .tt false)]⟩, ⟨600, []⟩] [0, 4, 5, 6] [] (todo' := loopAt Go.Proofs.Try.f41 0) (sl := slotsOf 62 [(0, S (str w)), (4, I ((1 : Int))), (5, I ((0 : Int))), (6, I ((1 : Int)))]) (hp := []) (ob := [decide ((↑(str w).size : Int) > (0 : Int)) = true, (0 : Int) ≤ (0 : Int) ∧ (0 : Int) < (↑(str w).size : Int), decide (byteAt (str w) (0 : Nat) = (45 : Int)) = true, decide ((1 : Int) = (↑(str w).size : Int)) = false, (0 : Int) ≤ (1 : Int) ∧ (1 : Int) < (↑(str w).size : Int), decide (byteAt (str w) (1 : Nat) = (48 : Int)) = false]) rfl rfl (by kernel_rfl) ⟨(decide_eq_true hc1), (by omega), (decide_eq_true hc2), (decide_eq_false hc3), (by omega), (decide_eq_false hc4), trivial⟩ rfl trivial ?_
          case' ga19 =>
            refine (Classical.em ((↑(str w).size : Int) > (1 : Int) + (1 : Int))).elim (fun hc5 => ?ga20) (fun hc5 => ?gb20)
            case' gb20 =>
              refine Safe.ends mixed Go.Proofs.Try.func41 15 [⟨100, []⟩, ⟨200, []⟩, ⟨300, [(2, .tt true), (6, .tt true)]⟩, ⟨400, []⟩, ⟨500, [(3, .tt false), (8, .tt true), (14, .tt false)]⟩, ⟨600, []⟩] (r := .tup [I ((0 : Int)), B (false)]) (hp := []) (ob := [decide ((↑(str w).size : Int) > (0 : Int)) = true, (0 : Int) ≤ (0 : Int) ∧ (0 : Int) < (↑(str w).size : Int), decide (byteAt (str w) (0 : Nat) = (45 : Int)) = true, decide ((1 : Int) = (↑(str w).size : Int)) = false, (0 : Int) ≤ (1 : Int) ∧ (1 : Int) < (↑(str w).size : Int), decide (byteAt (str w) (1 : Nat) = (48 : Int)) = true, inK IntKind.i64 ((1 : Int) + (1 : Int)), decide ((↑(str w).size : Int) > (1 : Int) + (1 : Int)) = false]) rfl (by kernel_rfl) ⟨(decide_eq_true hc1), (by omega), (decide_eq_true hc2), (decide_eq_false hc3), (by omega), (decide_eq_true hc4), (by simp only [inK]; omega), (decide_eq_false hc5), trivial⟩ ?_ trivial trivial rfl
            case' ga20 =>
              refine Safe.ends mixed Go.Proofs.Try.func41 15 [⟨100, []⟩, ⟨200, []⟩, ⟨300, [(2, .tt true), (6, .tt true)]⟩, ⟨400, []⟩, ⟨500, [(3, .tt false), (8, .tt true), (14, .tt true)]⟩, ⟨600, []⟩] (r := .tup [I ((0 : Int)), B (false)]) (hp := []) (ob := [decide ((↑(str w).size : Int) > (0 : Int)) = true, (0 : Int) ≤ (0 : Int) ∧ (0 : Int) < (↑(str w).size : Int), decide (byteAt (str w) (0 : Nat) = (45 : Int)) = true, decide ((1 : Int) = (↑(str w).size : Int)) = false, (0 : Int) ≤ (1 : Int) ∧ (1 : Int) < (↑(str w).size : Int), decide (byteAt (str w) (1 : Nat) = (48 : Int)) = true, inK IntKind.i64 ((1 : Int) + (1 : Int)), decide ((↑(str w).size : Int) > (1 : Int) + (1 : Int)) = true]) rfl (by kernel_rfl) ⟨(decide_eq_true hc1), (by omega), (decide_eq_true hc2), (decide_eq_false hc3), (by omega), (decide_eq_true hc4), (by simp only [inK]; omega), (decide_eq_true hc5), trivial⟩ ?_ trivial trivial rfl
        case' ga18 =>
          refine Safe.ends mixed Go.Proofs.Try.func41 15 [⟨100, []⟩, ⟨200, []⟩, ⟨300, [(2, .tt true), (6, .tt true)]⟩, ⟨400, []⟩, ⟨500, [(3, .tt true)]⟩, ⟨600, []⟩] (r := .tup [I ((0 : Int)), B (false)]) (hp := []) (ob := [decide ((↑(str w).size : Int) > (0 : Int)) = true, (0 : Int) ≤ (0 : Int) ∧ (0 : Int) < (↑(str w).size : Int), decide (byteAt (str w) (0 : Nat) = (45 : Int)) = true, decide ((1 : Int) = (↑(str w).size : Int)) = true]) rfl (by kernel_rfl) ⟨(decide_eq_true hc1), (by omega), (decide_eq_true hc2), (decide_eq_true hc3), trivial⟩ ?_ trivial trivial rfl
    case ga18 => exact nf (hnil (by have := hd1 (by omega); omega))
    case ga20 =>
      have hd0 := hd1 (by omega)
      exact nf (h48 (by omega) fun e => by (have e3 : w.getD 0 0 = 48 := by rw [e]; rfl); omega)
    case gb20 =>
      have hd0 := hd1 (by omega)
      exact nf (h48 (by omega) fun e => by (have e3 : w.getD 0 0 = 48 := by rw [e]; rfl); omega)
    case gb19 =>
      have hd0 := hd1 (by omega)
      exact H (1, 0) ⟨Nat.zero_le _, by rw [if_pos (by omega)], fun e => by (have : (dig w).length = 0 := by rw [e]; rfl); omega, fun h => by omega, fun j hj => by dsimp only at hj; omega, Int.le_refl 0⟩
    case ga21 => exfalso; omega
    case ga23 =>
      have hd0 := hd2 (by omega)
      exact nf (h48 (by omega) fun e => by (have : w.length = 1 := by rw [e]; rfl); omega)
    case gb23 =>
      have e : w = [48] := by
        obtain ⟨a, ha⟩ := List.length_eq_one_iff.1 (show w.length = 1 by omega)
        have e3 : w.getD 0 0 = a := by rw [ha]; rfl
        rw [ha, show a = 48 by omega]
      have hd0 := hd2 (by omega)
      exact H (0, 0) ⟨Nat.zero_le _, by rw [if_neg (by omega)], fun e => by (have : (dig w).length = 0 := by rw [e]; rfl); omega, fun h => h.2 e, fun j hj => by dsimp only at hj; omega, Int.le_refl 0⟩
    case gb22 =>
      have hd0 := hd2 (by omega)
      exact H (0, 0) ⟨Nat.zero_le _, by rw [if_neg (by omega)], fun e => by (have : (dig w).length = 0 := by rw [e]; rfl); omega, fun h => by omega, fun j hj => by dsimp only at hj; omega, Int.le_refl 0⟩
    case ga24 => exact nf (hnil (by omega))
    all_goals (exfalso; omega)
/-- what a backslash stands for -/
def escV (r : List Int) : Int := if r.getD 0 0 = 34 then 34 else if r.getD 0 0 = 92 then 92 else if r.getD 0 0 = 110 then 10 else 0
def escB (r : List Int) : Bool := decide (r.getD 0 0 = 34 ∨ r.getD 0 0 = 92 ∨ r.getD 0 0 = 110)
set_option maxRecDepth 10000 in
set_option maxHeartbeats 4000000 in
theorem escaped_any (r : List Int) (hw : Bts r) (hl : r.length ≤ 1000000) : CallOK Try.prog 46 [S (str r)] [] (.tup [U8 (escV r), B (escB r)]) [] := by
  refine CallOK.intro Try.call46 Try.func46 rfl rfl trivial ?_
  have hsz := str_size r
  have hb0 := str_byte hw 0
  have h0 := str_nil r
  have key : ∀ v b, escV r = v → escB r = b → AV.tup [U8 v, B b] = .tup [U8 (escV r), B (escB r)] := fun v b h1 h2 => by rw [h1, h2]
  refine (Classical.em (str r = ByteArray.mk #[])).elim (fun hc1 => ?ga27) (fun hc1 => ?gb27)
  case' gb27 =>
    refine (Classical.em (byteAt (str r) (0 : Nat) = (34 : Int))).elim (fun hc2 => ?ga28) (fun hc2 => ?gb28)
    case' gb28 =>
      refine (Classical.em (byteAt (str r) (0 : Nat) = (92 : Int))).elim (fun hc3 => ?ga29) (fun hc3 => ?gb29)
      case' gb29 =>
        refine (Classical.em (byteAt (str r) (0 : Nat) = (110 : Int))).elim (fun hc4 => ?ga30) (fun hc4 => ?gb30)
        case' gb30 =>
          refine Safe.ends mixed Go.Proofs.Try.func46 24 [⟨100, []⟩, ⟨200, [(1, .tt false)]⟩, ⟨300, []⟩, ⟨400, [(0, .tt false)]⟩, ⟨500, [(0, .tt false)]⟩, ⟨600, [(0, .tt false)]⟩, ⟨700, []⟩] (r := .tup [.val (Value.int IntKind.u8 (0 : Int)), B (false)]) (hp := []) (ob := [decide (str r = ByteArray.mk #[]) = false, (0 : Int) ≤ (0 : Int) ∧ (0 : Int) < (↑(str r).size : Int), decide (byteAt (str r) (0 : Nat) = (34 : Int)) = false, decide (byteAt (str r) (0 : Nat) = (92 : Int)) = false, decide (byteAt (str r) (0 : Nat) = (110 : Int)) = false]) rfl (by kernel_rfl) ⟨(decide_eq_false hc1), (by first | omega | (have := mt h0.2 (by assumption); have := List.length_pos_iff.2 this; omega)), (decide_eq_false hc2), (decide_eq_false hc3), (decide_eq_false hc4), trivial⟩ ?_ trivial trivial rfl
        case' ga30 =>
          refine Safe.ends mixed Go.Proofs.Try.func46 22 [⟨100, []⟩, ⟨200, [(1, .tt false)]⟩, ⟨300, []⟩, ⟨400, [(0, .tt false)]⟩, ⟨500, [(0, .tt false)]⟩, ⟨600, [(0, .tt true)]⟩, ⟨700, []⟩] (r := .tup [.val (Value.int IntKind.u8 (10 : Int)), B (true)]) (hp := []) (ob := [decide (str r = ByteArray.mk #[]) = false, (0 : Int) ≤ (0 : Int) ∧ (0 : Int) < (↑(str r).size : Int), decide (byteAt (str r) (0 : Nat) = (34 : Int)) = false, decide (byteAt (str r) (0 : Nat) = (92 : Int)) = false, decide (byteAt (str r) (0 : Nat) = (110 : Int)) = true]) rfl (by kernel_rfl) ⟨(decide_eq_false hc1), (by first | omega | (have := mt h0.2 (by assumption); have := List.length_pos_iff.2 this; omega)), (decide_eq_false hc2), (decide_eq_false hc3), (decide_eq_true hc4), trivial⟩ ?_ trivial trivial rfl
      case' ga29 =>
        refine Safe.ends mixed Go.Proofs.Try.func46 19 [⟨100, []⟩, ⟨200, [(1, .tt false)]⟩, ⟨300, []⟩, ⟨400, [(0, .tt false)]⟩, ⟨500, [(0, .tt true)]⟩, ⟨600, []⟩] (r := .tup [.val (Value.int IntKind.u8 (byteAt (str r) (0 : Nat))), B (true)]) (hp := []) (ob := [decide (str r = ByteArray.mk #[]) = false, (0 : Int) ≤ (0 : Int) ∧ (0 : Int) < (↑(str r).size : Int), decide (byteAt (str r) (0 : Nat) = (34 : Int)) = false, decide (byteAt (str r) (0 : Nat) = (92 : Int)) = true, (0 : Int) ≤ (0 : Int) ∧ (0 : Int) < (↑(str r).size : Int)]) rfl (by kernel_rfl) ⟨(decide_eq_false hc1), (by first | omega | (have := mt h0.2 (by assumption); have := List.length_pos_iff.2 this; omega)), (decide_eq_false hc2), (decide_eq_true hc3), (by first | omega | (have := mt h0.2 (by assumption); have := List.length_pos_iff.2 this; omega)), trivial⟩ ?_ trivial trivial rfl
    case' ga28 =>
      refine Safe.ends mixed Go.Proofs.Try.func46 19 [⟨100, []⟩, ⟨200, [(1, .tt false)]⟩, ⟨300, []⟩, ⟨400, [(0, .tt true)]⟩, ⟨500, []⟩] (r := .tup [.val (Value.int IntKind.u8 (byteAt (str r) (0 : Nat))), B (true)]) (hp := []) (ob := [decide (str r = ByteArray.mk #[]) = false, (0 : Int) ≤ (0 : Int) ∧ (0 : Int) < (↑(str r).size : Int), decide (byteAt (str r) (0 : Nat) = (34 : Int)) = true, (0 : Int) ≤ (0 : Int) ∧ (0 : Int) < (↑(str r).size : Int)]) rfl (by kernel_rfl) ⟨(decide_eq_false hc1), (by first | omega | (have := mt h0.2 (by assumption); have := List.length_pos_iff.2 this; omega)), (decide_eq_true hc2), (by first | omega | (have := mt h0.2 (by assumption); have := List.length_pos_iff.2 this; omega)), trivial⟩ ?_ trivial trivial rfl
  case' ga27 =>
    refine Safe.ends mixed Go.Proofs.Try.func46 8 [⟨100, []⟩, ⟨200, [(1, .tt true)]⟩, ⟨300, []⟩] (r := .tup [.val (Value.int IntKind.u8 (0 : Int)), B (false)]) (hp := []) (ob := [decide (str r = ByteArray.mk #[]) = true]) rfl (by kernel_rfl) ⟨(decide_eq_true hc1), trivial⟩ ?_ trivial trivial rfl
  case ga27 =>
    have e1 : r.getD 0 0 = 0 := by rw [h0.1 hc1]; rfl
    exact key _ _ (by rw [escV, if_neg (by omega), if_neg (by omega), if_neg (by omega)]) (decide_eq_false (by omega))
  case ga28 => exact key _ _ (by rw [escV, if_pos (by omega), hc2]) (decide_eq_true (by omega))
  case ga29 => exact key _ _ (by rw [escV, if_neg (by omega), if_pos (by omega), hc3]) (decide_eq_true (by omega))
  case ga30 => exact key _ _ (by rw [escV, if_neg (by omega), if_neg (by omega), if_pos (by omega)]) (decide_eq_true (by omega))
  case gb30 => exact key _ _ (by rw [escV, if_neg (by omega), if_neg (by omega), if_neg (by omega)]) (decide_eq_false (by omega))
end Go.Proofs.Ytnjidpidcmapkaa
