/- Lists of numbers: Index, Delete; forget; clone. -/
import Derived.Test.YtebejfmodiionaaSyX
import Derived.KernelRfl
import Derived.Test.YtebejfmodiionaaU3
namespace Go.Proofs.Ytebejfmodiionaa
open Go.RowKit
set_option linter.unusedVariables false
set_option linter.unnecessarySimpa false
/-- where a number stands, or the length -/
def idx (l : List Int) (n : Int) : Nat := l.findIdx (fun x => decide (x = n))
theorem idx_le (l : List Int) (n : Int) : idx l n ≤ l.length := List.findIdx_le_length
theorem idx_lt {l : List Int} {n : Int} {k : Nat} (h : k < idx l n) : l.getD k default ≠ n := by
  have hl := Nat.lt_of_lt_of_le h (idx_le l n)
  have := List.not_of_lt_findIdx h
  rw [List.getD_eq_getElem?_getD, List.getElem?_eq_getElem hl]
  simpa using this
theorem idx_at {l : List Int} {n : Int} (h : idx l n < l.length) : l.getD (idx l n) default = n := by
  have := List.findIdx_getElem (p := fun x => decide (x = n)) (w := h)
  rw [List.getD_eq_getElem?_getD, List.getElem?_eq_getElem h]
  exact of_decide_eq_true this
theorem idx_mem {l : List Int} {n : Int} : idx l n < l.length ↔ n ∈ l := by
  unfold idx
  rw [List.findIdx_lt_length]
  simp
set_option maxRecDepth 10000 in
set_option maxHeartbeats 4000000 in
theorem index_any (l : List Int) (n : Int) (hl : l.length ≤ 1000000) : CallOK Try.prog 55 [.sl 0 0 1 l.length none, I n] [(0, .ro 1 l.length (rowG encI l))] (I (if idx l n < l.length then (idx l n : Int) else -1)) [] := by
  refine CallOK.intro Try.call55 Try.func55 rfl rfl ⟨rfl, fun _ => rfl, trivial⟩ ?_
  refine Safe.withLoop (loopAt Try.f55 0) [0] 19 (fun g : Nat => [(0, .sl 0 0 1 l.length none), (1, I n), (7, I l.length), (8, I g)]) (fun _ => [(0, .ro 1 l.length (rowG encI l))]) (fun g => g ≤ idx l n) (fun g => l.length - g) ?_ ?_
  · intro k hk ih
    have h1 := idx_le l n
    have h2 := @idx_at l n
    have h3 := @idx_lt l n k
    refine (Classical.em ((↑k : Int) < (↑l.length : Int))).elim (fun hc1 => ?ga0) (fun hc1 => ?gb0)
    case' gb0 =>
      refine Safe.ends mixed Go.Proofs.Try.func55 7 [⟨1100, [(0, .tt false)]⟩, ⟨1200, []⟩] (r := I ((-1 : Int))) (hp := [(0, .ro ((1 : Nat)) (l.length) (rowG encI l))]) (ob := [decide ((↑k : Int) < (↑l.length : Int)) = false]) rfl (by kernel_rfl) ⟨(decide_eq_false hc1), trivial⟩ ?_ ⟨ObLe.refl _, trivial⟩ ⟨rfl, fun _ => rfl, trivial⟩ rfl
    case' ga0 =>
      refine (Classical.em (n = l.getD k default)).elim (fun hc2 => ?ga1) (fun hc2 => ?gb1)
      case' gb1 =>
        refine Safe.goto mixed 16 [⟨1100, [(0, .tt true)]⟩, ⟨1200, []⟩, ⟨1300, [(5, .tt false)]⟩, ⟨1400, []⟩] [0, 1, 7, 8] [0] (todo' := loopAt Go.Proofs.Try.f55 0) (sl := slotsOf 19 [(0, .sl ((0 : Nat)) ((0 : Nat)) ((1 : Nat)) (l.length) (none)), (1, I (n)), (7, I ((↑l.length : Int))), (8, I ((↑k : Int) + (1 : Int)))]) (hp := [(0, .ro ((1 : Nat)) (l.length) (rowG encI l))]) (ob := [decide ((↑k : Int) < (↑l.length : Int)) = true, (0 : Int) ≤ (↑k : Int) ∧ (↑k : Int) < (↑l.length : Int), k < l.length, decide (n = l.getD k default) = false, inK IntKind.i64 ((↑k : Int) + (1 : Int))]) rfl rfl (by kernel_rfl) ⟨(decide_eq_true hc1), (by omega), (by omega), (decide_eq_false hc2), (by simp only [inK]; omega), trivial⟩ rfl ⟨rfl, fun _ => rfl, trivial⟩ ?_
      case' ga1 =>
        refine Safe.ends mixed Go.Proofs.Try.func55 14 [⟨1100, [(0, .tt true)]⟩, ⟨1200, []⟩, ⟨1300, [(5, .tt true)]⟩, ⟨1400, []⟩] (r := I ((↑k : Int))) (hp := [(0, .ro ((1 : Nat)) (l.length) (rowG encI l))]) (ob := [decide ((↑k : Int) < (↑l.length : Int)) = true, (0 : Int) ≤ (↑k : Int) ∧ (↑k : Int) < (↑l.length : Int), k < l.length, decide (n = l.getD k default) = true]) rfl (by kernel_rfl) ⟨(decide_eq_true hc1), (by omega), (by omega), (decide_eq_true hc2), trivial⟩ ?_ ⟨ObLe.refl _, trivial⟩ ⟨rfl, fun _ => rfl, trivial⟩ rfl
    · show I _ = I _
      have : idx l n = k := by
        rcases Nat.lt_or_eq_of_le hk with h | h
        · exact absurd hc2.symm (h3 h)
        · exact h.symm
      rw [this, if_pos (by omega)]
    · have : k ≠ idx l n := fun e => hc2 (by have := h2 (by omega); rw [← e] at this; exact this.symm)
      exact ih (k + 1) (by omega) (by omega)
    · show I _ = I _
      rw [if_neg (by omega)]
  · intro H
    refine Safe.goto mixed 7 [⟨1100, []⟩, ⟨1200, []⟩] [0, 1, 7, 8] [0] (todo' := loopAt Go.Proofs.Try.f55 0) (sl := slotsOf 19 [(0, .sl ((0 : Nat)) ((0 : Nat)) ((1 : Nat)) (l.length) (none)), (1, I (n)), (7, I ((↑l.length : Int))), (8, I ((0 : Int)))]) (hp := [(0, .ro ((1 : Nat)) (l.length) (rowG encI l))]) (ob := []) rfl rfl (by kernel_rfl) trivial rfl ⟨rfl, fun _ => rfl, trivial⟩ ?_
    exact H 0 (Nat.zero_le _)
theorem erase_row (l : List Int) (i : Nat) (hi : i < l.length) (q : Nat) (hq : q < l.length) : (l.eraseIdx i ++ [0]).getD q default = if q < i then l.getD q default else if q < l.length - 1 then l.getD (q + 1) default else 0 := by
  have hl : (l.eraseIdx i).length = l.length - 1 := by rw [List.length_eraseIdx, if_pos hi]
  simp only [List.getD_eq_getElem?_getD, List.getElem?_append, hl, List.getElem?_eraseIdx]
  by_cases h1 : q < i
  · rw [if_pos (by omega), if_pos h1, if_pos h1]
  · rw [if_neg h1, if_neg h1]
    by_cases h2 : q < l.length - 1
    · rw [if_pos h2, if_pos h2]
    · rw [if_neg h2, if_neg h2, show q - (l.length - 1) = 0 by omega]
      rfl
set_option maxRecDepth 10000 in
set_option maxHeartbeats 4000000 in
theorem delete_any (l : List Int) (i : Nat) (hi : i < l.length) (hl : l.length ≤ 1000000) : CallOK Try.prog 56 [.sl 0 0 1 l.length none, I i, I ((i : Int) + 1)] [(0, .vec 3 1 l.length (rowG encI l))] (.sl 0 0 1 (l.length - 1) none) [(0, some (.vec 3 1 l.length (rowG encI (l.eraseIdx i ++ [0]))))] := by
  refine CallOK.intro Try.call56 Try.func56 rfl rfl ⟨rfl, fun _ => rfl, trivial⟩ ?_
  have hne : ¬ (i : Int) = i + 1 := by omega
  have ha : addN i (l.length - ((i : Int) + 1).toNat) = l.length - 1 := by rw [addN_eq]; omega
  have hb : addN 0 (l.length - 1) = l.length - 1 := by rw [addN_eq]; omega
  have hd : addN 0 (addN i (l.length - ((i : Int) + 1).toNat)) = l.length - 1 := by rw [ha, hb]
  refine Safe.ends mixed Go.Proofs.Try.func56 17 [⟨1100, []⟩, ⟨1200, []⟩, ⟨1300, [(2, .tt false)]⟩, ⟨1400, []⟩, ⟨1500, [(6, .inpl)]⟩, ⟨1600, [(4, .inpl)]⟩, ⟨1700, []⟩] (r := .sl ((0 : Nat)) ((0 : Nat)) ((1 : Nat)) (addN i (l.length - ((↑i : Int) + (1 : Int)).toNat)) (none)) (hp := [(0, .vec ((3 : Nat)) ((1 : Nat)) (l.length) (copyRow (copyRow (rowG encI l) ((0 : Nat) + i) (l.length - ((↑i : Int) + (1 : Int)).toNat) fun q => rowG encI l (i + (1 : Nat) + q)) (addN i (l.length - ((↑i : Int) + (1 : Int)).toNat)) (l.length - addN i (l.length - ((↑i : Int) + (1 : Int)).toNat)) fun x => List.map AV.val (Value.int IntKind.i64 (0 : Int)).cells.toList))]) (ob := [(0 : Int) ≤ (↑i : Int) + (1 : Int) ∧ (↑i : Int) + (1 : Int) ≤ (↑l.length : Int), (0 : Int) ≤ (↑i : Int) ∧ (↑i : Int) ≤ (↑i : Int) + (1 : Int), (↑i : Int) + (1 : Int) ≤ (↑l.length : Int) ∧ (↑l.length : Int) ≤ (↑l.length : Int), decide ((↑i : Int) = (↑i : Int) + (1 : Int)) = false, (0 : Int) ≤ (↑i : Int) ∧ (↑i : Int) ≤ (↑l.length : Int), (0 : Int) ≤ (↑i : Int) + (1 : Int) ∧ (↑i : Int) + (1 : Int) ≤ (↑l.length : Int), ((↑i : Int) + (1 : Int)).toNat + (l.length - ((↑i : Int) + (1 : Int)).toNat) ≤ l.length, (0 : Nat) + i + (l.length - ((↑i : Int) + (1 : Int)).toNat) ≤ l.length, (0 : Int) ≤ (↑(addN i (l.length - ((↑i : Int) + (1 : Int)).toNat)) : Int) ∧ (↑(addN i (l.length - ((↑i : Int) + (1 : Int)).toNat)) : Int) ≤ (↑l.length : Int) ∧ (0 : Int) + (↑l.length : Int) ≤ (↑l.length : Int), addN i (l.length - ((↑i : Int) + (1 : Int)).toNat) + (l.length - addN i (l.length - ((↑i : Int) + (1 : Int)).toNat)) ≤ l.length]) rfl (by kernel_rfl) ⟨(by omega), (by omega), (by omega), (decide_eq_false hne), (by omega), (by omega), (by omega), (by omega), (by omega), (by omega), trivial⟩ ?_ ⟨?_, trivial⟩ ⟨rfl, fun _ => rfl, trivial⟩ rfl
  · show AV.sl _ _ _ _ _ = _
    rw [ha]
  · refine ⟨rfl, rfl, rfl, fun q hq => ?_⟩
    have hq : q < l.length := hq
    show copyRow (copyRow (rowG encI l) (0 + i) (l.length - ((i : Int) + 1).toNat) fun q => rowG encI l (i + 1 + q)) (addN 0 (addN i (l.length - ((i : Int) + 1).toNat))) (l.length - addN i (l.length - ((i : Int) + 1).toNat)) (fun _ => [I 0]) q = _
    rw [ha, hb]
    unfold copyRow rowG encI
    rw [erase_row l i hi q hq]
    by_cases h1 : l.length - 1 ≤ q
    · rw [if_pos ⟨h1, by omega⟩, if_neg (by omega), if_neg (by omega)]
    · rw [if_neg (fun h => h1 h.1)]
      by_cases h2 : i ≤ q
      · rw [if_pos ⟨by omega, by omega⟩, if_neg (by omega), if_pos (by omega), show (fun q => [I (l.getD (i + 1 + q) default)]) (q - (0 + i)) = [I (l.getD (i + 1 + (q - (0 + i))) default)] from rfl, show i + 1 + (q - (0 + i)) = q + 1 by omega]
      · rw [if_neg (by omega), if_pos (by omega)]
set_option maxRecDepth 10000 in
set_option maxHeartbeats 4000000 in
theorem clone_any (S : List Sl) (c : Int) (M : List Int) (hS : S.length ≤ 1000000) (hM : M.length ≤ 1000000) : CallOK Try.prog 47 [.agg [.sl 1 0 4 S.length none, I c, .sl 2 0 1 M.length none]] [(1, .ro 4 S.length (rowG encC S)), (2, .ro 1 M.length (rowG encI M))] (.agg [.sl 10 0 4 S.length none, I c, .sl 11 0 1 M.length none]) [(10, some (.vec 51 4 S.length (rowG encC S))), (11, some (.vec 3 1 M.length (rowG encI M)))] := by
  refine CallOK.intro Try.call47 Try.func47 rfl rfl ⟨rfl, fun _ => rfl, rfl, fun _ => rfl, trivial⟩ ?_
  refine Safe.gotoE mixed 10 [⟨1100, []⟩, ⟨1200, []⟩, ⟨1300, []⟩, ⟨1400, []⟩, ⟨1500, []⟩] [2] [1, 2, 1203, 1209, 1101] (sl := slotsOf 26 [(2, .ptr ((1101 : Nat)) ((0 : Nat)) ((0 : Nat)) ((0 : Nat)))]) (hp := [(1, .ro ((4 : Nat)) (S.length) (rowG encC S)), (2, .ro ((1 : Nat)) (M.length) (rowG encI M)), (1203, .vec ((51 : Nat)) ((4 : Nat)) (S.length) (copyRow (fun x => List.map AV.val (Value.agg #[Value.bool false, Value.bool false, Value.int IntKind.i64 (0 : Int), Value.int IntKind.i64 (0 : Int)]).cells.toList) (0 : Nat) (min S.length S.length) (rowG encC S))), (1209, .vec ((3 : Nat)) ((1 : Nat)) (M.length) (copyRow (fun x => List.map AV.val (Value.int IntKind.i64 (0 : Int)).cells.toList) (0 : Nat) (min M.length M.length) (rowG encI M))), (1101, .blk ((25 : Nat)) [.sl ((1203 : Nat)) ((0 : Nat)) ((4 : Nat)) (S.length) (none), I (c), .sl ((1209 : Nat)) ((0 : Nat)) ((1 : Nat)) (M.length) (none)])]) (ob := [(0 : Int) ≤ (↑S.length : Int) ∧ (↑S.length : Int) ≤ (↑S.length : Int) ∧ (↑S.length : Int) ≤ (1099511627776 : Int), (0 : Int) ≤ (↑M.length : Int) ∧ (↑M.length : Int) ≤ (↑M.length : Int) ∧ (↑M.length : Int) ≤ (1099511627776 : Int), (0 : Nat) + S.length ≤ S.length, (0 : Nat) + min S.length S.length ≤ S.length, (0 : Nat) + M.length ≤ M.length, (0 : Nat) + min M.length M.length ≤ M.length]) rfl rfl (by kernel_rfl) ⟨(by omega), (by omega), (by omega), (by omega), (by omega), (by omega), trivial⟩ rfl ⟨rfl, fun _ => rfl, rfl, fun _ => rfl, rfl, closed_copy (fun _ => rfl) (fun _ => rfl), rfl, closed_copy (fun _ => rfl) (fun _ => rfl), rfl, rfl, trivial⟩ fun td htd => ?_
  refine Safe.ren [(1203, 10), (1209, 11)] rfl rfl rfl rfl ⟨rfl, fun _ => rfl, rfl, fun _ => rfl, rfl, closed_copy (fun _ => rfl) (fun _ => rfl), rfl, closed_copy (fun _ => rfl) (fun _ => rfl), rfl, rfl, trivial⟩ ?_
  refine Safe.endsT Go.Proofs.Try.func47 htd (r := .agg [.sl ((10 : Nat)) ((0 : Nat)) ((4 : Nat)) (S.length) (none), I (c), .sl ((11 : Nat)) ((0 : Nat)) ((1 : Nat)) (M.length) (none)]) (hp := [(1, .ro ((4 : Nat)) (S.length) (fun q => renL [((1203 : Nat), (10 : Nat)), ((1209 : Nat), (11 : Nat))] (rowG encC S q))), (2, .ro ((1 : Nat)) (M.length) (fun q => renL [((1203 : Nat), (10 : Nat)), ((1209 : Nat), (11 : Nat))] (rowG encI M q))), (10, .vec ((51 : Nat)) ((4 : Nat)) (S.length) (fun q => renL [((1203 : Nat), (10 : Nat)), ((1209 : Nat), (11 : Nat))] (copyRow (fun x => List.map AV.val (Value.agg #[Value.bool false, Value.bool false, Value.int IntKind.i64 (0 : Int), Value.int IntKind.i64 (0 : Int)]).cells.toList) (0 : Nat) (min S.length S.length) (rowG encC S) q))), (11, .vec ((3 : Nat)) ((1 : Nat)) (M.length) (fun q => renL [((1203 : Nat), (10 : Nat)), ((1209 : Nat), (11 : Nat))] (copyRow (fun x => List.map AV.val (Value.int IntKind.i64 (0 : Int)).cells.toList) (0 : Nat) (min M.length M.length) (rowG encI M) q)))]) (ob := []) rfl (by kernel_rfl) trivial rfl ⟨⟨rfl, rfl, fun _ _ => rfl⟩, ⟨rfl, rfl, fun _ _ => rfl⟩, ?_, ?_, trivial⟩ ⟨rfl, fun _ => rfl, rfl, fun _ => rfl, rfl, fun _ => rfl, rfl, fun _ => rfl, trivial⟩ rfl
  · refine ⟨rfl, rfl, rfl, fun q hq => ?_⟩
    have : q < S.length := hq
    show renL _ (copyRow _ 0 (min S.length S.length) (rowG encC S) q) = _
    unfold copyRow
    rw [Nat.min_self, if_pos ⟨Nat.zero_le _, by omega⟩, Nat.sub_zero]
    rfl
  · refine ⟨rfl, rfl, rfl, fun q hq => ?_⟩
    have : q < M.length := hq
    show renL _ (copyRow _ 0 (min M.length M.length) (rowG encI M) q) = _
    unfold copyRow
    rw [Nat.min_self, if_pos ⟨Nat.zero_le _, by omega⟩, Nat.sub_zero]
    rfl
end Go.Proofs.Ytebejfmodiionaa
