/- The reference's insert, ends, Select. No conditions but those of each theorem. -/
import Derived.Test.YtgfdmeaganhpiaaSyZ
import Derived.KernelRfl
import Derived.Test.YtgfdmeaganhpiaaY3
namespace Go.Proofs.Ytgfdmeaganhpiaa
open Go.RowKit
set_option linter.unusedVariables false
set_option linter.unnecessarySimpa false
theorem ins_row {σ : List (Nat × Nat)} (l : List Int) (n : Int) (k : Nat) (hk : k ≤ l.length) (h : insL l n = l.take k ++ [n] ++ l.drop k) : ObLe (.vec 3 1 (addN (addN k 1) (l.length - k)) (fun q => renL σ (catR (addN k 1) (catR k (rowG encI l) (rowsOf [AV.val (Value.int IntKind.i64 n)] 1)) (shiftR (rowG encI l) k) q))) (.vec 3 1 (insL l n).length (rowG encI (insL l n))) := by
  have hm : addN (addN k 1) (l.length - k) = (insL l n).length := by rw [h, addN_eq, addN_eq]; simp; omega
  refine ⟨rfl, rfl, hm, fun q hq => ?_⟩
  rw [h] at hq
  simp only [List.length_append, List.length_take, List.length_singleton, List.length_drop] at hq
  have e : rowG encI (insL l n) q = [I ((l.take k ++ [n] ++ l.drop k).getD q default)] := by rw [h]; rfl
  show renL σ (catR (addN k 1) (catR k (rowG encI l) (rowsOf [AV.val (Value.int IntKind.i64 n)] 1)) (shiftR (rowG encI l) k) q) = _
  rw [e, catR_at, addN_eq, List.getD_eq_getElem?_getD, List.getElem?_append, List.getElem?_append]
  simp only [List.length_append, List.length_take, List.length_singleton, Nat.min_eq_left hk]
  by_cases q1 : q < k + 1
  · rw [if_pos q1, if_pos q1, catR_at]
    by_cases q2 : q < k
    · rw [if_pos q2, if_pos q2, List.getElem?_take_of_lt q2]
      show [I (l.getD q default)] = _
      rw [List.getD_eq_getElem?_getD]
    · have : q - k = 0 := by omega
      rw [if_neg q2, if_neg q2, this]; rfl
  · rw [if_neg q1, if_neg q1, List.getElem?_drop, shiftR_at]
    show [I (l.getD (k + (q - (k + 1))) default)] = _
    rw [List.getD_eq_getElem?_getD]
set_option maxRecDepth 10000 in
set_option maxHeartbeats 4000000 in
theorem ins_in (l : List Int) (n : Int) (hl : l.length ≤ 1000000) (hi : insL l n = l) : CallOK Try.prog 48 [.sl 0 0 1 l.length none, I n] [(0, .vec 3 1 l.length (rowG encI l))] (.sl 0 0 1 l.length none) [] := by
  refine CallOK.intro Try.call48 Try.func48 rfl rfl ⟨rfl, fun _ => rfl, trivial⟩ ?_
  refine Safe.withLoop (loopAt Try.f48 0) [0] 44 (fun g : Nat => [(0, .sl 0 0 1 l.length none), (1, I n), (5, I g)]) (fun _ => [(0, .vec 3 1 l.length (rowG encI l))]) (fun g => g ≤ l.length ∧ ∀ j, j < g → l.getD j default < n) (fun g => l.length - g) ?_ ?_
  · rintro k ⟨hk, h1⟩ ih
    have hat := insL_at l n k hk h1
    have hlen : k ≤ l.length → (l.take k ++ [n] ++ l.drop k).length = l.length + 1 := fun h => by simp; omega
    by_cases c1 : (k : Int) < (l.length : Int)
    · by_cases c2 : l.getD k default < n
      · skip
        refine Safe.goto mixed 9 [⟨1100, [(3, .tt true), (10, .tt true)]⟩, ⟨1200, []⟩] [0, 1, 5] [0] (todo' := loopAt Go.Proofs.Try.f48 0) (sl := slotsOf 44 [(0, .sl ((0 : Nat)) ((0 : Nat)) ((1 : Nat)) (l.length) (none)), (1, I (n)), (5, I ((↑k : Int) + (1 : Int)))]) (hp := [(0, .vec ((3 : Nat)) ((1 : Nat)) (l.length) (rowG encI l))]) (ob := [decide ((↑k : Int) < (↑l.length : Int)) = true, (0 : Int) ≤ (↑k : Int) ∧ (↑k : Int) < (↑l.length : Int), k < l.length, decide (l.getD k default < n) = true, inK IntKind.i64 ((↑k : Int) + (1 : Int))]) rfl rfl (by kernel_rfl) ⟨(decide_eq_true c1), (by omega), (by omega), (decide_eq_true c2), (by simp only [inK]; omega), trivial⟩ rfl ⟨rfl, fun _ => rfl, trivial⟩ ?_
        refine ih (k + 1) ⟨by omega, fun j hj => ?_⟩ (by omega)
        by_cases e : j = k
        · rw [e]; exact c2
        · exact h1 j (by omega)
      · have c3 : l.getD k default = n := Decidable.byContradiction fun h => by
          rw [if_neg (fun h' => h h'.2), hi] at hat
          have := congrArg List.length (hat fun _ => c2)
          rw [hlen hk] at this
          omega
        refine Safe.ends mixed Go.Proofs.Try.func48 11 [⟨1100, [(3, .tt true), (10, .tt false)]⟩, ⟨1200, [(3, .tt true), (10, .tt true)]⟩, ⟨1300, []⟩] (r := .sl ((0 : Nat)) ((0 : Nat)) ((1 : Nat)) (l.length) (none)) (hp := [(0, .vec ((3 : Nat)) ((1 : Nat)) (l.length) (rowG encI l))]) (ob := [decide ((↑k : Int) < (↑l.length : Int)) = true, (0 : Int) ≤ (↑k : Int) ∧ (↑k : Int) < (↑l.length : Int), k < l.length, decide (l.getD k default < n) = false, decide ((↑k : Int) < (↑l.length : Int)) = true, (0 : Int) ≤ (↑k : Int) ∧ (↑k : Int) < (↑l.length : Int), k < l.length, decide (l.getD k default = n) = true]) rfl (by kernel_rfl) ⟨(decide_eq_true c1), (by omega), (by omega), (decide_eq_false c2), (decide_eq_true c1), (by omega), (by omega), (decide_eq_true c3), trivial⟩ rfl ⟨ObLe.refl _, trivial⟩ ⟨rfl, fun _ => rfl, trivial⟩ rfl
    · rw [if_neg (fun h' => c1 (by omega)), hi] at hat
      have := congrArg List.length (hat fun h => absurd h (by omega))
      rw [hlen hk] at this
      omega
  · intro H
    refine Safe.goto mixed 7 [⟨1100, []⟩, ⟨1200, []⟩] [0, 1, 5] [0] (todo' := loopAt Go.Proofs.Try.f48 0) (sl := slotsOf 44 [(0, .sl ((0 : Nat)) ((0 : Nat)) ((1 : Nat)) (l.length) (none)), (1, I (n)), (5, I ((0 : Int)))]) (hp := [(0, .vec ((3 : Nat)) ((1 : Nat)) (l.length) (rowG encI l))]) (ob := []) rfl rfl (by kernel_rfl) trivial rfl ⟨rfl, fun _ => rfl, trivial⟩ ?_
    exact H 0 ⟨Nat.zero_le _, fun j hj => by omega⟩
set_option maxRecDepth 10000 in
set_option maxHeartbeats 4000000 in
theorem ins_new (l : List Int) (n : Int) (hl : l.length ≤ 1000000) (hi : insL l n ≠ l) : CallOK Try.prog 48 [.sl 0 0 1 l.length none, I n] [(0, .vec 3 1 l.length (rowG encI l))] (.sl 10 0 1 (insL l n).length none) [(10, some (.vec 3 1 (insL l n).length (rowG encI (insL l n))))] := by
  refine CallOK.intro Try.call48 Try.func48 rfl rfl ⟨rfl, fun _ => rfl, trivial⟩ ?_
  refine Safe.withLoop (loopAt Try.f48 0) [0] 44 (fun g : Nat => [(0, .sl 0 0 1 l.length none), (1, I n), (5, I g)]) (fun _ => [(0, .vec 3 1 l.length (rowG encI l))]) (fun g => g ≤ l.length ∧ ∀ j, j < g → l.getD j default < n) (fun g => l.length - g) ?_ ?_
  · rintro k ⟨hk, h1⟩ ih
    have hat := insL_at l n k hk h1
    by_cases c1 : (k : Int) < (l.length : Int)
    · by_cases c2 : l.getD k default < n
      · skip
        refine Safe.goto mixed 9 [⟨1100, [(3, .tt true), (10, .tt true)]⟩, ⟨1200, []⟩] [0, 1, 5] [0] (todo' := loopAt Go.Proofs.Try.f48 0) (sl := slotsOf 44 [(0, .sl ((0 : Nat)) ((0 : Nat)) ((1 : Nat)) (l.length) (none)), (1, I (n)), (5, I ((↑k : Int) + (1 : Int)))]) (hp := [(0, .vec ((3 : Nat)) ((1 : Nat)) (l.length) (rowG encI l))]) (ob := [decide ((↑k : Int) < (↑l.length : Int)) = true, (0 : Int) ≤ (↑k : Int) ∧ (↑k : Int) < (↑l.length : Int), k < l.length, decide (l.getD k default < n) = true, inK IntKind.i64 ((↑k : Int) + (1 : Int))]) rfl rfl (by kernel_rfl) ⟨(decide_eq_true c1), (by omega), (by omega), (decide_eq_true c2), (by simp only [inK]; omega), trivial⟩ rfl ⟨rfl, fun _ => rfl, trivial⟩ ?_
        refine ih (k + 1) ⟨by omega, fun j hj => ?_⟩ (by omega)
        by_cases e : j = k
        · rw [e]; exact c2
        · exact h1 j (by omega)
      · have c3 : ¬ l.getD k default = n := fun h => hi (by rw [hat fun _ => c2, if_pos ⟨by omega, h⟩])
        have hins : insL l n = l.take k ++ [n] ++ l.drop k := by rw [hat fun _ => c2, if_neg (fun h => c3 h.2)]
        refine Safe.gotoE mixed 12 [⟨1100, [(3, .tt true), (10, .tt false)]⟩, ⟨1200, [(3, .tt true), (10, .tt false)]⟩, ⟨1300, []⟩] [4] [0, 1310] (sl := slotsOf 44 [(4, .sl ((1310 : Nat)) ((0 : Nat)) ((1 : Nat)) (addN (addN k (1 : Nat)) (l.length - k)) (none))]) (hp := [(0, .vec ((3 : Nat)) ((1 : Nat)) (l.length) (rowG encI l)), (1310, .vec ((3 : Nat)) ((1 : Nat)) (addN (addN k (1 : Nat)) (l.length - k)) (catR (addN k (1 : Nat)) (catR k (rowG encI l) (rowsOf [AV.val (Value.int IntKind.i64 n)] (1 : Nat))) (shiftR (rowG encI l) k)))]) (ob := [decide ((↑k : Int) < (↑l.length : Int)) = true, (0 : Int) ≤ (↑k : Int) ∧ (↑k : Int) < (↑l.length : Int), k < l.length, decide (l.getD k default < n) = false, decide ((↑k : Int) < (↑l.length : Int)) = true, (0 : Int) ≤ (↑k : Int) ∧ (↑k : Int) < (↑l.length : Int), k < l.length, decide (l.getD k default = n) = false, (0 : Int) ≤ (↑k : Int) ∧ (↑k : Int) ≤ (↑l.length : Int), (0 : Nat) + k ≤ l.length, k ≤ (1099511627776 : Nat), (0 : Nat) + (1 : Nat) ≤ (1 : Nat), k = k, k + (1 : Nat) ≤ (1099511627776 : Nat), (0 : Int) ≤ (↑k : Int) ∧ (↑k : Int) ≤ (↑l.length : Int), k + (l.length - k) ≤ l.length, addN k (1 : Nat) = addN k (1 : Nat), addN k (1 : Nat) + (l.length - k) ≤ (1099511627776 : Nat)]) rfl rfl (by kernel_rfl) ⟨(decide_eq_true c1), (by first | omega | (simp only [addN_eq]; omega)), (by first | omega | (simp only [addN_eq]; omega)), (decide_eq_false c2), (decide_eq_true c1), (by first | omega | (simp only [addN_eq]; omega)), (by first | omega | (simp only [addN_eq]; omega)), (decide_eq_false c3), (by first | omega | (simp only [addN_eq]; omega)), (by first | omega | (simp only [addN_eq]; omega)), (by first | omega | (simp only [addN_eq]; omega)), (by first | omega | (simp only [addN_eq]; omega)), (by first | omega | (simp only [addN_eq]; omega)), (by first | omega | (simp only [addN_eq]; omega)), (by first | omega | (simp only [addN_eq]; omega)), (by first | omega | (simp only [addN_eq]; omega)), (by first | omega | (simp only [addN_eq]; omega)), (by first | omega | (simp only [addN_eq]; omega)), trivial⟩ rfl ⟨rfl, fun _ => rfl, rfl, closed_cat (closed_cat (fun _ => rfl) (closed_rows rfl)) (closed_shift (fun _ => rfl)), trivial⟩ fun td htd => ?_
        refine Safe.ren [(1310, 10)] rfl rfl rfl rfl ⟨rfl, fun _ => rfl, rfl, closed_cat (closed_cat (fun _ => rfl) (closed_rows rfl)) (closed_shift (fun _ => rfl)), trivial⟩ ?_
        refine Safe.endsT Go.Proofs.Try.func48 htd (r := .sl ((10 : Nat)) ((0 : Nat)) ((1 : Nat)) (addN (addN k (1 : Nat)) (l.length - k)) (none)) (hp := [(0, .vec ((3 : Nat)) ((1 : Nat)) (l.length) (fun q => renL [((1310 : Nat), (10 : Nat))] (rowG encI l q))), (10, .vec ((3 : Nat)) ((1 : Nat)) (addN (addN k (1 : Nat)) (l.length - k)) (fun q => renL [((1310 : Nat), (10 : Nat))] (catR (addN k (1 : Nat)) (catR k (rowG encI l) (rowsOf [AV.val (Value.int IntKind.i64 n)] (1 : Nat))) (shiftR (rowG encI l) k) q)))]) (ob := []) rfl (by kernel_rfl) trivial ?_ ⟨⟨rfl, rfl, rfl, fun _ _ => rfl⟩, ?_, trivial⟩ ⟨rfl, fun _ => rfl, rfl, fun _ => rfl, trivial⟩ rfl
        · rw [show addN (addN k 1) (l.length - k) = (insL l n).length by rw [hins, addN_eq, addN_eq]; simp; omega]; rfl
        · exact ins_row l n k hk hins
    · have hins : insL l n = l.take k ++ [n] ++ l.drop k := by rw [hat fun h => absurd h (by omega), if_neg (fun h => by omega)]
      refine Safe.gotoE mixed 12 [⟨1100, [(3, .tt false)]⟩, ⟨1200, [(3, .tt false)]⟩, ⟨1300, []⟩] [4] [0, 1310] (sl := slotsOf 44 [(4, .sl ((1310 : Nat)) ((0 : Nat)) ((1 : Nat)) (addN (addN k (1 : Nat)) (l.length - k)) (none))]) (hp := [(0, .vec ((3 : Nat)) ((1 : Nat)) (l.length) (rowG encI l)), (1310, .vec ((3 : Nat)) ((1 : Nat)) (addN (addN k (1 : Nat)) (l.length - k)) (catR (addN k (1 : Nat)) (catR k (rowG encI l) (rowsOf [AV.val (Value.int IntKind.i64 n)] (1 : Nat))) (shiftR (rowG encI l) k)))]) (ob := [decide ((↑k : Int) < (↑l.length : Int)) = false, decide ((↑k : Int) < (↑l.length : Int)) = false, (0 : Int) ≤ (↑k : Int) ∧ (↑k : Int) ≤ (↑l.length : Int), (0 : Nat) + k ≤ l.length, k ≤ (1099511627776 : Nat), (0 : Nat) + (1 : Nat) ≤ (1 : Nat), k = k, k + (1 : Nat) ≤ (1099511627776 : Nat), (0 : Int) ≤ (↑k : Int) ∧ (↑k : Int) ≤ (↑l.length : Int), k + (l.length - k) ≤ l.length, addN k (1 : Nat) = addN k (1 : Nat), addN k (1 : Nat) + (l.length - k) ≤ (1099511627776 : Nat)]) rfl rfl (by kernel_rfl) ⟨(decide_eq_false c1), (decide_eq_false c1), (by first | omega | (simp only [addN_eq]; omega)), (by first | omega | (simp only [addN_eq]; omega)), (by first | omega | (simp only [addN_eq]; omega)), (by first | omega | (simp only [addN_eq]; omega)), (by first | omega | (simp only [addN_eq]; omega)), (by first | omega | (simp only [addN_eq]; omega)), (by first | omega | (simp only [addN_eq]; omega)), (by first | omega | (simp only [addN_eq]; omega)), (by first | omega | (simp only [addN_eq]; omega)), (by first | omega | (simp only [addN_eq]; omega)), trivial⟩ rfl ⟨rfl, fun _ => rfl, rfl, closed_cat (closed_cat (fun _ => rfl) (closed_rows rfl)) (closed_shift (fun _ => rfl)), trivial⟩ fun td htd => ?_
      refine Safe.ren [(1310, 10)] rfl rfl rfl rfl ⟨rfl, fun _ => rfl, rfl, closed_cat (closed_cat (fun _ => rfl) (closed_rows rfl)) (closed_shift (fun _ => rfl)), trivial⟩ ?_
      refine Safe.endsT Go.Proofs.Try.func48 htd (r := .sl ((10 : Nat)) ((0 : Nat)) ((1 : Nat)) (addN (addN k (1 : Nat)) (l.length - k)) (none)) (hp := [(0, .vec ((3 : Nat)) ((1 : Nat)) (l.length) (fun q => renL [((1310 : Nat), (10 : Nat))] (rowG encI l q))), (10, .vec ((3 : Nat)) ((1 : Nat)) (addN (addN k (1 : Nat)) (l.length - k)) (fun q => renL [((1310 : Nat), (10 : Nat))] (catR (addN k (1 : Nat)) (catR k (rowG encI l) (rowsOf [AV.val (Value.int IntKind.i64 n)] (1 : Nat))) (shiftR (rowG encI l) k) q)))]) (ob := []) rfl (by kernel_rfl) trivial ?_ ⟨⟨rfl, rfl, rfl, fun _ _ => rfl⟩, ?_, trivial⟩ ⟨rfl, fun _ => rfl, rfl, fun _ => rfl, trivial⟩ rfl
      · rw [show addN (addN k 1) (l.length - k) = (insL l n).length by rw [hins, addN_eq, addN_eq]; simp; omega]; rfl
      · exact ins_row l n k hk hins
  · intro H
    refine Safe.goto mixed 7 [⟨1100, []⟩, ⟨1200, []⟩] [0, 1, 5] [0] (todo' := loopAt Go.Proofs.Try.f48 0) (sl := slotsOf 44 [(0, .sl ((0 : Nat)) ((0 : Nat)) ((1 : Nat)) (l.length) (none)), (1, I (n)), (5, I ((0 : Int)))]) (hp := [(0, .vec ((3 : Nat)) ((1 : Nat)) (l.length) (rowG encI l))]) (ob := []) rfl rfl (by kernel_rfl) trivial rfl ⟨rfl, fun _ => rfl, trivial⟩ ?_
    exact H 0 ⟨Nat.zero_le _, fun j hj => by omega⟩
end Go.Proofs.Ytgfdmeaganhpiaa
