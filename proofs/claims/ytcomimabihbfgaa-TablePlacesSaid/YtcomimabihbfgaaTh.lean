/- Uses: the program's and the reference's. -/
import Derived.Test.YtcomimabihbfgaaSyU
import Derived.KernelRfl
import Derived.Test.YtcomimabihbfgaaTg
namespace Go.Proofs.Ytcomimabihbfgaa
open Go.RowKit
set_option linter.unusedVariables false
def usesR (L : List Tg) : Nat → List ByteArray
  | 0 => []
  | k + 1 => if (getT L k).on = { data := #[] } ∨ hasF (usesR L k) (getT L k).on = true then usesR L k else usesR L k ++ [(getT L k).on]
theorem usesR_no {L : List Tg} {k : Nat} (h : (getT L k).on = { data := #[] } ∨ hasF (usesR L k) (getT L k).on = true) : usesR L (k + 1) = usesR L k := by
  rw [usesR, if_pos h]
theorem usesR_yes {L : List Tg} {k : Nat} (h : ¬ ((getT L k).on = { data := #[] } ∨ hasF (usesR L k) (getT L k).on = true)) : usesR L (k + 1) = usesR L k ++ [(getT L k).on] := by
  rw [usesR, if_neg h]
theorem hasF_take (l : List ByteArray) (x : ByteArray) (j : Nat) (h : j < l.length) : hasF (l.take (j + 1)) x = (hasF (l.take j) x || decide (getS l j = x)) := by
  rw [List.take_succ_eq_append_getElem h]
  unfold hasF getS
  rw [List.any_append, List.getD_eq_getElem?_getD, List.getElem?_eq_getElem h]
  simp
theorem usesR_len (L : List Tg) : ∀ k, (usesR L k).length ≤ k
  | 0 => Nat.le_refl _
  | k + 1 => by
    have := usesR_len L k
    simp only [usesR]
    split <;> simp <;> omega
def usesF (L : List Tg) : List ByteArray := usesR L L.length
set_option maxRecDepth 10000 in
set_option maxHeartbeats 4000000 in
theorem uses_any (L : List Tg) (hl : L.length ≤ 1000000) : CallOK Try.prog 24 [.sl 0 0 5 L.length none] [(0, .ro 5 L.length (rowT L))] (.sl 10 0 1 (usesF L).length none) [(10, some (.vec 9 1 (usesF L).length (rowG encS (usesF L))))] := by
  refine CallOK.intro Try.call24 Try.func24 rfl rfl ⟨rfl, fun _ => rfl, trivial⟩ ?_
  refine Safe.withLoop (loopAt Try.f24 0) [0, 10] 29 (fun k : Nat => [(3, .sl 10 0 1 (usesR L k).length none), (6, .sl 0 0 5 L.length none), (7, I L.length), (8, I k)]) (fun k => [(0, .ro 5 L.length (rowT L)), (10, .vec 9 1 (usesR L k).length (rowG encS (usesR L k)))]) (fun k => k ≤ L.length) (fun k => L.length - k) ?_ ?_
  · intro k hk ih
    have hlen := usesR_len L k
    refine (Classical.em ((↑k : Int) < (↑L.length : Int))).elim (fun hc1 => ?ga0) (fun hc1 => ?gb0)
    case' gb0 =>
      refine Safe.ends mixed Go.Proofs.Try.func24 7 [⟨1100, [(0, .tt false)]⟩, ⟨1200, []⟩] (r := .sl ((10 : Nat)) ((0 : Nat)) ((1 : Nat)) ((usesR L k).length) (none)) (hp := [(0, .ro ((5 : Nat)) (L.length) (rowT L)), (10, .vec ((9 : Nat)) ((1 : Nat)) ((usesR L k).length) (rowG encS (usesR L k)))]) (ob := [decide ((↑k : Int) < (↑L.length : Int)) = false]) rfl (by kernel_rfl) ⟨(decide_eq_false hc1), trivial⟩ ?_ ⟨ObLe.refl _, ?_, trivial⟩ ⟨rfl, fun _ => rfl, rfl, fun _ => rfl, trivial⟩ rfl
    case' ga0 =>
      refine (Classical.em (¬(getT L k).on = { data := #[] })).elim (fun hc2 => ?ga1) (fun hc2 => ?gb1)
      case' gb1 =>
        refine Safe.goto mixed 16 [⟨1100, [(0, .tt true)]⟩, ⟨1200, []⟩, ⟨1300, [(2, .tt false)]⟩, ⟨1400, []⟩] [3, 6, 7, 8] [0, 10] (todo' := loopAt Go.Proofs.Try.f24 0) (sl := slotsOf 29 [(3, .sl ((10 : Nat)) ((0 : Nat)) ((1 : Nat)) ((usesR L k).length) (none)), (6, .sl ((0 : Nat)) ((0 : Nat)) ((5 : Nat)) (L.length) (none)), (7, I ((↑L.length : Int))), (8, I ((↑k : Int) + (1 : Int)))]) (hp := [(0, .ro ((5 : Nat)) (L.length) (rowT L)), (10, .vec ((9 : Nat)) ((1 : Nat)) ((usesR L k).length) (rowG encS (usesR L k)))]) (ob := [decide ((↑k : Int) < (↑L.length : Int)) = true, (0 : Int) ≤ (↑k : Int) ∧ (↑k : Int) < (↑L.length : Int), k < L.length, (decide ¬(getT L k).on = { data := #[] }) = false, inK IntKind.i64 ((↑k : Int) + (1 : Int))]) rfl rfl (by kernel_rfl) ⟨(decide_eq_true hc1), (by omega), (by omega), (decide_eq_false hc2), (by simp only [inK]; omega), trivial⟩ rfl ⟨rfl, fun _ => rfl, rfl, fun _ => rfl, trivial⟩ ?_
      case' ga1 =>
        refine (Classical.em ((!hasF (usesR L k) (getT L k).on) = true)).elim (fun hc3 => ?ga2) (fun hc3 => ?gb2)
        case' gb2 =>
          refine Safe.goto mixed 16 [⟨1100, [(0, .tt true)]⟩, ⟨1200, []⟩, ⟨1300, [(2, .tt true), (7, .call [10] (B (hasF (usesR L k) (getT L k).on)) []), (8, .tt false)]⟩, ⟨1400, []⟩] [3, 6, 7, 8] [0, 10] (todo' := loopAt Go.Proofs.Try.f24 0) (sl := slotsOf 29 [(3, .sl ((10 : Nat)) ((0 : Nat)) ((1 : Nat)) ((usesR L k).length) (none)), (6, .sl ((0 : Nat)) ((0 : Nat)) ((5 : Nat)) (L.length) (none)), (7, I ((↑L.length : Int))), (8, I ((↑k : Int) + (1 : Int)))]) (hp := [(0, .ro ((5 : Nat)) (L.length) (rowT L)), (10, .vec ((9 : Nat)) ((1 : Nat)) ((usesR L k).length) (rowG encS (usesR L k)))]) (ob := [decide ((↑k : Int) < (↑L.length : Int)) = true, (0 : Int) ≤ (↑k : Int) ∧ (↑k : Int) < (↑L.length : Int), k < L.length, (decide ¬(getT L k).on = { data := #[] }) = true, CallOK Try.prog (41 : Nat) ([] ++ [AV.sl (10 : Nat) (0 : Nat) (1 : Nat) (usesR L k).length none, AV.val (Value.string (getT L k).on)] ++ []) [((10 : Nat), Ob.vec (9 : Nat) (1 : Nat) (usesR L k).length (rowG encS (usesR L k)))] (AV.val (Value.bool (hasF (usesR L k) (getT L k).on))) [], (!hasF (usesR L k) (getT L k).on) = false, inK IntKind.i64 ((↑k : Int) + (1 : Int))]) rfl rfl (by kernel_rfl) ⟨(decide_eq_true hc1), (by omega), (by omega), (decide_eq_true hc2), (CallOK.ren (CallOK.own 9 0 rfl rfl rfl (contains_any (usesR L k) ((getT L k).on) (by omega))) [(0, 10)] [0] rfl rfl rfl rfl ⟨rfl, fun _ => rfl, trivial⟩ rfl ⟨rfl, fun _ => rfl, trivial⟩), (by simpa using hc3), (by simp only [inK]; omega), trivial⟩ rfl ⟨rfl, fun _ => rfl, rfl, fun _ => rfl, trivial⟩ ?_
        case' ga2 =>
          refine Safe.goto mixed 16 [⟨1100, [(0, .tt true)]⟩, ⟨1200, []⟩, ⟨1300, [(2, .tt true), (7, .call [10] (B (hasF (usesR L k) (getT L k).on)) []), (8, .tt true)]⟩, ⟨1400, []⟩, ⟨1500, []⟩] [3, 6, 7, 8] [0, 1404] (todo' := loopAt Go.Proofs.Try.f24 0) (sl := slotsOf 29 [(3, .sl ((1404 : Nat)) ((0 : Nat)) ((1 : Nat)) (addN (usesR L k).length (1 : Nat)) (none)), (6, .sl ((0 : Nat)) ((0 : Nat)) ((5 : Nat)) (L.length) (none)), (7, I ((↑L.length : Int))), (8, I ((↑k : Int) + (1 : Int)))]) (hp := [(0, .ro ((5 : Nat)) (L.length) (rowT L)), (1404, .vec ((9 : Nat)) ((1 : Nat)) (addN (usesR L k).length (1 : Nat)) (catR (usesR L k).length (rowG encS (usesR L k)) (rowsOf [AV.val (Value.string (getT L k).on)] (1 : Nat))))]) (ob := [decide ((↑k : Int) < (↑L.length : Int)) = true, (0 : Int) ≤ (↑k : Int) ∧ (↑k : Int) < (↑L.length : Int), k < L.length, (decide ¬(getT L k).on = { data := #[] }) = true, CallOK Try.prog (41 : Nat) ([] ++ [AV.sl (10 : Nat) (0 : Nat) (1 : Nat) (usesR L k).length none, AV.val (Value.string (getT L k).on)] ++ []) [((10 : Nat), Ob.vec (9 : Nat) (1 : Nat) (usesR L k).length (rowG encS (usesR L k)))] (AV.val (Value.bool (hasF (usesR L k) (getT L k).on))) [], (!hasF (usesR L k) (getT L k).on) = true, (0 : Nat) + (1 : Nat) ≤ (1 : Nat), (usesR L k).length = (usesR L k).length, (usesR L k).length + (1 : Nat) ≤ (1099511627776 : Nat), inK IntKind.i64 ((↑k : Int) + (1 : Int))]) rfl rfl (by kernel_rfl) ⟨(decide_eq_true hc1), (by omega), (by omega), (decide_eq_true hc2), (CallOK.ren (CallOK.own 9 0 rfl rfl rfl (contains_any (usesR L k) ((getT L k).on) (by omega))) [(0, 10)] [0] rfl rfl rfl rfl ⟨rfl, fun _ => rfl, trivial⟩ rfl ⟨rfl, fun _ => rfl, trivial⟩), hc3, (by omega), (by omega), (by omega), (by simp only [inK]; omega), trivial⟩ rfl ⟨rfl, fun _ => rfl, rfl, closed_cat (fun _ => rfl) (closed_rows rfl), trivial⟩ ?_
          refine Safe.ren [(1404, 10)] rfl rfl rfl rfl ⟨rfl, fun _ => rfl, rfl, closed_cat (fun _ => rfl) (closed_rows rfl), trivial⟩ ?_
    · have e1 := usesR_yes (L := L) (k := k) (by simp only [Bool.not_eq_true'] at hc3; simp [hc2, hc3])
      have e2 : addN (usesR L k).length 1 = (usesR L (k + 1)).length := by rw [addN_eq, e1, List.length_append]; rfl
      rw [e2]
      refine Safe.leH (ih (k + 1) (by omega) (by omega)) rfl (SlLe.refl _) ⟨ObLe.refl _, ?_, trivial⟩ rfl ⟨rfl, fun _ => rfl, rfl, fun _ => rfl, trivial⟩
      rw [e1]
      exact ob_ren_one encS _ _ _ (by rw [List.length_append]; rfl) (fun _ => rfl) rfl
    · have hh := ih (k + 1) (by omega) (by omega)
      rw [usesR_no (L := L) (k := k) (by simp at hc3; exact .inr hc3)] at hh
      exact hh
    · have hh := ih (k + 1) (by omega) (by omega)
      rw [usesR_no (L := L) (k := k) (.inl (Classical.not_not.1 hc2))] at hh
      exact hh
    · rw [show k = L.length by omega]; rfl
    · rw [show k = L.length by omega]; exact ObLe.refl _
  · intro H
    refine Safe.goto mixed 9 [⟨1100, []⟩, ⟨1200, []⟩, ⟨1300, []⟩] [3, 6, 7, 8] [0] (todo' := loopAt Go.Proofs.Try.f24 0) (sl := slotsOf 29 [(3, .val (Value.slice none (0 : Nat) (0 : Nat))), (6, .sl ((0 : Nat)) ((0 : Nat)) ((5 : Nat)) (L.length) (none)), (7, I ((↑L.length : Int))), (8, I ((0 : Int)))]) (hp := [(0, .ro ((5 : Nat)) (L.length) (rowT L))]) (ob := []) rfl rfl (by kernel_rfl) trivial rfl ⟨rfl, fun _ => rfl, trivial⟩ ?_
    refine Safe.nil 3 10 9 1 (rowG encS []) rfl rfl ⟨rfl, fun _ => rfl, trivial⟩ ?_ rfl
    exact Safe.leH (H 0 (Nat.zero_le _)) rfl (SlLe.refl _) ⟨ObLe.refl _, ObLe.refl _, trivial⟩ rfl ⟨rfl, fun _ => rfl, rfl, fun _ => rfl, trivial⟩
set_option maxRecDepth 10000 in
set_option maxHeartbeats 4000000 in
theorem ruses_any (L : List Tg) (hl : L.length ≤ 1000000) : CallOK Try.prog 32 [.sl 0 0 5 L.length none] [(0, .ro 5 L.length (rowT L))] (.sl 10 0 1 (usesF L).length none) [(10, some (.vec 9 1 (usesF L).length (rowG encS (usesF L))))] := by
  refine CallOK.intro Try.call32 Try.func32 rfl rfl ⟨rfl, fun _ => rfl, trivial⟩ ?_
  refine Safe.withLoop (loopAt Try.f32 0) [0, 10] 49 (fun k : Nat => [(0, .sl 0 0 5 L.length none), (3, .sl 10 0 1 (usesR L k).length none), (4, I k)]) (fun k => [(0, .ro 5 L.length (rowT L)), (10, .vec 9 1 (usesR L k).length (rowG encS (usesR L k)))]) (fun k => k ≤ L.length) (fun k => L.length - k) ?_ ?_
  · intro k hk ih
    have hlen := usesR_len L k
    by_cases hkl : k < L.length
    · refine Safe.withLoop (loopAt Try.f32 1) [0, 10] 49 (fun j : Nat => [(0, .sl 0 0 5 L.length none), (3, .sl 10 0 1 (usesR L k).length none), (4, I k), (5, B (decide ((getT L k).on = { data := #[] }) || hasF ((usesR L k).take j) (getT L k).on)), (6, I j)]) (fun j => [(0, .ro 5 L.length (rowT L)), (10, .vec 9 1 (usesR L k).length (rowG encS (usesR L k)))]) (fun j => j ≤ (usesR L k).length) (fun j => (usesR L k).length - j) ?_ ?_
      · intro j hj ih2
        refine (Classical.em ((↑j : Int) < (↑(usesR L k).length : Int))).elim (fun hc1 => ?ga3) (fun hc1 => ?gb3)
        case' gb3 =>
          refine (Classical.em ((!(decide ((getT L k).on = { data := #[] }) || hasF (List.take j (usesR L k)) (getT L k).on)) = true)).elim (fun hc2 => ?ga5) (fun hc2 => ?gb5)
          case' gb5 =>
            refine Safe.goto mixed 12 [⟨1100, [(3, .tt false)]⟩, ⟨1200, [(1, .tt false)]⟩, ⟨1300, []⟩] [0, 3, 4] [0, 10] (todo' := loopAt Go.Proofs.Try.f32 0) (sl := slotsOf 49 [(0, .sl ((0 : Nat)) ((0 : Nat)) ((5 : Nat)) (L.length) (none)), (3, .sl ((10 : Nat)) ((0 : Nat)) ((1 : Nat)) ((usesR L k).length) (none)), (4, I ((↑k : Int) + (1 : Int)))]) (hp := [(0, .ro ((5 : Nat)) (L.length) (rowT L)), (10, .vec ((9 : Nat)) ((1 : Nat)) ((usesR L k).length) (rowG encS (usesR L k)))]) (ob := [decide ((↑j : Int) < (↑(usesR L k).length : Int)) = false, (!(decide ((getT L k).on = { data := #[] }) || hasF (List.take j (usesR L k)) (getT L k).on)) = false, inK IntKind.i64 ((↑k : Int) + (1 : Int))]) rfl rfl (by kernel_rfl) ⟨(decide_eq_false hc1), (by simpa using hc2), (by simp only [inK]; omega), trivial⟩ rfl ⟨rfl, fun _ => rfl, rfl, fun _ => rfl, trivial⟩ ?_
          case' ga5 =>
            refine Safe.goto mixed 12 [⟨1100, [(3, .tt false)]⟩, ⟨1200, [(1, .tt true)]⟩, ⟨1300, []⟩, ⟨1400, []⟩] [0, 3, 4] [0, 1307] (todo' := loopAt Go.Proofs.Try.f32 0) (sl := slotsOf 49 [(0, .sl ((0 : Nat)) ((0 : Nat)) ((5 : Nat)) (L.length) (none)), (3, .sl ((1307 : Nat)) ((0 : Nat)) ((1 : Nat)) (addN (usesR L k).length (1 : Nat)) (none)), (4, I ((↑k : Int) + (1 : Int)))]) (hp := [(0, .ro ((5 : Nat)) (L.length) (rowT L)), (1307, .vec ((9 : Nat)) ((1 : Nat)) (addN (usesR L k).length (1 : Nat)) (catR (usesR L k).length (rowG encS (usesR L k)) (rowsOf [AV.val (Value.string (getT L k).on)] (1 : Nat))))]) (ob := [decide ((↑j : Int) < (↑(usesR L k).length : Int)) = false, (!(decide ((getT L k).on = { data := #[] }) || hasF (List.take j (usesR L k)) (getT L k).on)) = true, (0 : Int) ≤ (↑k : Int) ∧ (↑k : Int) < (↑L.length : Int), k < L.length, (0 : Nat) + (1 : Nat) ≤ (1 : Nat), (usesR L k).length = (usesR L k).length, (usesR L k).length + (1 : Nat) ≤ (1099511627776 : Nat), inK IntKind.i64 ((↑k : Int) + (1 : Int))]) rfl rfl (by kernel_rfl) ⟨(decide_eq_false hc1), hc2, (by omega), (by omega), (by omega), (by omega), (by omega), (by simp only [inK]; omega), trivial⟩ rfl ⟨rfl, fun _ => rfl, rfl, closed_cat (fun _ => rfl) (closed_rows rfl), trivial⟩ ?_
            refine Safe.ren [(1307, 10)] rfl rfl rfl rfl ⟨rfl, fun _ => rfl, rfl, closed_cat (fun _ => rfl) (closed_rows rfl), trivial⟩ ?_
        case' ga3 =>
          refine (Classical.em ((decide ((getT L k).on = { data := #[] }) || hasF (List.take j (usesR L k)) (getT L k).on) = true)).elim (fun hc2 => ?ga4) (fun hc2 => ?gb4)
          case' gb4 =>
            refine Safe.goto mixed 11 [⟨1100, [(3, .tt true)]⟩, ⟨1200, [(0, .tt false)]⟩, ⟨1300, []⟩] [0, 3, 4, 5, 6] [0, 10] (todo' := loopAt Go.Proofs.Try.f32 1) (sl := slotsOf 49 [(0, .sl ((0 : Nat)) ((0 : Nat)) ((5 : Nat)) (L.length) (none)), (3, .sl ((10 : Nat)) ((0 : Nat)) ((1 : Nat)) ((usesR L k).length) (none)), (4, I ((↑k : Int))), (5, B (decide ((usesR L k).getD j default = (getT L k).on))), (6, I ((↑j : Int) + (1 : Int)))]) (hp := [(0, .ro ((5 : Nat)) (L.length) (rowT L)), (10, .vec ((9 : Nat)) ((1 : Nat)) ((usesR L k).length) (rowG encS (usesR L k)))]) (ob := [decide ((↑j : Int) < (↑(usesR L k).length : Int)) = true, (decide ((getT L k).on = { data := #[] }) || hasF (List.take j (usesR L k)) (getT L k).on) = false, (0 : Int) ≤ (↑j : Int) ∧ (↑j : Int) < (↑(usesR L k).length : Int), j < (usesR L k).length, (0 : Int) ≤ (↑k : Int) ∧ (↑k : Int) < (↑L.length : Int), k < L.length, inK IntKind.i64 ((↑j : Int) + (1 : Int))]) rfl rfl (by kernel_rfl) ⟨(decide_eq_true hc1), (by simpa using hc2), (by omega), (by omega), (by omega), (by omega), (by simp only [inK]; omega), trivial⟩ rfl ⟨rfl, fun _ => rfl, rfl, fun _ => rfl, trivial⟩ ?_
          case' ga4 =>
            refine Safe.goto mixed 11 [⟨1100, [(3, .tt true)]⟩, ⟨1200, [(0, .tt true)]⟩, ⟨1300, []⟩] [0, 3, 4, 5, 6] [0, 10] (todo' := loopAt Go.Proofs.Try.f32 1) (sl := slotsOf 49 [(0, .sl ((0 : Nat)) ((0 : Nat)) ((5 : Nat)) (L.length) (none)), (3, .sl ((10 : Nat)) ((0 : Nat)) ((1 : Nat)) ((usesR L k).length) (none)), (4, I ((↑k : Int))), (5, B (true)), (6, I ((↑j : Int) + (1 : Int)))]) (hp := [(0, .ro ((5 : Nat)) (L.length) (rowT L)), (10, .vec ((9 : Nat)) ((1 : Nat)) ((usesR L k).length) (rowG encS (usesR L k)))]) (ob := [decide ((↑j : Int) < (↑(usesR L k).length : Int)) = true, (decide ((getT L k).on = { data := #[] }) || hasF (List.take j (usesR L k)) (getT L k).on) = true, inK IntKind.i64 ((↑j : Int) + (1 : Int))]) rfl rfl (by kernel_rfl) ⟨(decide_eq_true hc1), hc2, (by simp only [inK]; omega), trivial⟩ rfl ⟨rfl, fun _ => rfl, rfl, fun _ => rfl, trivial⟩ ?_
        · have hh := ih2 (j + 1) (by omega) (by omega)
          rw [hasF_take _ _ j (by omega), ← Bool.or_assoc, hc2, Bool.true_or] at hh
          exact hh
        · have hh := ih2 (j + 1) (by omega) (by omega)
          rw [hasF_take _ _ j (by omega), ← Bool.or_assoc, (by simpa using hc2 : (decide ((getT L k).on = { data := #[] }) || hasF (List.take j (usesR L k)) (getT L k).on) = false), Bool.false_or] at hh
          exact hh
        · have e0 : (usesR L k).take j = usesR L k := List.take_of_length_le (by omega)
          rw [e0] at hc2
          have e1 := usesR_yes (L := L) (k := k) (by simpa using hc2)
          have e2 : addN (usesR L k).length 1 = (usesR L (k + 1)).length := by rw [addN_eq, e1, List.length_append]; rfl
          rw [e2]
          refine Safe.leH (ih (k + 1) (by omega) (by omega)) rfl (SlLe.refl _) ⟨ObLe.refl _, ?_, trivial⟩ rfl ⟨rfl, fun _ => rfl, rfl, fun _ => rfl, trivial⟩
          rw [e1]
          exact ob_ren_one encS _ _ _ (by rw [List.length_append]; rfl) (fun _ => rfl) rfl
        · have e0 : (usesR L k).take j = usesR L k := List.take_of_length_le (by omega)
          rw [e0] at hc2
          have hh := ih (k + 1) (by omega) (by omega)
          rw [usesR_no (L := L) (k := k) (Classical.or_iff_not_imp_left.2 (by simpa using hc2))] at hh
          exact hh
      · intro H2
        refine (Classical.em ((↑k : Int) < (↑L.length : Int))).elim (fun hc1 => ?ga6) (fun hc1 => ?gb6)
        case' gb6 =>
          refine Safe.ends mixed Go.Proofs.Try.func32 7 [⟨1100, [(3, .tt false)]⟩, ⟨1200, []⟩] (r := .sl ((10 : Nat)) ((0 : Nat)) ((1 : Nat)) ((usesR L k).length) (none)) (hp := [(0, .ro ((5 : Nat)) (L.length) (rowT L)), (10, .vec ((9 : Nat)) ((1 : Nat)) ((usesR L k).length) (rowG encS (usesR L k)))]) (ob := [decide ((↑k : Int) < (↑L.length : Int)) = false]) rfl (by kernel_rfl) ⟨(decide_eq_false hc1), trivial⟩ ?_ ⟨ObLe.refl _, ?_, trivial⟩ ⟨rfl, fun _ => rfl, rfl, fun _ => rfl, trivial⟩ rfl
        case' ga6 =>
          refine Safe.goto mixed 14 [⟨1100, [(3, .tt true)]⟩, ⟨1200, []⟩, ⟨1300, []⟩] [0, 3, 4, 5, 6] [0, 10] (todo' := loopAt Go.Proofs.Try.f32 1) (sl := slotsOf 49 [(0, .sl ((0 : Nat)) ((0 : Nat)) ((5 : Nat)) (L.length) (none)), (3, .sl ((10 : Nat)) ((0 : Nat)) ((1 : Nat)) ((usesR L k).length) (none)), (4, I ((↑k : Int))), (5, B (decide ((getT L k).on = { data := #[] }))), (6, I ((0 : Int)))]) (hp := [(0, .ro ((5 : Nat)) (L.length) (rowT L)), (10, .vec ((9 : Nat)) ((1 : Nat)) ((usesR L k).length) (rowG encS (usesR L k)))]) (ob := [decide ((↑k : Int) < (↑L.length : Int)) = true, (0 : Int) ≤ (↑k : Int) ∧ (↑k : Int) < (↑L.length : Int), k < L.length]) rfl rfl (by kernel_rfl) ⟨(decide_eq_true hc1), (by omega), (by omega), trivial⟩ rfl ⟨rfl, fun _ => rfl, rfl, fun _ => rfl, trivial⟩ ?_
        · have hh := H2 0 (Nat.zero_le _)
          rw [show hasF ((usesR L k).take 0) (getT L k).on = false from rfl, Bool.or_false] at hh
          exact hh
        · omega
        · omega
    · skip
      refine (Classical.em ((↑k : Int) < (↑L.length : Int))).elim (fun hc1 => ?ga7) (fun hc1 => ?gb7)
      case' gb7 =>
        refine Safe.ends mixed Go.Proofs.Try.func32 7 [⟨1100, [(3, .tt false)]⟩, ⟨1200, []⟩] (r := .sl ((10 : Nat)) ((0 : Nat)) ((1 : Nat)) ((usesR L k).length) (none)) (hp := [(0, .ro ((5 : Nat)) (L.length) (rowT L)), (10, .vec ((9 : Nat)) ((1 : Nat)) ((usesR L k).length) (rowG encS (usesR L k)))]) (ob := [decide ((↑k : Int) < (↑L.length : Int)) = false]) rfl (by kernel_rfl) ⟨(decide_eq_false hc1), trivial⟩ ?_ ⟨ObLe.refl _, ?_, trivial⟩ ⟨rfl, fun _ => rfl, rfl, fun _ => rfl, trivial⟩ rfl
      case' ga7 =>
        refine Safe.goto mixed 14 [⟨1100, [(3, .tt true)]⟩, ⟨1200, []⟩, ⟨1300, []⟩] [0, 3, 4, 5, 6] [0, 10] (todo' := loopAt Go.Proofs.Try.f32 1) (sl := slotsOf 49 [(0, .sl ((0 : Nat)) ((0 : Nat)) ((5 : Nat)) (L.length) (none)), (3, .sl ((10 : Nat)) ((0 : Nat)) ((1 : Nat)) ((usesR L k).length) (none)), (4, I ((↑k : Int))), (5, B (decide ((getT L k).on = { data := #[] }))), (6, I ((0 : Int)))]) (hp := [(0, .ro ((5 : Nat)) (L.length) (rowT L)), (10, .vec ((9 : Nat)) ((1 : Nat)) ((usesR L k).length) (rowG encS (usesR L k)))]) (ob := [decide ((↑k : Int) < (↑L.length : Int)) = true, (0 : Int) ≤ (↑k : Int) ∧ (↑k : Int) < (↑L.length : Int), k < L.length]) rfl rfl (by kernel_rfl) ⟨(decide_eq_true hc1), (by omega), (by omega), trivial⟩ rfl ⟨rfl, fun _ => rfl, rfl, fun _ => rfl, trivial⟩ ?_
      · omega
      · rw [show k = L.length by omega]; rfl
      · rw [show k = L.length by omega]; exact ObLe.refl _
  · intro H
    refine Safe.goto mixed 9 [⟨1100, []⟩, ⟨1200, []⟩, ⟨1300, []⟩] [0, 3, 4] [0] (todo' := loopAt Go.Proofs.Try.f32 0) (sl := slotsOf 49 [(0, .sl ((0 : Nat)) ((0 : Nat)) ((5 : Nat)) (L.length) (none)), (3, .val (Value.slice none (0 : Nat) (0 : Nat))), (4, I ((0 : Int)))]) (hp := [(0, .ro ((5 : Nat)) (L.length) (rowT L))]) (ob := []) rfl rfl (by kernel_rfl) trivial rfl ⟨rfl, fun _ => rfl, trivial⟩ ?_
    refine Safe.nil 3 10 9 1 (rowG encS []) rfl rfl ⟨rfl, fun _ => rfl, trivial⟩ ?_ rfl
    exact Safe.leH (H 0 (Nat.zero_le _)) rfl (SlLe.refl _) ⟨ObLe.refl _, ObLe.refl _, trivial⟩ rfl ⟨rfl, fun _ => rfl, rfl, fun _ => rfl, trivial⟩
end Go.Proofs.Ytcomimabihbfgaa
