/- The reference's Valid. -/
import Derived.Test.YtebejfmodiionaaSyX
import Derived.KernelRfl
import Derived.Test.YtebejfmodiionaaU1
namespace Go.Proofs.Ytebejfmodiionaa
open Go.RowKit
set_option linter.unusedVariables false
set_option linter.unnecessarySimpa false
/-- the blocks of the first slots that are valid -/
def seenR (S : List Sl) : Nat → List Int
  | 0 => []
  | k + 1 => if (S.getD k default).valid = true then seenR S k ++ [(S.getD k default).block] else seenR S k
def zeroC (x : Sl) : Prop := x.valid = false ∧ x.dirty = false ∧ x.block = 0 ∧ x.stamp = 0
def okS (S : List Sl) (c : Int) (k : Nat) : Prop :=
  ((S.getD k default).valid = false → zeroC (S.getD k default)) ∧ ((S.getD k default).valid = true → blkB (S.getD k default).block = true ∧ 0 ≤ (S.getD k default).stamp ∧ (S.getD k default).stamp ≤ c ∧ (S.getD k default).block ∉ seenR S k)
def okM (S : List Sl) (M : List Int) (j : Nat) : Prop := blkB (M.getD j default) = true ∧ M.getD j default ∉ seenR S S.length ++ M.take j
def VS (S : List Sl) (c : Int) (M : List Int) : Prop := 1 ≤ S.length ∧ S.length ≤ 1024 ∧ 0 ≤ c ∧ c ≤ 1099511627776 ∧ M.length ≤ 8 ∧ (∀ k, k < S.length → okS S c k) ∧ ∀ j, j < M.length → okM S M j
theorem zeroB (x : Sl) : (x.valid == false && (x.dirty == false && (decide (x.block = 0) && (decide (x.stamp = 0) && true)))) = true ↔ zeroC x := by
  simp [zeroC]
instance (x : Sl) : Decidable (zeroC x) := by unfold zeroC; infer_instance
instance (S : List Sl) (c : Int) (k : Nat) : Decidable (okS S c k) := by unfold okS; infer_instance
instance (S : List Sl) (M : List Int) (j : Nat) : Decidable (okM S M j) := by unfold okM; infer_instance
instance (S : List Sl) (c : Int) (M : List Int) : Decidable (VS S c M) := by unfold VS; infer_instance
def validF (S : List Sl) (c : Int) (M : List Int) : Int := if VS S c M then 0 else 2
theorem valid_0 {S : List Sl} {c : Int} {M : List Int} (h : VS S c M) : validF S c M = 0 := if_pos h
theorem valid_2 {S : List Sl} {c : Int} {M : List Int} (h : ¬ VS S c M) : validF S c M = 2 := if_neg h
theorem seenR_len (S : List Sl) : ∀ k, (seenR S k).length ≤ k
  | 0 => Nat.le_refl _
  | k + 1 => by
    have := seenR_len S k
    simp only [seenR]
    split <;> simp <;> omega
set_option maxRecDepth 10000 in
set_option maxHeartbeats 8000000 in
theorem rvalid_any (S : List Sl) (c : Int) (M : List Int) (hS : S.length ≤ 1000000) (hM : M.length ≤ 1000000) (hc : -9223372036854775808 ≤ c ∧ c ≤ 9223372036854775807) : CallOK Try.prog 14 [.agg [.sl 1 0 4 S.length none, I c, .sl 2 0 1 M.length none]] [(1, .ro 4 S.length (rowG encC S)), (2, .ro 1 M.length (rowG encI M))] (I (validF S c M)) [] := by
  refine CallOK.intro Try.call14 Try.func14 rfl rfl ⟨rfl, fun _ => rfl, rfl, fun _ => rfl, trivial⟩ ?_
  refine Safe.withLoop (loopAt Try.f14 1) [1, 2, 20, 10] 119 (fun j : Nat => [(1, .ptr 20 0 0 0), (3, .sl 10 0 1 (seenR S S.length ++ M.take j).length none), (6, I j)]) (fun j => [(1, .ro 4 S.length (rowG encC S)), (2, .ro 1 M.length (rowG encI M)), (20, .blk 25 [.sl 1 0 4 S.length none, I c, .sl 2 0 1 M.length none]), (10, .vec 3 1 (seenR S S.length ++ M.take j).length (rowG encI (seenR S S.length ++ M.take j)))]) (fun j => j ≤ M.length ∧ 1 ≤ S.length ∧ S.length ≤ 1024 ∧ 0 ≤ c ∧ c ≤ 1099511627776 ∧ M.length ≤ 8 ∧ (∀ k, k < S.length → okS S c k) ∧ ∀ i, i < j → okM S M i) (fun j => M.length - j) ?_ ?_
  · rintro j ⟨hj, a1, a2, a3, a4, a5, a6, a7⟩ ih
    have hl : (seenR S S.length ++ M.take j).length ≤ S.length + j := by
      have := seenR_len S S.length
      rw [List.length_append, List.length_take]; omega
    refine (Classical.em ((↑j : Int) < (↑M.length : Int))).elim (fun hc1 => ?ga0) (fun hc1 => ?gb0)
    case' gb0 =>
      refine Safe.ends mixed Go.Proofs.Try.func14 7 [⟨1100, [(4, .tt false)]⟩, ⟨1200, []⟩] (r := I ((0 : Int))) (hp := [(1, .ro ((4 : Nat)) (S.length) (rowG encC S)), (2, .ro ((1 : Nat)) (M.length) (rowG encI M))]) (ob := [decide ((↑j : Int) < (↑M.length : Int)) = false]) rfl (by kernel_rfl) ⟨(decide_eq_false hc1), trivial⟩ ?_ ⟨ObLe.refl _, ObLe.refl _, trivial⟩ ⟨rfl, fun _ => rfl, rfl, fun _ => rfl, trivial⟩ rfl
    case' ga0 =>
      refine (Classical.em ((blkB (M.getD j default)) = true)).elim (fun hc2 => ?ga1) (fun hc2 => ?gb1)
      case' gb1 =>
        refine Safe.ends mixed Go.Proofs.Try.func14 13 [⟨1100, [(4, .tt true)]⟩, ⟨1200, [(5, .call [] (B false) [])]⟩, ⟨1300, []⟩] (r := I ((2 : Int))) (hp := [(1, .ro ((4 : Nat)) (S.length) (rowG encC S)), (2, .ro ((1 : Nat)) (M.length) (rowG encI M))]) (ob := [decide ((↑j : Int) < (↑M.length : Int)) = true, (0 : Int) ≤ (↑j : Int) ∧ (↑j : Int) < (↑M.length : Int), j < M.length, CallOK Try.prog (37 : Nat) ([] ++ [AV.val (Value.int IntKind.i64 (M.getD j default))] ++ []) [] (AV.val (Value.bool false)) []]) rfl (by kernel_rfl) ⟨(decide_eq_true hc1), (by omega), (by omega), (CallOK.isB (CallOK.ren (rblock_any (M.getD j default)) [] [] rfl rfl rfl rfl trivial rfl trivial) (eq_false_of_ne_true hc2)), trivial⟩ ?_ ⟨ObLe.refl _, ObLe.refl _, trivial⟩ ⟨rfl, fun _ => rfl, rfl, fun _ => rfl, trivial⟩ rfl
      case' ga1 =>
        refine (Classical.em (M.getD j default ∈ seenR S S.length ++ List.take j M)).elim (fun hc3 => ?ga2) (fun hc3 => ?gb2)
        case' gb2 =>
          refine Safe.goto mixed 16 [⟨1100, [(4, .tt true)]⟩, ⟨1200, [(5, .call [] (B true) []), (14, .call [10] (B false) [])]⟩, ⟨1300, []⟩, ⟨1400, []⟩] [1, 3, 6] [1, 2, 20, 1307] (todo' := loopAt Go.Proofs.Try.f14 1) (sl := slotsOf 119 [(1, .ptr ((20 : Nat)) ((0 : Nat)) ((0 : Nat)) ((0 : Nat))), (3, .sl ((1307 : Nat)) ((0 : Nat)) ((1 : Nat)) (addN (seenR S S.length ++ List.take j M).length (1 : Nat)) (none)), (6, I ((↑j : Int) + (1 : Int)))]) (hp := [(1, .ro ((4 : Nat)) (S.length) (rowG encC S)), (2, .ro ((1 : Nat)) (M.length) (rowG encI M)), (20, .blk ((25 : Nat)) [.sl ((1 : Nat)) ((0 : Nat)) ((4 : Nat)) (S.length) (none), I (c), .sl ((2 : Nat)) ((0 : Nat)) ((1 : Nat)) (M.length) (none)]), (1307, .vec ((3 : Nat)) ((1 : Nat)) (addN (seenR S S.length ++ List.take j M).length (1 : Nat)) (catR (seenR S S.length ++ List.take j M).length (rowG encI (seenR S S.length ++ List.take j M)) (rowsOf [AV.val (Value.int IntKind.i64 (M.getD j default))] (1 : Nat))))]) (ob := [decide ((↑j : Int) < (↑M.length : Int)) = true, (0 : Int) ≤ (↑j : Int) ∧ (↑j : Int) < (↑M.length : Int), j < M.length, CallOK Try.prog (37 : Nat) ([] ++ [AV.val (Value.int IntKind.i64 (M.getD j default))] ++ []) [] (AV.val (Value.bool true)) [], (0 : Int) ≤ (↑j : Int) ∧ (↑j : Int) < (↑M.length : Int), j < M.length, CallOK Try.prog (38 : Nat) ([] ++ [AV.sl (10 : Nat) (0 : Nat) (1 : Nat) (seenR S S.length ++ List.take j M).length none, AV.val (Value.int IntKind.i64 (M.getD j default))] ++ []) [((10 : Nat), Ob.vec (3 : Nat) (1 : Nat) (seenR S S.length ++ List.take j M).length (rowG encI (seenR S S.length ++ List.take j M)))] (AV.val (Value.bool false)) [], (0 : Int) ≤ (↑j : Int) ∧ (↑j : Int) < (↑M.length : Int), j < M.length, (0 : Nat) + (1 : Nat) ≤ (1 : Nat), (seenR S S.length ++ List.take j M).length = (seenR S S.length ++ List.take j M).length, (seenR S S.length ++ List.take j M).length + (1 : Nat) ≤ (1099511627776 : Nat), inK IntKind.i64 ((↑j : Int) + (1 : Int))]) rfl rfl (by kernel_rfl) ⟨(decide_eq_true hc1), (by omega), (by omega), (CallOK.isB (CallOK.ren (rblock_any (M.getD j default)) [] [] rfl rfl rfl rfl trivial rfl trivial) hc2), (by omega), (by omega), (CallOK.isB (CallOK.ren (CallOK.own 3 0 rfl rfl rfl (has_any (seenR S S.length ++ List.take j M) (M.getD j default) (by omega))) [(0, 10)] [0] rfl rfl rfl rfl ⟨rfl, fun _ => rfl, trivial⟩ rfl ⟨rfl, fun _ => rfl, trivial⟩) (decide_eq_false hc3)), (by omega), (by omega), (by omega), (by omega), (by omega), (by simp only [inK]; omega), trivial⟩ rfl ⟨rfl, fun _ => rfl, rfl, fun _ => rfl, rfl, rfl, rfl, closed_cat (fun _ => rfl) (closed_rows rfl), trivial⟩ ?_
          refine Safe.ren [(1307, 10)] rfl rfl rfl rfl ⟨rfl, fun _ => rfl, rfl, fun _ => rfl, rfl, rfl, rfl, closed_cat (fun _ => rfl) (closed_rows rfl), trivial⟩ ?_
        case' ga2 =>
          refine Safe.ends mixed Go.Proofs.Try.func14 13 [⟨1100, [(4, .tt true)]⟩, ⟨1200, [(5, .call [] (B true) []), (14, .call [10] (B true) [])]⟩, ⟨1300, []⟩] (r := I ((2 : Int))) (hp := [(1, .ro ((4 : Nat)) (S.length) (rowG encC S)), (2, .ro ((1 : Nat)) (M.length) (rowG encI M))]) (ob := [decide ((↑j : Int) < (↑M.length : Int)) = true, (0 : Int) ≤ (↑j : Int) ∧ (↑j : Int) < (↑M.length : Int), j < M.length, CallOK Try.prog (37 : Nat) ([] ++ [AV.val (Value.int IntKind.i64 (M.getD j default))] ++ []) [] (AV.val (Value.bool true)) [], (0 : Int) ≤ (↑j : Int) ∧ (↑j : Int) < (↑M.length : Int), j < M.length, CallOK Try.prog (38 : Nat) ([] ++ [AV.sl (10 : Nat) (0 : Nat) (1 : Nat) (seenR S S.length ++ List.take j M).length none, AV.val (Value.int IntKind.i64 (M.getD j default))] ++ []) [((10 : Nat), Ob.vec (3 : Nat) (1 : Nat) (seenR S S.length ++ List.take j M).length (rowG encI (seenR S S.length ++ List.take j M)))] (AV.val (Value.bool true)) []]) rfl (by kernel_rfl) ⟨(decide_eq_true hc1), (by omega), (by omega), (CallOK.isB (CallOK.ren (rblock_any (M.getD j default)) [] [] rfl rfl rfl rfl trivial rfl trivial) hc2), (by omega), (by omega), (CallOK.isB (CallOK.ren (CallOK.own 3 0 rfl rfl rfl (has_any (seenR S S.length ++ List.take j M) (M.getD j default) (by omega))) [(0, 10)] [0] rfl rfl rfl rfl ⟨rfl, fun _ => rfl, trivial⟩ rfl ⟨rfl, fun _ => rfl, trivial⟩) (decide_eq_true hc3)), trivial⟩ ?_ ⟨ObLe.refl _, ObLe.refl _, trivial⟩ ⟨rfl, fun _ => rfl, rfl, fun _ => rfl, trivial⟩ rfl
    case ga2 => rw [valid_2 (fun h => (h.2.2.2.2.2.2 j (by omega)).2 hc3)]; rfl
    case gb1 => rw [valid_2 (fun h => hc2 (h.2.2.2.2.2.2 j (by omega)).1)]; rfl
    case gb0 => rw [valid_0 ⟨a1, a2, a3, a4, a5, a6, fun i hi => a7 i (by omega)⟩]; rfl
    case gb2 =>
      have e1 : seenR S S.length ++ M.take (j + 1) = (seenR S S.length ++ M.take j) ++ [M.getD j default] := by
        rw [List.take_succ_eq_append_getElem (by omega), ← List.append_assoc, List.getD_eq_getElem?_getD, List.getElem?_eq_getElem (by omega)]; rfl
      have e2 : addN (seenR S S.length ++ M.take j).length 1 = (seenR S S.length ++ M.take (j + 1)).length := by rw [addN_eq, e1]; simp; omega
      rw [e2]
      refine Safe.leH (ih (j + 1) ⟨by omega, a1, a2, a3, a4, a5, a6, fun i hi => ?_⟩ (by omega)) rfl (SlLe.refl _) ⟨ObLe.refl _, ObLe.refl _, ObLe.refl _, ?_, trivial⟩ rfl ⟨rfl, fun _ => rfl, rfl, fun _ => rfl, rfl, rfl, rfl, fun _ => rfl, trivial⟩
      · by_cases e : i = j
        · subst e; exact ⟨hc2, hc3⟩
        · exact a7 i (by omega)
      · exact ob_app encI _ _ _ _ e1 _ (by rw [e1]; simp; omega) (fun _ => rfl) rfl
  · intro H2
    refine Safe.withLoop (loopAt Try.f14 0) [1, 2, 20, 10] 119 (fun k : Nat => [(1, .ptr 20 0 0 0), (3, .sl 10 0 1 (seenR S k).length none), (4, I k)]) (fun k => [(1, .ro 4 S.length (rowG encC S)), (2, .ro 1 M.length (rowG encI M)), (20, .blk 25 [.sl 1 0 4 S.length none, I c, .sl 2 0 1 M.length none]), (10, .vec 3 1 (seenR S k).length (rowG encI (seenR S k)))]) (fun k => k ≤ S.length ∧ 1 ≤ S.length ∧ S.length ≤ 1024 ∧ 0 ≤ c ∧ c ≤ 1099511627776 ∧ M.length ≤ 8 ∧ ∀ i, i < k → okS S c i) (fun k => S.length - k) ?_ ?_
    · rintro k ⟨hk, a1, a2, a3, a4, a5, a6⟩ ih
      have hl := seenR_len S k
      refine (Classical.em ((↑k : Int) < (↑S.length : Int))).elim (fun hc1 => ?ga3) (fun hc1 => ?gb3)
      case' gb3 =>
        refine Safe.goto mixed 10 [⟨1100, [(4, .tt false)]⟩, ⟨1200, []⟩] [1, 3, 6] [1, 2, 20, 10] (todo' := loopAt Go.Proofs.Try.f14 1) (sl := slotsOf 119 [(1, .ptr ((20 : Nat)) ((0 : Nat)) ((0 : Nat)) ((0 : Nat))), (3, .sl ((10 : Nat)) ((0 : Nat)) ((1 : Nat)) ((seenR S k).length) (none)), (6, I ((0 : Int)))]) (hp := [(1, .ro ((4 : Nat)) (S.length) (rowG encC S)), (2, .ro ((1 : Nat)) (M.length) (rowG encI M)), (20, .blk ((25 : Nat)) [.sl ((1 : Nat)) ((0 : Nat)) ((4 : Nat)) (S.length) (none), I (c), .sl ((2 : Nat)) ((0 : Nat)) ((1 : Nat)) (M.length) (none)]), (10, .vec ((3 : Nat)) ((1 : Nat)) ((seenR S k).length) (rowG encI (seenR S k)))]) (ob := [decide ((↑k : Int) < (↑S.length : Int)) = false]) rfl rfl (by kernel_rfl) ⟨(decide_eq_false hc1), trivial⟩ rfl ⟨rfl, fun _ => rfl, rfl, fun _ => rfl, rfl, rfl, rfl, fun _ => rfl, trivial⟩ ?_
      case' ga3 =>
        refine (Classical.em (((S.getD k default).valid) = true)).elim (fun hc2 => ?ga4) (fun hc2 => ?gb4)
        case' gb4 =>
          refine (Classical.em ((!((S.getD k default).valid == false && ((S.getD k default).dirty == false && (decide ((S.getD k default).block = (0 : Int)) && (decide ((S.getD k default).stamp = (0 : Int)) && true))))) = true)).elim (fun hc3 => ?ga9) (fun hc3 => ?gb9)
          case' gb9 =>
            refine Safe.goto mixed 21 [⟨1100, [(4, .tt true)]⟩, ⟨1200, []⟩, ⟨1300, [(1, .tt false), (6, .tt false), (10, .tt false)]⟩, ⟨1400, [(1, .tt false)]⟩, ⟨1500, []⟩] [1, 3, 4] [1, 2, 20, 10] (todo' := loopAt Go.Proofs.Try.f14 0) (sl := slotsOf 119 [(1, .ptr ((20 : Nat)) ((0 : Nat)) ((0 : Nat)) ((0 : Nat))), (3, .sl ((10 : Nat)) ((0 : Nat)) ((1 : Nat)) ((seenR S k).length) (none)), (4, I ((↑k : Int) + (1 : Int)))]) (hp := [(1, .ro ((4 : Nat)) (S.length) (rowG encC S)), (2, .ro ((1 : Nat)) (M.length) (rowG encI M)), (20, .blk ((25 : Nat)) [.sl ((1 : Nat)) ((0 : Nat)) ((4 : Nat)) (S.length) (none), I (c), .sl ((2 : Nat)) ((0 : Nat)) ((1 : Nat)) (M.length) (none)]), (10, .vec ((3 : Nat)) ((1 : Nat)) ((seenR S k).length) (rowG encI (seenR S k)))]) (ob := [decide ((↑k : Int) < (↑S.length : Int)) = true, (0 : Int) ≤ (↑k : Int) ∧ (↑k : Int) < (↑S.length : Int), k < S.length, (S.getD k default).valid = false, (!((S.getD k default).valid == false && ((S.getD k default).dirty == false && (decide ((S.getD k default).block = (0 : Int)) && (decide ((S.getD k default).stamp = (0 : Int)) && true))))) = false, (S.getD k default).valid = false, (S.getD k default).valid = false, inK IntKind.i64 ((↑k : Int) + (1 : Int))]) rfl rfl (by kernel_rfl) ⟨(decide_eq_true hc1), (by omega), (by omega), (by simpa using hc2), (by simpa using hc3), (by simpa using hc2), (by simpa using hc2), (by simp only [inK]; omega), trivial⟩ rfl ⟨rfl, fun _ => rfl, rfl, fun _ => rfl, rfl, rfl, rfl, fun _ => rfl, trivial⟩ ?_
          case' ga9 =>
            refine Safe.ends mixed Go.Proofs.Try.func14 15 [⟨1100, [(4, .tt true)]⟩, ⟨1200, []⟩, ⟨1300, [(1, .tt false), (6, .tt true)]⟩, ⟨1400, []⟩] (r := I ((2 : Int))) (hp := [(1, .ro ((4 : Nat)) (S.length) (rowG encC S)), (2, .ro ((1 : Nat)) (M.length) (rowG encI M))]) (ob := [decide ((↑k : Int) < (↑S.length : Int)) = true, (0 : Int) ≤ (↑k : Int) ∧ (↑k : Int) < (↑S.length : Int), k < S.length, (S.getD k default).valid = false, (!((S.getD k default).valid == false && ((S.getD k default).dirty == false && (decide ((S.getD k default).block = (0 : Int)) && (decide ((S.getD k default).stamp = (0 : Int)) && true))))) = true]) rfl (by kernel_rfl) ⟨(decide_eq_true hc1), (by omega), (by omega), (by simpa using hc2), hc3, trivial⟩ ?_ ⟨ObLe.refl _, ObLe.refl _, trivial⟩ ⟨rfl, fun _ => rfl, rfl, fun _ => rfl, trivial⟩ rfl
        case' ga4 =>
          refine (Classical.em ((blkB (S.getD k default).block) = true)).elim (fun hc3 => ?ga5) (fun hc3 => ?gb5)
          case' gb5 =>
            refine Safe.ends mixed Go.Proofs.Try.func14 15 [⟨1100, [(4, .tt true)]⟩, ⟨1200, []⟩, ⟨1300, [(1, .tt true), (10, .tt true), (14, .call [] (B false) [])]⟩, ⟨1400, []⟩] (r := I ((2 : Int))) (hp := [(1, .ro ((4 : Nat)) (S.length) (rowG encC S)), (2, .ro ((1 : Nat)) (M.length) (rowG encI M))]) (ob := [decide ((↑k : Int) < (↑S.length : Int)) = true, (0 : Int) ≤ (↑k : Int) ∧ (↑k : Int) < (↑S.length : Int), k < S.length, (S.getD k default).valid = true, (S.getD k default).valid = true, CallOK Try.prog (37 : Nat) ([] ++ [AV.val (Value.int IntKind.i64 (S.getD k default).block)] ++ []) [] (AV.val (Value.bool false)) []]) rfl (by kernel_rfl) ⟨(decide_eq_true hc1), (by omega), (by omega), hc2, hc2, (CallOK.isB (CallOK.ren (rblock_any ((S.getD k default).block)) [] [] rfl rfl rfl rfl trivial rfl trivial) (eq_false_of_ne_true hc3)), trivial⟩ ?_ ⟨ObLe.refl _, ObLe.refl _, trivial⟩ ⟨rfl, fun _ => rfl, rfl, fun _ => rfl, trivial⟩ rfl
          case' ga5 =>
            refine (Classical.em ((S.getD k default).stamp < (0 : Int))).elim (fun hc4 => ?ga6) (fun hc4 => ?gb6)
            case' gb6 =>
              refine (Classical.em ((S.getD k default).stamp > c)).elim (fun hc5 => ?ga7) (fun hc5 => ?gb7)
              case' gb7 =>
                refine (Classical.em ((S.getD k default).block ∈ seenR S k)).elim (fun hc6 => ?ga8) (fun hc6 => ?gb8)
                case' gb8 =>
                  refine Safe.goto mixed 21 [⟨1100, [(4, .tt true)]⟩, ⟨1200, []⟩, ⟨1300, [(1, .tt true), (10, .tt true), (14, .call [] (B true) []), (19, .tt false), (26, .tt false), (32, .call [10] (B false) [])]⟩, ⟨1400, [(1, .tt true)]⟩, ⟨1500, []⟩, ⟨1600, []⟩] [1, 3, 4] [1, 2, 20, 1504] (todo' := loopAt Go.Proofs.Try.f14 0) (sl := slotsOf 119 [(1, .ptr ((20 : Nat)) ((0 : Nat)) ((0 : Nat)) ((0 : Nat))), (3, .sl ((1504 : Nat)) ((0 : Nat)) ((1 : Nat)) (addN (seenR S k).length (1 : Nat)) (none)), (4, I ((↑k : Int) + (1 : Int)))]) (hp := [(1, .ro ((4 : Nat)) (S.length) (rowG encC S)), (2, .ro ((1 : Nat)) (M.length) (rowG encI M)), (20, .blk ((25 : Nat)) [.sl ((1 : Nat)) ((0 : Nat)) ((4 : Nat)) (S.length) (none), I (c), .sl ((2 : Nat)) ((0 : Nat)) ((1 : Nat)) (M.length) (none)]), (1504, .vec ((3 : Nat)) ((1 : Nat)) (addN (seenR S k).length (1 : Nat)) (catR (seenR S k).length (rowG encI (seenR S k)) (rowsOf [AV.val (Value.int IntKind.i64 (S.getD k default).block)] (1 : Nat))))]) (ob := [decide ((↑k : Int) < (↑S.length : Int)) = true, (0 : Int) ≤ (↑k : Int) ∧ (↑k : Int) < (↑S.length : Int), k < S.length, (S.getD k default).valid = true, (S.getD k default).valid = true, CallOK Try.prog (37 : Nat) ([] ++ [AV.val (Value.int IntKind.i64 (S.getD k default).block)] ++ []) [] (AV.val (Value.bool true)) [], decide ((S.getD k default).stamp < (0 : Int)) = false, decide ((S.getD k default).stamp > c) = false, CallOK Try.prog (38 : Nat) ([] ++ [AV.sl (10 : Nat) (0 : Nat) (1 : Nat) (seenR S k).length none, AV.val (Value.int IntKind.i64 (S.getD k default).block)] ++ []) [((10 : Nat), Ob.vec (3 : Nat) (1 : Nat) (seenR S k).length (rowG encI (seenR S k)))] (AV.val (Value.bool false)) [], (S.getD k default).valid = true, (0 : Nat) + (1 : Nat) ≤ (1 : Nat), (seenR S k).length = (seenR S k).length, (seenR S k).length + (1 : Nat) ≤ (1099511627776 : Nat), inK IntKind.i64 ((↑k : Int) + (1 : Int))]) rfl rfl (by kernel_rfl) ⟨(decide_eq_true hc1), (by omega), (by omega), hc2, hc2, (CallOK.isB (CallOK.ren (rblock_any ((S.getD k default).block)) [] [] rfl rfl rfl rfl trivial rfl trivial) hc3), (decide_eq_false hc4), (decide_eq_false hc5), (CallOK.isB (CallOK.ren (CallOK.own 3 0 rfl rfl rfl (has_any (seenR S k) ((S.getD k default).block) (by omega))) [(0, 10)] [0] rfl rfl rfl rfl ⟨rfl, fun _ => rfl, trivial⟩ rfl ⟨rfl, fun _ => rfl, trivial⟩) (decide_eq_false hc6)), hc2, (by omega), (by omega), (by omega), (by simp only [inK]; omega), trivial⟩ rfl ⟨rfl, fun _ => rfl, rfl, fun _ => rfl, rfl, rfl, rfl, closed_cat (fun _ => rfl) (closed_rows rfl), trivial⟩ ?_
                  refine Safe.ren [(1504, 10)] rfl rfl rfl rfl ⟨rfl, fun _ => rfl, rfl, fun _ => rfl, rfl, rfl, rfl, closed_cat (fun _ => rfl) (closed_rows rfl), trivial⟩ ?_
                case' ga8 =>
                  refine Safe.ends mixed Go.Proofs.Try.func14 15 [⟨1100, [(4, .tt true)]⟩, ⟨1200, []⟩, ⟨1300, [(1, .tt true), (10, .tt true), (14, .call [] (B true) []), (19, .tt false), (26, .tt false), (32, .call [10] (B true) [])]⟩, ⟨1400, []⟩] (r := I ((2 : Int))) (hp := [(1, .ro ((4 : Nat)) (S.length) (rowG encC S)), (2, .ro ((1 : Nat)) (M.length) (rowG encI M))]) (ob := [decide ((↑k : Int) < (↑S.length : Int)) = true, (0 : Int) ≤ (↑k : Int) ∧ (↑k : Int) < (↑S.length : Int), k < S.length, (S.getD k default).valid = true, (S.getD k default).valid = true, CallOK Try.prog (37 : Nat) ([] ++ [AV.val (Value.int IntKind.i64 (S.getD k default).block)] ++ []) [] (AV.val (Value.bool true)) [], decide ((S.getD k default).stamp < (0 : Int)) = false, decide ((S.getD k default).stamp > c) = false, CallOK Try.prog (38 : Nat) ([] ++ [AV.sl (10 : Nat) (0 : Nat) (1 : Nat) (seenR S k).length none, AV.val (Value.int IntKind.i64 (S.getD k default).block)] ++ []) [((10 : Nat), Ob.vec (3 : Nat) (1 : Nat) (seenR S k).length (rowG encI (seenR S k)))] (AV.val (Value.bool true)) []]) rfl (by kernel_rfl) ⟨(decide_eq_true hc1), (by omega), (by omega), hc2, hc2, (CallOK.isB (CallOK.ren (rblock_any ((S.getD k default).block)) [] [] rfl rfl rfl rfl trivial rfl trivial) hc3), (decide_eq_false hc4), (decide_eq_false hc5), (CallOK.isB (CallOK.ren (CallOK.own 3 0 rfl rfl rfl (has_any (seenR S k) ((S.getD k default).block) (by omega))) [(0, 10)] [0] rfl rfl rfl rfl ⟨rfl, fun _ => rfl, trivial⟩ rfl ⟨rfl, fun _ => rfl, trivial⟩) (decide_eq_true hc6)), trivial⟩ ?_ ⟨ObLe.refl _, ObLe.refl _, trivial⟩ ⟨rfl, fun _ => rfl, rfl, fun _ => rfl, trivial⟩ rfl
              case' ga7 =>
                refine Safe.ends mixed Go.Proofs.Try.func14 15 [⟨1100, [(4, .tt true)]⟩, ⟨1200, []⟩, ⟨1300, [(1, .tt true), (10, .tt true), (14, .call [] (B true) []), (19, .tt false), (26, .tt true)]⟩, ⟨1400, []⟩] (r := I ((2 : Int))) (hp := [(1, .ro ((4 : Nat)) (S.length) (rowG encC S)), (2, .ro ((1 : Nat)) (M.length) (rowG encI M))]) (ob := [decide ((↑k : Int) < (↑S.length : Int)) = true, (0 : Int) ≤ (↑k : Int) ∧ (↑k : Int) < (↑S.length : Int), k < S.length, (S.getD k default).valid = true, (S.getD k default).valid = true, CallOK Try.prog (37 : Nat) ([] ++ [AV.val (Value.int IntKind.i64 (S.getD k default).block)] ++ []) [] (AV.val (Value.bool true)) [], decide ((S.getD k default).stamp < (0 : Int)) = false, decide ((S.getD k default).stamp > c) = true]) rfl (by kernel_rfl) ⟨(decide_eq_true hc1), (by omega), (by omega), hc2, hc2, (CallOK.isB (CallOK.ren (rblock_any ((S.getD k default).block)) [] [] rfl rfl rfl rfl trivial rfl trivial) hc3), (decide_eq_false hc4), (decide_eq_true hc5), trivial⟩ ?_ ⟨ObLe.refl _, ObLe.refl _, trivial⟩ ⟨rfl, fun _ => rfl, rfl, fun _ => rfl, trivial⟩ rfl
            case' ga6 =>
              refine Safe.ends mixed Go.Proofs.Try.func14 15 [⟨1100, [(4, .tt true)]⟩, ⟨1200, []⟩, ⟨1300, [(1, .tt true), (10, .tt true), (14, .call [] (B true) []), (19, .tt true)]⟩, ⟨1400, []⟩] (r := I ((2 : Int))) (hp := [(1, .ro ((4 : Nat)) (S.length) (rowG encC S)), (2, .ro ((1 : Nat)) (M.length) (rowG encI M))]) (ob := [decide ((↑k : Int) < (↑S.length : Int)) = true, (0 : Int) ≤ (↑k : Int) ∧ (↑k : Int) < (↑S.length : Int), k < S.length, (S.getD k default).valid = true, (S.getD k default).valid = true, CallOK Try.prog (37 : Nat) ([] ++ [AV.val (Value.int IntKind.i64 (S.getD k default).block)] ++ []) [] (AV.val (Value.bool true)) [], decide ((S.getD k default).stamp < (0 : Int)) = true]) rfl (by kernel_rfl) ⟨(decide_eq_true hc1), (by omega), (by omega), hc2, hc2, (CallOK.isB (CallOK.ren (rblock_any ((S.getD k default).block)) [] [] rfl rfl rfl rfl trivial rfl trivial) hc3), (decide_eq_true hc4), trivial⟩ ?_ ⟨ObLe.refl _, ObLe.refl _, trivial⟩ ⟨rfl, fun _ => rfl, rfl, fun _ => rfl, trivial⟩ rfl
      case ga6 => rw [valid_2 (fun h => by have := ((h.2.2.2.2.2.1 k (by omega)).2 hc2).2.1; omega)]; rfl
      case ga7 => rw [valid_2 (fun h => by have := ((h.2.2.2.2.2.1 k (by omega)).2 hc2).2.2.1; omega)]; rfl
      case ga8 => rw [valid_2 (fun h => ((h.2.2.2.2.2.1 k (by omega)).2 hc2).2.2.2 hc6)]; rfl
      case gb5 => rw [valid_2 (fun h => hc3 ((h.2.2.2.2.2.1 k (by omega)).2 hc2).1)]; rfl
      case ga9 => rw [valid_2 (fun h => by
          have := (zeroB _).2 ((h.2.2.2.2.2.1 k (by omega)).1 (by simpa using hc2))
          rw [this] at hc3
          cases hc3)]; rfl
      case gb8 =>
        have e1 : seenR S (k + 1) = seenR S k ++ [(S.getD k default).block] := by rw [seenR, if_pos hc2]
        have e2 : addN (seenR S k).length 1 = (seenR S (k + 1)).length := by rw [addN_eq, e1, List.length_append]; rfl
        rw [e2]
        refine Safe.leH (ih (k + 1) ⟨by omega, a1, a2, a3, a4, a5, fun i hi => ?_⟩ (by omega)) rfl (SlLe.refl _) ⟨ObLe.refl _, ObLe.refl _, ObLe.refl _, ?_, trivial⟩ rfl ⟨rfl, fun _ => rfl, rfl, fun _ => rfl, rfl, rfl, rfl, fun _ => rfl, trivial⟩
        · by_cases e : i = k
          · subst e; exact ⟨fun h => (by rw [hc2] at h; cases h), fun _ => ⟨hc3, by omega, by omega, hc6⟩⟩
          · exact a6 i (by omega)
        · exact ob_app encI _ _ _ _ e1 _ (by rw [e1, List.length_append]; rfl) (fun _ => rfl) rfl
      case gb9 =>
        have e1 : seenR S (k + 1) = seenR S k := by rw [seenR, if_neg hc2]
        have hh := ih (k + 1) ⟨by omega, a1, a2, a3, a4, a5, fun i hi => by
          by_cases e : i = k
          · subst e; exact ⟨fun _ => (zeroB _).1 (by simpa using hc3), fun h => absurd h hc2⟩
          · exact a6 i (by omega)⟩ (by omega)
        rw [e1] at hh
        exact hh
      case gb3 =>
        obtain rfl : k = S.length := by omega
        have hh := H2 0 ⟨Nat.zero_le _, a1, a2, a3, a4, a5, fun i hi => a6 i (by omega), fun i hi => by omega⟩
        rw [List.take_zero, List.append_nil] at hh
        exact hh
    · intro H1
      have n1 : ∀ {p : Prop}, p → (p → ¬ VS S c M) → validF S c M = 2 := fun hp h => valid_2 (h hp)
      refine (Classical.em ((↑S.length : Int) < (1 : Int))).elim (fun hc1 => ?ga10) (fun hc1 => ?gb10)
      case' gb10 =>
        refine (Classical.em ((↑S.length : Int) > (1024 : Int))).elim (fun hc2 => ?ga11) (fun hc2 => ?gb11)
        case' gb11 =>
          refine (Classical.em (c < (0 : Int))).elim (fun hc3 => ?ga12) (fun hc3 => ?gb12)
          case' gb12 =>
            refine (Classical.em (c > (1099511627776 : Int))).elim (fun hc4 => ?ga13) (fun hc4 => ?gb13)
            case' gb13 =>
              refine (Classical.em ((↑M.length : Int) > (8 : Int))).elim (fun hc5 => ?ga14) (fun hc5 => ?gb14)
              case' gb14 =>
                refine Safe.goto mixed 14 [⟨1100, []⟩, ⟨1200, [(3, .tt false), (8, .tt false), (13, .tt false), (18, .tt false), (24, .tt false)]⟩, ⟨1300, []⟩, ⟨1400, []⟩] [1, 3, 4] [1, 2, 1100] (todo' := loopAt Go.Proofs.Try.f14 0) (sl := slotsOf 119 [(1, .ptr ((1100 : Nat)) ((0 : Nat)) ((0 : Nat)) ((0 : Nat))), (3, .val (Value.slice none (0 : Nat) (0 : Nat))), (4, I ((0 : Int)))]) (hp := [(1, .ro ((4 : Nat)) (S.length) (rowG encC S)), (2, .ro ((1 : Nat)) (M.length) (rowG encI M)), (1100, .blk ((25 : Nat)) [.sl ((1 : Nat)) ((0 : Nat)) ((4 : Nat)) (S.length) (none), I (c), .sl ((2 : Nat)) ((0 : Nat)) ((1 : Nat)) (M.length) (none)])]) (ob := [decide ((↑S.length : Int) < (1 : Int)) = false, decide ((↑S.length : Int) > (1024 : Int)) = false, decide (c < (0 : Int)) = false, decide (c > (1099511627776 : Int)) = false, decide ((↑M.length : Int) > (8 : Int)) = false]) rfl rfl (by kernel_rfl) ⟨(decide_eq_false hc1), (decide_eq_false hc2), (decide_eq_false hc3), (decide_eq_false hc4), (decide_eq_false hc5), trivial⟩ rfl ⟨rfl, fun _ => rfl, rfl, fun _ => rfl, rfl, rfl, trivial⟩ ?_
                refine Safe.ren [(1100, 20)] rfl rfl rfl rfl ⟨rfl, fun _ => rfl, rfl, fun _ => rfl, rfl, rfl, trivial⟩ ?_
              case' ga14 =>
                refine Safe.ends mixed Go.Proofs.Try.func14 8 [⟨1100, []⟩, ⟨1200, [(3, .tt false), (8, .tt false), (13, .tt false), (18, .tt false), (24, .tt true)]⟩, ⟨1300, []⟩] (r := I ((2 : Int))) (hp := [(1, .ro ((4 : Nat)) (S.length) (rowG encC S)), (2, .ro ((1 : Nat)) (M.length) (rowG encI M))]) (ob := [decide ((↑S.length : Int) < (1 : Int)) = false, decide ((↑S.length : Int) > (1024 : Int)) = false, decide (c < (0 : Int)) = false, decide (c > (1099511627776 : Int)) = false, decide ((↑M.length : Int) > (8 : Int)) = true]) rfl (by kernel_rfl) ⟨(decide_eq_false hc1), (decide_eq_false hc2), (decide_eq_false hc3), (decide_eq_false hc4), (decide_eq_true hc5), trivial⟩ ?_ ⟨ObLe.refl _, ObLe.refl _, trivial⟩ ⟨rfl, fun _ => rfl, rfl, fun _ => rfl, trivial⟩ rfl
            case' ga13 =>
              refine Safe.ends mixed Go.Proofs.Try.func14 8 [⟨1100, []⟩, ⟨1200, [(3, .tt false), (8, .tt false), (13, .tt false), (18, .tt true)]⟩, ⟨1300, []⟩] (r := I ((2 : Int))) (hp := [(1, .ro ((4 : Nat)) (S.length) (rowG encC S)), (2, .ro ((1 : Nat)) (M.length) (rowG encI M))]) (ob := [decide ((↑S.length : Int) < (1 : Int)) = false, decide ((↑S.length : Int) > (1024 : Int)) = false, decide (c < (0 : Int)) = false, decide (c > (1099511627776 : Int)) = true]) rfl (by kernel_rfl) ⟨(decide_eq_false hc1), (decide_eq_false hc2), (decide_eq_false hc3), (decide_eq_true hc4), trivial⟩ ?_ ⟨ObLe.refl _, ObLe.refl _, trivial⟩ ⟨rfl, fun _ => rfl, rfl, fun _ => rfl, trivial⟩ rfl
          case' ga12 =>
            refine Safe.ends mixed Go.Proofs.Try.func14 8 [⟨1100, []⟩, ⟨1200, [(3, .tt false), (8, .tt false), (13, .tt true)]⟩, ⟨1300, []⟩] (r := I ((2 : Int))) (hp := [(1, .ro ((4 : Nat)) (S.length) (rowG encC S)), (2, .ro ((1 : Nat)) (M.length) (rowG encI M))]) (ob := [decide ((↑S.length : Int) < (1 : Int)) = false, decide ((↑S.length : Int) > (1024 : Int)) = false, decide (c < (0 : Int)) = true]) rfl (by kernel_rfl) ⟨(decide_eq_false hc1), (decide_eq_false hc2), (decide_eq_true hc3), trivial⟩ ?_ ⟨ObLe.refl _, ObLe.refl _, trivial⟩ ⟨rfl, fun _ => rfl, rfl, fun _ => rfl, trivial⟩ rfl
        case' ga11 =>
          refine Safe.ends mixed Go.Proofs.Try.func14 8 [⟨1100, []⟩, ⟨1200, [(3, .tt false), (8, .tt true)]⟩, ⟨1300, []⟩] (r := I ((2 : Int))) (hp := [(1, .ro ((4 : Nat)) (S.length) (rowG encC S)), (2, .ro ((1 : Nat)) (M.length) (rowG encI M))]) (ob := [decide ((↑S.length : Int) < (1 : Int)) = false, decide ((↑S.length : Int) > (1024 : Int)) = true]) rfl (by kernel_rfl) ⟨(decide_eq_false hc1), (decide_eq_true hc2), trivial⟩ ?_ ⟨ObLe.refl _, ObLe.refl _, trivial⟩ ⟨rfl, fun _ => rfl, rfl, fun _ => rfl, trivial⟩ rfl
      case' ga10 =>
        refine Safe.ends mixed Go.Proofs.Try.func14 8 [⟨1100, []⟩, ⟨1200, [(3, .tt true)]⟩, ⟨1300, []⟩] (r := I ((2 : Int))) (hp := [(1, .ro ((4 : Nat)) (S.length) (rowG encC S)), (2, .ro ((1 : Nat)) (M.length) (rowG encI M))]) (ob := [decide ((↑S.length : Int) < (1 : Int)) = true]) rfl (by kernel_rfl) ⟨(decide_eq_true hc1), trivial⟩ ?_ ⟨ObLe.refl _, ObLe.refl _, trivial⟩ ⟨rfl, fun _ => rfl, rfl, fun _ => rfl, trivial⟩ rfl
      · rw [valid_2 (fun h => by have := h.1; omega)]; rfl
      · rw [valid_2 (fun h => by have := h.2.1; omega)]; rfl
      · rw [valid_2 (fun h => by have := h.2.2.1; omega)]; rfl
      · rw [valid_2 (fun h => by have := h.2.2.2.1; omega)]; rfl
      · rw [valid_2 (fun h => by have := h.2.2.2.2.1; omega)]; rfl
      · refine Safe.nil 3 10 3 1 (rowG encI []) rfl rfl ⟨rfl, fun _ => rfl, rfl, fun _ => rfl, rfl, rfl, trivial⟩ ?_ rfl
        exact Safe.leH (H1 0 ⟨Nat.zero_le _, by omega, by omega, by omega, by omega, by omega, fun i hi => by omega⟩) rfl (SlLe.refl _) ⟨ObLe.refl _, ObLe.refl _, ObLe.refl _, ObLe.refl _, trivial⟩ rfl ⟨rfl, fun _ => rfl, rfl, fun _ => rfl, rfl, rfl, rfl, fun _ => rfl, trivial⟩
end Go.Proofs.Ytebejfmodiionaa
