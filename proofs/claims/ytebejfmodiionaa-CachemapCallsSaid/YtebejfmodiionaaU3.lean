/- The program's Valid. -/
import Derived.Test.YtebejfmodiionaaSyX
import Derived.KernelRfl
import Derived.Test.YtebejfmodiionaaU2
namespace Go.Proofs.Ytebejfmodiionaa
open Go.RowKit
set_option linter.unusedVariables false
set_option linter.unnecessarySimpa false
def memI (l : List Int) : Int → Bool := fun n => decide (n ∈ l)
theorem memI_iff {l : List Int} {n : Int} : memI l n = true ↔ n ∈ l := by simp [memI]
theorem memI_app (l : List Int) (x y : Int) : (if y = x then true else memI l y) = memI (l ++ [x]) y := by
  by_cases e : y = x
  · subst e; simp [memI]
  · simp [memI, e]
set_option maxRecDepth 10000 in
set_option maxHeartbeats 8000000 in
theorem valid_any (S : List Sl) (c : Int) (M : List Int) (hS : S.length ≤ 1000000) (hM : M.length ≤ 1000000) (hc : -9223372036854775808 ≤ c ∧ c ≤ 9223372036854775807) : CallOK Try.prog 13 [.agg [.sl 1 0 4 S.length none, I c, .sl 2 0 1 M.length none]] [(1, .ro 4 S.length (rowG encC S)), (2, .ro 1 M.length (rowG encI M))] (I (validF S c M)) [] := by
  refine CallOK.intro Try.call13 Try.func13 rfl rfl ⟨rfl, fun _ => rfl, rfl, fun _ => rfl, trivial⟩ ?_
  refine Safe.withLoop (loopAt Try.f13 1) [1, 2, 10] 103 (fun j : Nat => [(3, .mp 10), (86, .sl 2 0 1 M.length none), (87, I M.length), (88, I j)]) (fun j => [(1, .ro 4 S.length (rowG encC S)), (2, .ro 1 M.length (rowG encI M)), (10, .obj (.iset .i64 (memI (seenR S S.length ++ M.take j))))]) (fun j => j ≤ M.length ∧ 1 ≤ S.length ∧ S.length ≤ 1024 ∧ 0 ≤ c ∧ c ≤ 1099511627776 ∧ M.length ≤ 8 ∧ (∀ k, k < S.length → okS S c k) ∧ ∀ i, i < j → okM S M i) (fun j => M.length - j) ?_ ?_
  · rintro j ⟨hj, a1, a2, a3, a4, a5, a6, a7⟩ ih
    refine (Classical.em ((↑j : Int) < (↑M.length : Int))).elim (fun hc1 => ?ga0) (fun hc1 => ?gb0)
    case' gb0 =>
      refine Safe.ends mixed Go.Proofs.Try.func13 7 [⟨1100, [(0, .tt false)]⟩, ⟨1200, []⟩] (r := I ((0 : Int))) (hp := [(1, .ro ((4 : Nat)) (S.length) (rowG encC S)), (2, .ro ((1 : Nat)) (M.length) (rowG encI M))]) (ob := [decide ((↑j : Int) < (↑M.length : Int)) = false]) rfl (by kernel_rfl) ⟨(decide_eq_false hc1), trivial⟩ ?_ ⟨ObLe.refl _, ObLe.refl _, trivial⟩ ⟨rfl, fun _ => rfl, rfl, fun _ => rfl, trivial⟩ rfl
    case' ga0 =>
      refine (Classical.em ((blkB (M.getD j default)) = true)).elim (fun hc2 => ?ga1) (fun hc2 => ?gb1)
      case' gb1 =>
        refine Safe.ends mixed Go.Proofs.Try.func13 15 [⟨1100, [(0, .tt true)]⟩, ⟨1200, []⟩, ⟨1300, [(1, .call [] (B false) [])]⟩, ⟨1400, []⟩] (r := I ((2 : Int))) (hp := [(1, .ro ((4 : Nat)) (S.length) (rowG encC S)), (2, .ro ((1 : Nat)) (M.length) (rowG encI M))]) (ob := [decide ((↑j : Int) < (↑M.length : Int)) = true, (0 : Int) ≤ (↑j : Int) ∧ (↑j : Int) < (↑M.length : Int), j < M.length, CallOK Try.prog (36 : Nat) ([] ++ [AV.val (Value.int IntKind.i64 (M.getD j default))] ++ []) [] (AV.val (Value.bool false)) []]) rfl (by kernel_rfl) ⟨(decide_eq_true hc1), (by omega), (by omega), (CallOK.isB (CallOK.ren (isBlock_any (M.getD j default)) [] [] rfl rfl rfl rfl trivial rfl trivial) (eq_false_of_ne_true hc2)), trivial⟩ ?_ ⟨ObLe.refl _, ObLe.refl _, trivial⟩ ⟨rfl, fun _ => rfl, rfl, fun _ => rfl, trivial⟩ rfl
      case' ga1 =>
        refine (Classical.em ((memI (seenR S S.length ++ List.take j M) (M.getD j default)) = true)).elim (fun hc3 => ?ga2) (fun hc3 => ?gb2)
        case' gb2 =>
          refine Safe.goto mixed 18 [⟨1100, [(0, .tt true)]⟩, ⟨1200, []⟩, ⟨1300, [(1, .call [] (B true) []), (6, .tt false)]⟩, ⟨1400, []⟩, ⟨1500, []⟩] [3, 86, 87, 88] [1, 2, 10] (todo' := loopAt Go.Proofs.Try.f13 1) (sl := slotsOf 103 [(3, .mp ((10 : Nat))), (86, .sl ((2 : Nat)) ((0 : Nat)) ((1 : Nat)) (M.length) (none)), (87, I ((↑M.length : Int))), (88, I ((↑j : Int) + (1 : Int)))]) (hp := [(1, .ro ((4 : Nat)) (S.length) (rowG encC S)), (2, .ro ((1 : Nat)) (M.length) (rowG encI M)), (10, .obj (MD.iset IntKind.i64 fun y => if y = M.getD j default then true else memI (seenR S S.length ++ List.take j M) y))]) (ob := [decide ((↑j : Int) < (↑M.length : Int)) = true, (0 : Int) ≤ (↑j : Int) ∧ (↑j : Int) < (↑M.length : Int), j < M.length, CallOK Try.prog (36 : Nat) ([] ++ [AV.val (Value.int IntKind.i64 (M.getD j default))] ++ []) [] (AV.val (Value.bool true)) [], memI (seenR S S.length ++ List.take j M) (M.getD j default) = false, inK IntKind.i64 ((↑j : Int) + (1 : Int))]) rfl rfl (by kernel_rfl) ⟨(decide_eq_true hc1), (by omega), (by omega), (CallOK.isB (CallOK.ren (isBlock_any (M.getD j default)) [] [] rfl rfl rfl rfl trivial rfl trivial) hc2), (by simpa using hc3), (by simp only [inK]; omega), trivial⟩ rfl ⟨rfl, fun _ => rfl, rfl, fun _ => rfl, rfl, trivial, trivial⟩ ?_
        case' ga2 =>
          refine Safe.ends mixed Go.Proofs.Try.func13 15 [⟨1100, [(0, .tt true)]⟩, ⟨1200, []⟩, ⟨1300, [(1, .call [] (B true) []), (6, .tt true)]⟩, ⟨1400, []⟩] (r := I ((2 : Int))) (hp := [(1, .ro ((4 : Nat)) (S.length) (rowG encC S)), (2, .ro ((1 : Nat)) (M.length) (rowG encI M))]) (ob := [decide ((↑j : Int) < (↑M.length : Int)) = true, (0 : Int) ≤ (↑j : Int) ∧ (↑j : Int) < (↑M.length : Int), j < M.length, CallOK Try.prog (36 : Nat) ([] ++ [AV.val (Value.int IntKind.i64 (M.getD j default))] ++ []) [] (AV.val (Value.bool true)) [], memI (seenR S S.length ++ List.take j M) (M.getD j default) = true]) rfl (by kernel_rfl) ⟨(decide_eq_true hc1), (by omega), (by omega), (CallOK.isB (CallOK.ren (isBlock_any (M.getD j default)) [] [] rfl rfl rfl rfl trivial rfl trivial) hc2), hc3, trivial⟩ ?_ ⟨ObLe.refl _, ObLe.refl _, trivial⟩ ⟨rfl, fun _ => rfl, rfl, fun _ => rfl, trivial⟩ rfl
    case ga2 => rw [valid_2 (fun h => (h.2.2.2.2.2.2 j (by omega)).2 (memI_iff.1 hc3))]; rfl
    case gb1 => rw [valid_2 (fun h => hc2 (h.2.2.2.2.2.2 j (by omega)).1)]; rfl
    case gb0 => rw [valid_0 ⟨a1, a2, a3, a4, a5, a6, fun i hi => a7 i (by omega)⟩]; rfl
    case gb2 =>
      have e1 : seenR S S.length ++ M.take (j + 1) = (seenR S S.length ++ M.take j) ++ [M.getD j default] := by
        rw [List.take_succ_eq_append_getElem (by omega), ← List.append_assoc, List.getD_eq_getElem?_getD, List.getElem?_eq_getElem (by omega)]; rfl
      refine Safe.leH (ih (j + 1) ⟨by omega, a1, a2, a3, a4, a5, a6, fun i hi => ?_⟩ (by omega)) rfl (SlLe.refl _) ⟨ObLe.refl _, ObLe.refl _, ⟨rfl, fun y => ?_⟩, trivial⟩ rfl ⟨rfl, fun _ => rfl, rfl, fun _ => rfl, rfl, trivial, trivial⟩
      · by_cases e : i = j
        · subst e; exact ⟨hc2, fun h => hc3 (memI_iff.2 h)⟩
        · exact a7 i (by omega)
      · rw [e1]; exact memI_app _ _ _
  · intro H2
    refine Safe.withLoop (loopAt Try.f13 0) [1, 2, 20, 10] 103 (fun k : Nat => [(1, .ptr 20 0 0 0), (3, .mp 10), (36, .sl 1 0 4 S.length none), (37, I S.length), (38, I k)]) (fun k => [(1, .ro 4 S.length (rowG encC S)), (2, .ro 1 M.length (rowG encI M)), (20, .blk 25 [.sl 1 0 4 S.length none, I c, .sl 2 0 1 M.length none]), (10, .obj (.iset .i64 (memI (seenR S k))))]) (fun k => k ≤ S.length ∧ 1 ≤ S.length ∧ S.length ≤ 1024 ∧ 0 ≤ c ∧ c ≤ 1099511627776 ∧ M.length ≤ 8 ∧ ∀ i, i < k → okS S c i) (fun k => S.length - k) ?_ ?_
    · rintro k ⟨hk, a1, a2, a3, a4, a5, a6⟩ ih
      refine (Classical.em ((↑k : Int) < (↑S.length : Int))).elim (fun hc1 => ?ga3) (fun hc1 => ?gb3)
      case' gb3 =>
        refine Safe.goto mixed 10 [⟨1100, [(0, .tt false)]⟩, ⟨1200, []⟩] [3, 86, 87, 88] [1, 2, 10] (todo' := loopAt Go.Proofs.Try.f13 1) (sl := slotsOf 103 [(3, .mp ((10 : Nat))), (86, .sl ((2 : Nat)) ((0 : Nat)) ((1 : Nat)) (M.length) (none)), (87, I ((↑M.length : Int))), (88, I ((0 : Int)))]) (hp := [(1, .ro ((4 : Nat)) (S.length) (rowG encC S)), (2, .ro ((1 : Nat)) (M.length) (rowG encI M)), (10, .obj (MD.iset IntKind.i64 (memI (seenR S k))))]) (ob := [decide ((↑k : Int) < (↑S.length : Int)) = false]) rfl rfl (by kernel_rfl) ⟨(decide_eq_false hc1), trivial⟩ rfl ⟨rfl, fun _ => rfl, rfl, fun _ => rfl, rfl, trivial, trivial⟩ ?_
      case' ga3 =>
        refine (Classical.em (((S.getD k default).valid) = true)).elim (fun hc2 => ?ga4) (fun hc2 => ?gb4)
        case' gb4 =>
          refine (Classical.em ((!((S.getD k default).valid == false && ((S.getD k default).dirty == false && (decide ((S.getD k default).block = (0 : Int)) && (decide ((S.getD k default).stamp = (0 : Int)) && true))))) = true)).elim (fun hc3 => ?ga9) (fun hc3 => ?gb9)
          case' gb9 =>
            refine Safe.goto mixed 24 [⟨1100, [(0, .tt true)]⟩, ⟨1200, []⟩, ⟨1300, [(1, .tt false), (6, .tt false)]⟩, ⟨1400, [(1, .tt false)]⟩, ⟨1500, [(1, .tt false)]⟩, ⟨1600, []⟩] [1, 3, 36, 37, 38] [1, 2, 20, 10] (todo' := loopAt Go.Proofs.Try.f13 0) (sl := slotsOf 103 [(1, .ptr ((20 : Nat)) ((0 : Nat)) ((0 : Nat)) ((0 : Nat))), (3, .mp ((10 : Nat))), (36, .sl ((1 : Nat)) ((0 : Nat)) ((4 : Nat)) (S.length) (none)), (37, I ((↑S.length : Int))), (38, I ((↑k : Int) + (1 : Int)))]) (hp := [(1, .ro ((4 : Nat)) (S.length) (rowG encC S)), (2, .ro ((1 : Nat)) (M.length) (rowG encI M)), (20, .blk ((25 : Nat)) [.sl ((1 : Nat)) ((0 : Nat)) ((4 : Nat)) (S.length) (none), I (c), .sl ((2 : Nat)) ((0 : Nat)) ((1 : Nat)) (M.length) (none)]), (10, .obj (MD.iset IntKind.i64 (memI (seenR S k))))]) (ob := [decide ((↑k : Int) < (↑S.length : Int)) = true, (0 : Int) ≤ (↑k : Int) ∧ (↑k : Int) < (↑S.length : Int), k < S.length, (S.getD k default).valid = false, (!((S.getD k default).valid == false && ((S.getD k default).dirty == false && (decide ((S.getD k default).block = (0 : Int)) && (decide ((S.getD k default).stamp = (0 : Int)) && true))))) = false, (S.getD k default).valid = false, (S.getD k default).valid = false, inK IntKind.i64 ((↑k : Int) + (1 : Int))]) rfl rfl (by kernel_rfl) ⟨(decide_eq_true hc1), (by omega), (by omega), (by simpa using hc2), (by simpa using hc3), (by simpa using hc2), (by simpa using hc2), (by simp only [inK]; omega), trivial⟩ rfl ⟨rfl, fun _ => rfl, rfl, fun _ => rfl, rfl, rfl, rfl, trivial, trivial⟩ ?_
          case' ga9 =>
            refine Safe.ends mixed Go.Proofs.Try.func13 15 [⟨1100, [(0, .tt true)]⟩, ⟨1200, []⟩, ⟨1300, [(1, .tt false), (6, .tt true)]⟩, ⟨1400, []⟩] (r := I ((2 : Int))) (hp := [(1, .ro ((4 : Nat)) (S.length) (rowG encC S)), (2, .ro ((1 : Nat)) (M.length) (rowG encI M))]) (ob := [decide ((↑k : Int) < (↑S.length : Int)) = true, (0 : Int) ≤ (↑k : Int) ∧ (↑k : Int) < (↑S.length : Int), k < S.length, (S.getD k default).valid = false, (!((S.getD k default).valid == false && ((S.getD k default).dirty == false && (decide ((S.getD k default).block = (0 : Int)) && (decide ((S.getD k default).stamp = (0 : Int)) && true))))) = true]) rfl (by kernel_rfl) ⟨(decide_eq_true hc1), (by omega), (by omega), (by simpa using hc2), hc3, trivial⟩ ?_ ⟨ObLe.refl _, ObLe.refl _, trivial⟩ ⟨rfl, fun _ => rfl, rfl, fun _ => rfl, trivial⟩ rfl
        case' ga4 =>
          refine (Classical.em ((blkB (S.getD k default).block) = true)).elim (fun hc3 => ?ga5) (fun hc3 => ?gb5)
          case' gb5 =>
            refine Safe.ends mixed Go.Proofs.Try.func13 18 [⟨1100, [(0, .tt true)]⟩, ⟨1200, []⟩, ⟨1300, [(1, .tt true)]⟩, ⟨1400, [(1, .tt true), (5, .call [] (B false) [])]⟩, ⟨1500, []⟩] (r := I ((2 : Int))) (hp := [(1, .ro ((4 : Nat)) (S.length) (rowG encC S)), (2, .ro ((1 : Nat)) (M.length) (rowG encI M))]) (ob := [decide ((↑k : Int) < (↑S.length : Int)) = true, (0 : Int) ≤ (↑k : Int) ∧ (↑k : Int) < (↑S.length : Int), k < S.length, (S.getD k default).valid = true, (S.getD k default).valid = true, CallOK Try.prog (36 : Nat) ([] ++ [AV.val (Value.int IntKind.i64 (S.getD k default).block)] ++ []) [] (AV.val (Value.bool false)) []]) rfl (by kernel_rfl) ⟨(decide_eq_true hc1), (by omega), (by omega), hc2, hc2, (CallOK.isB (CallOK.ren (isBlock_any ((S.getD k default).block)) [] [] rfl rfl rfl rfl trivial rfl trivial) (eq_false_of_ne_true hc3)), trivial⟩ ?_ ⟨ObLe.refl _, ObLe.refl _, trivial⟩ ⟨rfl, fun _ => rfl, rfl, fun _ => rfl, trivial⟩ rfl
          case' ga5 =>
            refine (Classical.em ((S.getD k default).stamp < (0 : Int))).elim (fun hc4 => ?ga6) (fun hc4 => ?gb6)
            case' gb6 =>
              refine (Classical.em ((S.getD k default).stamp > c)).elim (fun hc5 => ?ga7) (fun hc5 => ?gb7)
              case' gb7 =>
                refine (Classical.em ((memI (seenR S k) (S.getD k default).block) = true)).elim (fun hc6 => ?ga8) (fun hc6 => ?gb8)
                case' gb8 =>
                  refine Safe.goto mixed 24 [⟨1100, [(0, .tt true)]⟩, ⟨1200, []⟩, ⟨1300, [(1, .tt true)]⟩, ⟨1400, [(1, .tt true), (5, .call [] (B true) []), (10, .tt false), (17, .tt false), (23, .tt false)]⟩, ⟨1500, [(1, .tt true)]⟩, ⟨1600, []⟩, ⟨1700, []⟩] [1, 3, 36, 37, 38] [1, 2, 20, 10] (todo' := loopAt Go.Proofs.Try.f13 0) (sl := slotsOf 103 [(1, .ptr ((20 : Nat)) ((0 : Nat)) ((0 : Nat)) ((0 : Nat))), (3, .mp ((10 : Nat))), (36, .sl ((1 : Nat)) ((0 : Nat)) ((4 : Nat)) (S.length) (none)), (37, I ((↑S.length : Int))), (38, I ((↑k : Int) + (1 : Int)))]) (hp := [(1, .ro ((4 : Nat)) (S.length) (rowG encC S)), (2, .ro ((1 : Nat)) (M.length) (rowG encI M)), (20, .blk ((25 : Nat)) [.sl ((1 : Nat)) ((0 : Nat)) ((4 : Nat)) (S.length) (none), I (c), .sl ((2 : Nat)) ((0 : Nat)) ((1 : Nat)) (M.length) (none)]), (10, .obj (MD.iset IntKind.i64 fun y => if y = (S.getD k default).block then true else memI (seenR S k) y))]) (ob := [decide ((↑k : Int) < (↑S.length : Int)) = true, (0 : Int) ≤ (↑k : Int) ∧ (↑k : Int) < (↑S.length : Int), k < S.length, (S.getD k default).valid = true, (S.getD k default).valid = true, CallOK Try.prog (36 : Nat) ([] ++ [AV.val (Value.int IntKind.i64 (S.getD k default).block)] ++ []) [] (AV.val (Value.bool true)) [], decide ((S.getD k default).stamp < (0 : Int)) = false, decide ((S.getD k default).stamp > c) = false, memI (seenR S k) (S.getD k default).block = false, (S.getD k default).valid = true, inK IntKind.i64 ((↑k : Int) + (1 : Int))]) rfl rfl (by kernel_rfl) ⟨(decide_eq_true hc1), (by omega), (by omega), hc2, hc2, (CallOK.isB (CallOK.ren (isBlock_any ((S.getD k default).block)) [] [] rfl rfl rfl rfl trivial rfl trivial) hc3), (decide_eq_false hc4), (decide_eq_false hc5), (by simpa using hc6), hc2, (by simp only [inK]; omega), trivial⟩ rfl ⟨rfl, fun _ => rfl, rfl, fun _ => rfl, rfl, rfl, rfl, trivial, trivial⟩ ?_
                case' ga8 =>
                  refine Safe.ends mixed Go.Proofs.Try.func13 18 [⟨1100, [(0, .tt true)]⟩, ⟨1200, []⟩, ⟨1300, [(1, .tt true)]⟩, ⟨1400, [(1, .tt true), (5, .call [] (B true) []), (10, .tt false), (17, .tt false), (23, .tt true)]⟩, ⟨1500, []⟩] (r := I ((2 : Int))) (hp := [(1, .ro ((4 : Nat)) (S.length) (rowG encC S)), (2, .ro ((1 : Nat)) (M.length) (rowG encI M))]) (ob := [decide ((↑k : Int) < (↑S.length : Int)) = true, (0 : Int) ≤ (↑k : Int) ∧ (↑k : Int) < (↑S.length : Int), k < S.length, (S.getD k default).valid = true, (S.getD k default).valid = true, CallOK Try.prog (36 : Nat) ([] ++ [AV.val (Value.int IntKind.i64 (S.getD k default).block)] ++ []) [] (AV.val (Value.bool true)) [], decide ((S.getD k default).stamp < (0 : Int)) = false, decide ((S.getD k default).stamp > c) = false, memI (seenR S k) (S.getD k default).block = true]) rfl (by kernel_rfl) ⟨(decide_eq_true hc1), (by omega), (by omega), hc2, hc2, (CallOK.isB (CallOK.ren (isBlock_any ((S.getD k default).block)) [] [] rfl rfl rfl rfl trivial rfl trivial) hc3), (decide_eq_false hc4), (decide_eq_false hc5), hc6, trivial⟩ ?_ ⟨ObLe.refl _, ObLe.refl _, trivial⟩ ⟨rfl, fun _ => rfl, rfl, fun _ => rfl, trivial⟩ rfl
              case' ga7 =>
                refine Safe.ends mixed Go.Proofs.Try.func13 18 [⟨1100, [(0, .tt true)]⟩, ⟨1200, []⟩, ⟨1300, [(1, .tt true)]⟩, ⟨1400, [(1, .tt true), (5, .call [] (B true) []), (10, .tt false), (17, .tt true)]⟩, ⟨1500, []⟩] (r := I ((2 : Int))) (hp := [(1, .ro ((4 : Nat)) (S.length) (rowG encC S)), (2, .ro ((1 : Nat)) (M.length) (rowG encI M))]) (ob := [decide ((↑k : Int) < (↑S.length : Int)) = true, (0 : Int) ≤ (↑k : Int) ∧ (↑k : Int) < (↑S.length : Int), k < S.length, (S.getD k default).valid = true, (S.getD k default).valid = true, CallOK Try.prog (36 : Nat) ([] ++ [AV.val (Value.int IntKind.i64 (S.getD k default).block)] ++ []) [] (AV.val (Value.bool true)) [], decide ((S.getD k default).stamp < (0 : Int)) = false, decide ((S.getD k default).stamp > c) = true]) rfl (by kernel_rfl) ⟨(decide_eq_true hc1), (by omega), (by omega), hc2, hc2, (CallOK.isB (CallOK.ren (isBlock_any ((S.getD k default).block)) [] [] rfl rfl rfl rfl trivial rfl trivial) hc3), (decide_eq_false hc4), (decide_eq_true hc5), trivial⟩ ?_ ⟨ObLe.refl _, ObLe.refl _, trivial⟩ ⟨rfl, fun _ => rfl, rfl, fun _ => rfl, trivial⟩ rfl
            case' ga6 =>
              refine Safe.ends mixed Go.Proofs.Try.func13 18 [⟨1100, [(0, .tt true)]⟩, ⟨1200, []⟩, ⟨1300, [(1, .tt true)]⟩, ⟨1400, [(1, .tt true), (5, .call [] (B true) []), (10, .tt true)]⟩, ⟨1500, []⟩] (r := I ((2 : Int))) (hp := [(1, .ro ((4 : Nat)) (S.length) (rowG encC S)), (2, .ro ((1 : Nat)) (M.length) (rowG encI M))]) (ob := [decide ((↑k : Int) < (↑S.length : Int)) = true, (0 : Int) ≤ (↑k : Int) ∧ (↑k : Int) < (↑S.length : Int), k < S.length, (S.getD k default).valid = true, (S.getD k default).valid = true, CallOK Try.prog (36 : Nat) ([] ++ [AV.val (Value.int IntKind.i64 (S.getD k default).block)] ++ []) [] (AV.val (Value.bool true)) [], decide ((S.getD k default).stamp < (0 : Int)) = true]) rfl (by kernel_rfl) ⟨(decide_eq_true hc1), (by omega), (by omega), hc2, hc2, (CallOK.isB (CallOK.ren (isBlock_any ((S.getD k default).block)) [] [] rfl rfl rfl rfl trivial rfl trivial) hc3), (decide_eq_true hc4), trivial⟩ ?_ ⟨ObLe.refl _, ObLe.refl _, trivial⟩ ⟨rfl, fun _ => rfl, rfl, fun _ => rfl, trivial⟩ rfl
      case ga6 => rw [valid_2 (fun h => by have := ((h.2.2.2.2.2.1 k (by omega)).2 hc2).2.1; omega)]; rfl
      case ga7 => rw [valid_2 (fun h => by have := ((h.2.2.2.2.2.1 k (by omega)).2 hc2).2.2.1; omega)]; rfl
      case ga8 => rw [valid_2 (fun h => ((h.2.2.2.2.2.1 k (by omega)).2 hc2).2.2.2 (memI_iff.1 hc6))]; rfl
      case gb5 => rw [valid_2 (fun h => hc3 ((h.2.2.2.2.2.1 k (by omega)).2 hc2).1)]; rfl
      case ga9 => rw [valid_2 (fun h => by
          have := (zeroB _).2 ((h.2.2.2.2.2.1 k (by omega)).1 (by simpa using hc2))
          rw [this] at hc3
          cases hc3)]; rfl
      case gb8 =>
        have e1 : seenR S (k + 1) = seenR S k ++ [(S.getD k default).block] := by rw [seenR, if_pos hc2]
        refine Safe.leH (ih (k + 1) ⟨by omega, a1, a2, a3, a4, a5, fun i hi => ?_⟩ (by omega)) rfl (SlLe.refl _) ⟨ObLe.refl _, ObLe.refl _, ObLe.refl _, ⟨rfl, fun y => ?_⟩, trivial⟩ rfl ⟨rfl, fun _ => rfl, rfl, fun _ => rfl, rfl, rfl, rfl, trivial, trivial⟩
        · by_cases e : i = k
          · subst e; exact ⟨fun h => (by rw [hc2] at h; cases h), fun _ => ⟨hc3, by omega, by omega, fun h => hc6 (memI_iff.2 h)⟩⟩
          · exact a6 i (by omega)
        · rw [e1]; exact memI_app _ _ _
      case gb9 =>
        have e1 : seenR S (k + 1) = seenR S k := by rw [seenR, if_neg hc2]
        have hh := ih (k + 1) ⟨by omega, a1, a2, a3, a4, a5, fun i hi => by
          by_cases e : i = k
          · subst e; exact ⟨fun _ => (zeroB _).1 (by simpa using hc3), fun h => absurd h hc2⟩
          · exact a6 i (by omega)⟩ (by omega)
        rw [e1] at hh
        exact hh
      case gb3 =>
        obtain rfl : k = S.length := by omega
        have hh := H2 0 ⟨Nat.zero_le _, a1, a2, a3, a4, a5, fun i hi => a6 i (by omega), fun i hi => by omega⟩
        rw [List.take_zero, List.append_nil] at hh
        exact hh
    · intro H1
      refine (Classical.em ((↑S.length : Int) < (1 : Int))).elim (fun hc1 => ?ga10) (fun hc1 => ?gb10)
      case' gb10 =>
        refine (Classical.em ((↑S.length : Int) > (1024 : Int))).elim (fun hc2 => ?ga11) (fun hc2 => ?gb11)
        case' gb11 =>
          refine (Classical.em (c < (0 : Int))).elim (fun hc3 => ?ga12) (fun hc3 => ?gb12)
          case' gb12 =>
            refine (Classical.em (c > (1099511627776 : Int))).elim (fun hc4 => ?ga13) (fun hc4 => ?gb13)
            case' gb13 =>
              refine (Classical.em ((↑M.length : Int) > (8 : Int))).elim (fun hc5 => ?ga14) (fun hc5 => ?gb14)
              case' gb14 =>
                refine Safe.goto mixed 14 [⟨1100, []⟩, ⟨1200, [(3, .tt false), (8, .tt false), (13, .tt false), (18, .tt false), (24, .tt false)]⟩, ⟨1300, []⟩, ⟨1400, []⟩] [1, 3, 36, 37, 38] [1, 2, 1100, 1300] (todo' := loopAt Go.Proofs.Try.f13 0) (sl := slotsOf 103 [(1, .ptr ((1100 : Nat)) ((0 : Nat)) ((0 : Nat)) ((0 : Nat))), (3, .mp ((1300 : Nat))), (36, .sl ((1 : Nat)) ((0 : Nat)) ((4 : Nat)) (S.length) (none)), (37, I ((↑S.length : Int))), (38, I ((0 : Int)))]) (hp := [(1, .ro ((4 : Nat)) (S.length) (rowG encC S)), (2, .ro ((1 : Nat)) (M.length) (rowG encI M)), (1100, .blk ((25 : Nat)) [.sl ((1 : Nat)) ((0 : Nat)) ((4 : Nat)) (S.length) (none), I (c), .sl ((2 : Nat)) ((0 : Nat)) ((1 : Nat)) (M.length) (none)]), (1300, .obj (MD.iset IntKind.i64 fun x => false))]) (ob := [decide ((↑S.length : Int) < (1 : Int)) = false, decide ((↑S.length : Int) > (1024 : Int)) = false, decide (c < (0 : Int)) = false, decide (c > (1099511627776 : Int)) = false, decide ((↑M.length : Int) > (8 : Int)) = false]) rfl rfl (by kernel_rfl) ⟨(decide_eq_false hc1), (decide_eq_false hc2), (decide_eq_false hc3), (decide_eq_false hc4), (decide_eq_false hc5), trivial⟩ rfl ⟨rfl, fun _ => rfl, rfl, fun _ => rfl, rfl, rfl, rfl, trivial, trivial⟩ ?_
                refine Safe.ren [(1100, 20), (1300, 10)] rfl rfl rfl rfl ⟨rfl, fun _ => rfl, rfl, fun _ => rfl, rfl, rfl, rfl, trivial, trivial⟩ ?_
              case' ga14 =>
                refine Safe.ends mixed Go.Proofs.Try.func13 8 [⟨1100, []⟩, ⟨1200, [(3, .tt false), (8, .tt false), (13, .tt false), (18, .tt false), (24, .tt true)]⟩, ⟨1300, []⟩] (r := I ((2 : Int))) (hp := [(1, .ro ((4 : Nat)) (S.length) (rowG encC S)), (2, .ro ((1 : Nat)) (M.length) (rowG encI M))]) (ob := [decide ((↑S.length : Int) < (1 : Int)) = false, decide ((↑S.length : Int) > (1024 : Int)) = false, decide (c < (0 : Int)) = false, decide (c > (1099511627776 : Int)) = false, decide ((↑M.length : Int) > (8 : Int)) = true]) rfl (by kernel_rfl) ⟨(decide_eq_false hc1), (decide_eq_false hc2), (decide_eq_false hc3), (decide_eq_false hc4), (decide_eq_true hc5), trivial⟩ ?_ ⟨ObLe.refl _, ObLe.refl _, trivial⟩ ⟨rfl, fun _ => rfl, rfl, fun _ => rfl, trivial⟩ rfl
            case' ga13 =>
              refine Safe.ends mixed Go.Proofs.Try.func13 8 [⟨1100, []⟩, ⟨1200, [(3, .tt false), (8, .tt false), (13, .tt false), (18, .tt true)]⟩, ⟨1300, []⟩] (r := I ((2 : Int))) (hp := [(1, .ro ((4 : Nat)) (S.length) (rowG encC S)), (2, .ro ((1 : Nat)) (M.length) (rowG encI M))]) (ob := [decide ((↑S.length : Int) < (1 : Int)) = false, decide ((↑S.length : Int) > (1024 : Int)) = false, decide (c < (0 : Int)) = false, decide (c > (1099511627776 : Int)) = true]) rfl (by kernel_rfl) ⟨(decide_eq_false hc1), (decide_eq_false hc2), (decide_eq_false hc3), (decide_eq_true hc4), trivial⟩ ?_ ⟨ObLe.refl _, ObLe.refl _, trivial⟩ ⟨rfl, fun _ => rfl, rfl, fun _ => rfl, trivial⟩ rfl
          case' ga12 =>
            refine Safe.ends mixed Go.Proofs.Try.func13 8 [⟨1100, []⟩, ⟨1200, [(3, .tt false), (8, .tt false), (13, .tt true)]⟩, ⟨1300, []⟩] (r := I ((2 : Int))) (hp := [(1, .ro ((4 : Nat)) (S.length) (rowG encC S)), (2, .ro ((1 : Nat)) (M.length) (rowG encI M))]) (ob := [decide ((↑S.length : Int) < (1 : Int)) = false, decide ((↑S.length : Int) > (1024 : Int)) = false, decide (c < (0 : Int)) = true]) rfl (by kernel_rfl) ⟨(decide_eq_false hc1), (decide_eq_false hc2), (decide_eq_true hc3), trivial⟩ ?_ ⟨ObLe.refl _, ObLe.refl _, trivial⟩ ⟨rfl, fun _ => rfl, rfl, fun _ => rfl, trivial⟩ rfl
        case' ga11 =>
          refine Safe.ends mixed Go.Proofs.Try.func13 8 [⟨1100, []⟩, ⟨1200, [(3, .tt false), (8, .tt true)]⟩, ⟨1300, []⟩] (r := I ((2 : Int))) (hp := [(1, .ro ((4 : Nat)) (S.length) (rowG encC S)), (2, .ro ((1 : Nat)) (M.length) (rowG encI M))]) (ob := [decide ((↑S.length : Int) < (1 : Int)) = false, decide ((↑S.length : Int) > (1024 : Int)) = true]) rfl (by kernel_rfl) ⟨(decide_eq_false hc1), (decide_eq_true hc2), trivial⟩ ?_ ⟨ObLe.refl _, ObLe.refl _, trivial⟩ ⟨rfl, fun _ => rfl, rfl, fun _ => rfl, trivial⟩ rfl
      case' ga10 =>
        refine Safe.ends mixed Go.Proofs.Try.func13 8 [⟨1100, []⟩, ⟨1200, [(3, .tt true)]⟩, ⟨1300, []⟩] (r := I ((2 : Int))) (hp := [(1, .ro ((4 : Nat)) (S.length) (rowG encC S)), (2, .ro ((1 : Nat)) (M.length) (rowG encI M))]) (ob := [decide ((↑S.length : Int) < (1 : Int)) = true]) rfl (by kernel_rfl) ⟨(decide_eq_true hc1), trivial⟩ ?_ ⟨ObLe.refl _, ObLe.refl _, trivial⟩ ⟨rfl, fun _ => rfl, rfl, fun _ => rfl, trivial⟩ rfl
      · rw [valid_2 (fun h => by have := h.1; omega)]; rfl
      · rw [valid_2 (fun h => by have := h.2.1; omega)]; rfl
      · rw [valid_2 (fun h => by have := h.2.2.1; omega)]; rfl
      · rw [valid_2 (fun h => by have := h.2.2.2.1; omega)]; rfl
      · rw [valid_2 (fun h => by have := h.2.2.2.2.1; omega)]; rfl
      · exact Safe.leH (H1 0 ⟨Nat.zero_le _, by omega, by omega, by omega, by omega, by omega, fun i hi => by omega⟩) rfl (SlLe.refl _) ⟨ObLe.refl _, ObLe.refl _, ObLe.refl _, ⟨rfl, fun y => by simp [memI, seenR]⟩, trivial⟩ rfl ⟨rfl, fun _ => rfl, rfl, fun _ => rfl, rfl, rfl, rfl, trivial, trivial⟩
end Go.Proofs.Ytebejfmodiionaa
