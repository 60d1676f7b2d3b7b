/- Victim, Oldest, New, forget. -/
import Derived.Test.YtebejfmodiionaaSyX
import Derived.KernelRfl
import Derived.Test.YtebejfmodiionaaU6
namespace Go.Proofs.Ytebejfmodiionaa
open Go.RowKit
set_option linter.unusedVariables false
set_option linter.unnecessarySimpa false
theorem valid_cases (S : List Sl) (c : Int) (M : List Int) : validF S c M = 0 ∨ validF S c M = 2 := by
  unfold validF; split <;> simp
/-- the slot that is used next -/
def vicF (S : List Sl) : Int := if 0 ≤ lst wE S then lst wE S else if 0 ≤ lst wC S then lst wC S else lst wD S
set_option maxRecDepth 10000 in
set_option maxHeartbeats 8000000 in
theorem victim_any (S : List Sl) (c : Int) (M : List Int) (hS : S.length ≤ 1000000) (hM : M.length ≤ 1000000) (hc : -9223372036854775808 ≤ c ∧ c ≤ 9223372036854775807) : CallOK Try.prog 22 [.agg [.sl 1 0 4 S.length none, I c, .sl 2 0 1 M.length none]] [(1, .ro 4 S.length (rowG encC S)), (2, .ro 1 M.length (rowG encI M))] (.tup [I (if validF S c M = 0 then vicF S else 0), I (validF S c M)]) [] := by
  refine CallOK.intro Try.call22 Try.func22 rfl rfl ⟨rfl, fun _ => rfl, rfl, fun _ => rfl, trivial⟩ ?_
  refine (Classical.em (¬validF S c M = (0 : Int))).elim (fun hc1 => ?ga0) (fun hc1 => ?gb0)
  case' gb0 =>
    refine (Classical.em (lst wE S ≥ (0 : Int))).elim (fun hc2 => ?ga1) (fun hc2 => ?gb1)
    case' gb1 =>
      refine (Classical.em (lst wC S ≥ (0 : Int))).elim (fun hc3 => ?ga2) (fun hc3 => ?gb2)
      case' gb2 =>
        refine Safe.ends mixed Go.Proofs.Try.func22 57 [⟨1100, []⟩, ⟨1200, [(1, .call [1, 2] (I (validF S c M)) [])]⟩, ⟨1300, [(1, .tt false)]⟩, ⟨1400, []⟩, ⟨1500, []⟩, ⟨1600, []⟩, ⟨1700, [(2, .call [1, 2] (I (lst wE S)) [])]⟩, ⟨1800, [(1, .tt false)]⟩, ⟨1900, []⟩, ⟨2000, []⟩, ⟨2100, []⟩, ⟨2200, [(2, .call [1, 2] (I (lst wC S)) [])]⟩, ⟨2300, [(1, .tt false)]⟩, ⟨2400, []⟩, ⟨2500, []⟩, ⟨2600, [(1, .call [1, 2] (I (lst wD S)) [])]⟩] (r := .tup [I (lst wD S), I ((0 : Int))]) (hp := [(1, .ro ((4 : Nat)) (S.length) (rowG encC S)), (2, .ro ((1 : Nat)) (M.length) (rowG encI M))]) (ob := [CallOK Try.prog (13 : Nat) ([] ++ [AV.agg [AV.sl (1 : Nat) (0 : Nat) (4 : Nat) S.length none, AV.val (Value.int IntKind.i64 c), AV.sl (2 : Nat) (0 : Nat) (1 : Nat) M.length none]] ++ []) [((1 : Nat), Ob.ro (4 : Nat) S.length (rowG encC S)), ((2 : Nat), Ob.ro (1 : Nat) M.length (rowG encI M))] (AV.val (Value.int IntKind.i64 (validF S c M))) [], (decide ¬validF S c M = (0 : Int)) = false, (0 : Int) ≤ (0 : Int) ∧ (0 : Int) < (↑(2 : Nat) : Int), (0 : Nat) < (2 : Nat), CallOK Try.prog (41 : Nat) ([] ++ [AV.agg [AV.sl (1 : Nat) (0 : Nat) (4 : Nat) S.length none, AV.val (Value.int IntKind.i64 c), AV.sl (2 : Nat) (0 : Nat) (1 : Nat) M.length none], AV.fn (Fn.func (44 : Nat)) [] []] ++ []) [((1 : Nat), Ob.ro (4 : Nat) S.length (rowG encC S)), ((2 : Nat), Ob.ro (1 : Nat) M.length (rowG encI M))] (AV.val (Value.int IntKind.i64 (lst wE S))) [], decide (lst wE S ≥ (0 : Int)) = false, inK IntKind.i64 ((0 : Int) + (1 : Int)), (0 : Int) ≤ (0 : Int) + (1 : Int) ∧ (0 : Int) + (1 : Int) < (↑(2 : Nat) : Int), (1 : Nat) < (2 : Nat), CallOK Try.prog (41 : Nat) ([] ++ [AV.agg [AV.sl (1 : Nat) (0 : Nat) (4 : Nat) S.length none, AV.val (Value.int IntKind.i64 c), AV.sl (2 : Nat) (0 : Nat) (1 : Nat) M.length none], AV.fn (Fn.func (45 : Nat)) [] []] ++ []) [((1 : Nat), Ob.ro (4 : Nat) S.length (rowG encC S)), ((2 : Nat), Ob.ro (1 : Nat) M.length (rowG encI M))] (AV.val (Value.int IntKind.i64 (lst wC S))) [], decide (lst wC S ≥ (0 : Int)) = false, inK IntKind.i64 ((0 : Int) + (1 : Int) + (1 : Int)), CallOK Try.prog (41 : Nat) ([] ++ [AV.agg [AV.sl (1 : Nat) (0 : Nat) (4 : Nat) S.length none, AV.val (Value.int IntKind.i64 c), AV.sl (2 : Nat) (0 : Nat) (1 : Nat) M.length none], AV.fn (Fn.func (42 : Nat)) [] []] ++ []) [((1 : Nat), Ob.ro (4 : Nat) S.length (rowG encC S)), ((2 : Nat), Ob.ro (1 : Nat) M.length (rowG encI M))] (AV.val (Value.int IntKind.i64 (lst wD S))) []]) rfl (by kernel_rfl) ⟨(CallOK.ren (valid_any (S) (c) (M) (by omega) (by omega) (by omega)) [(1, 1), (2, 2)] [1, 2] rfl rfl rfl rfl ⟨rfl, fun _ => rfl, rfl, fun _ => rfl, trivial⟩ rfl ⟨rfl, fun _ => rfl, rfl, fun _ => rfl, trivial⟩), (decide_eq_false hc1), (by omega), (by omega), (CallOK.ren (least_wE (S) (c) (M) (by omega)) [(1, 1), (2, 2)] [1, 2] rfl rfl rfl rfl ⟨rfl, fun _ => rfl, rfl, fun _ => rfl, trivial⟩ rfl ⟨rfl, fun _ => rfl, rfl, fun _ => rfl, trivial⟩), (decide_eq_false hc2), (by simp only [inK]; omega), (by omega), (by omega), (CallOK.ren (least_wC (S) (c) (M) (by omega)) [(1, 1), (2, 2)] [1, 2] rfl rfl rfl rfl ⟨rfl, fun _ => rfl, rfl, fun _ => rfl, trivial⟩ rfl ⟨rfl, fun _ => rfl, rfl, fun _ => rfl, trivial⟩), (decide_eq_false hc3), (by simp only [inK]; omega), (CallOK.ren (least_wD (S) (c) (M) (by omega)) [(1, 1), (2, 2)] [1, 2] rfl rfl rfl rfl ⟨rfl, fun _ => rfl, rfl, fun _ => rfl, trivial⟩ rfl ⟨rfl, fun _ => rfl, rfl, fun _ => rfl, trivial⟩), trivial⟩ ?_ ⟨ObLe.refl _, ObLe.refl _, trivial⟩ ⟨rfl, fun _ => rfl, rfl, fun _ => rfl, trivial⟩ rfl
      case' ga2 =>
        refine Safe.ends mixed Go.Proofs.Try.func22 48 [⟨1100, []⟩, ⟨1200, [(1, .call [1, 2] (I (validF S c M)) [])]⟩, ⟨1300, [(1, .tt false)]⟩, ⟨1400, []⟩, ⟨1500, []⟩, ⟨1600, []⟩, ⟨1700, [(2, .call [1, 2] (I (lst wE S)) [])]⟩, ⟨1800, [(1, .tt false)]⟩, ⟨1900, []⟩, ⟨2000, []⟩, ⟨2100, []⟩, ⟨2200, [(2, .call [1, 2] (I (lst wC S)) [])]⟩, ⟨2300, [(1, .tt true)]⟩, ⟨2400, []⟩] (r := .tup [I (lst wC S), I ((0 : Int))]) (hp := [(1, .ro ((4 : Nat)) (S.length) (rowG encC S)), (2, .ro ((1 : Nat)) (M.length) (rowG encI M))]) (ob := [CallOK Try.prog (13 : Nat) ([] ++ [AV.agg [AV.sl (1 : Nat) (0 : Nat) (4 : Nat) S.length none, AV.val (Value.int IntKind.i64 c), AV.sl (2 : Nat) (0 : Nat) (1 : Nat) M.length none]] ++ []) [((1 : Nat), Ob.ro (4 : Nat) S.length (rowG encC S)), ((2 : Nat), Ob.ro (1 : Nat) M.length (rowG encI M))] (AV.val (Value.int IntKind.i64 (validF S c M))) [], (decide ¬validF S c M = (0 : Int)) = false, (0 : Int) ≤ (0 : Int) ∧ (0 : Int) < (↑(2 : Nat) : Int), (0 : Nat) < (2 : Nat), CallOK Try.prog (41 : Nat) ([] ++ [AV.agg [AV.sl (1 : Nat) (0 : Nat) (4 : Nat) S.length none, AV.val (Value.int IntKind.i64 c), AV.sl (2 : Nat) (0 : Nat) (1 : Nat) M.length none], AV.fn (Fn.func (44 : Nat)) [] []] ++ []) [((1 : Nat), Ob.ro (4 : Nat) S.length (rowG encC S)), ((2 : Nat), Ob.ro (1 : Nat) M.length (rowG encI M))] (AV.val (Value.int IntKind.i64 (lst wE S))) [], decide (lst wE S ≥ (0 : Int)) = false, inK IntKind.i64 ((0 : Int) + (1 : Int)), (0 : Int) ≤ (0 : Int) + (1 : Int) ∧ (0 : Int) + (1 : Int) < (↑(2 : Nat) : Int), (1 : Nat) < (2 : Nat), CallOK Try.prog (41 : Nat) ([] ++ [AV.agg [AV.sl (1 : Nat) (0 : Nat) (4 : Nat) S.length none, AV.val (Value.int IntKind.i64 c), AV.sl (2 : Nat) (0 : Nat) (1 : Nat) M.length none], AV.fn (Fn.func (45 : Nat)) [] []] ++ []) [((1 : Nat), Ob.ro (4 : Nat) S.length (rowG encC S)), ((2 : Nat), Ob.ro (1 : Nat) M.length (rowG encI M))] (AV.val (Value.int IntKind.i64 (lst wC S))) [], decide (lst wC S ≥ (0 : Int)) = true]) rfl (by kernel_rfl) ⟨(CallOK.ren (valid_any (S) (c) (M) (by omega) (by omega) (by omega)) [(1, 1), (2, 2)] [1, 2] rfl rfl rfl rfl ⟨rfl, fun _ => rfl, rfl, fun _ => rfl, trivial⟩ rfl ⟨rfl, fun _ => rfl, rfl, fun _ => rfl, trivial⟩), (decide_eq_false hc1), (by omega), (by omega), (CallOK.ren (least_wE (S) (c) (M) (by omega)) [(1, 1), (2, 2)] [1, 2] rfl rfl rfl rfl ⟨rfl, fun _ => rfl, rfl, fun _ => rfl, trivial⟩ rfl ⟨rfl, fun _ => rfl, rfl, fun _ => rfl, trivial⟩), (decide_eq_false hc2), (by simp only [inK]; omega), (by omega), (by omega), (CallOK.ren (least_wC (S) (c) (M) (by omega)) [(1, 1), (2, 2)] [1, 2] rfl rfl rfl rfl ⟨rfl, fun _ => rfl, rfl, fun _ => rfl, trivial⟩ rfl ⟨rfl, fun _ => rfl, rfl, fun _ => rfl, trivial⟩), (decide_eq_true hc3), trivial⟩ ?_ ⟨ObLe.refl _, ObLe.refl _, trivial⟩ ⟨rfl, fun _ => rfl, rfl, fun _ => rfl, trivial⟩ rfl
    case' ga1 =>
      refine Safe.ends mixed Go.Proofs.Try.func22 30 [⟨1100, []⟩, ⟨1200, [(1, .call [1, 2] (I (validF S c M)) [])]⟩, ⟨1300, [(1, .tt false)]⟩, ⟨1400, []⟩, ⟨1500, []⟩, ⟨1600, []⟩, ⟨1700, [(2, .call [1, 2] (I (lst wE S)) [])]⟩, ⟨1800, [(1, .tt true)]⟩, ⟨1900, []⟩] (r := .tup [I (lst wE S), I ((0 : Int))]) (hp := [(1, .ro ((4 : Nat)) (S.length) (rowG encC S)), (2, .ro ((1 : Nat)) (M.length) (rowG encI M))]) (ob := [CallOK Try.prog (13 : Nat) ([] ++ [AV.agg [AV.sl (1 : Nat) (0 : Nat) (4 : Nat) S.length none, AV.val (Value.int IntKind.i64 c), AV.sl (2 : Nat) (0 : Nat) (1 : Nat) M.length none]] ++ []) [((1 : Nat), Ob.ro (4 : Nat) S.length (rowG encC S)), ((2 : Nat), Ob.ro (1 : Nat) M.length (rowG encI M))] (AV.val (Value.int IntKind.i64 (validF S c M))) [], (decide ¬validF S c M = (0 : Int)) = false, (0 : Int) ≤ (0 : Int) ∧ (0 : Int) < (↑(2 : Nat) : Int), (0 : Nat) < (2 : Nat), CallOK Try.prog (41 : Nat) ([] ++ [AV.agg [AV.sl (1 : Nat) (0 : Nat) (4 : Nat) S.length none, AV.val (Value.int IntKind.i64 c), AV.sl (2 : Nat) (0 : Nat) (1 : Nat) M.length none], AV.fn (Fn.func (44 : Nat)) [] []] ++ []) [((1 : Nat), Ob.ro (4 : Nat) S.length (rowG encC S)), ((2 : Nat), Ob.ro (1 : Nat) M.length (rowG encI M))] (AV.val (Value.int IntKind.i64 (lst wE S))) [], decide (lst wE S ≥ (0 : Int)) = true]) rfl (by kernel_rfl) ⟨(CallOK.ren (valid_any (S) (c) (M) (by omega) (by omega) (by omega)) [(1, 1), (2, 2)] [1, 2] rfl rfl rfl rfl ⟨rfl, fun _ => rfl, rfl, fun _ => rfl, trivial⟩ rfl ⟨rfl, fun _ => rfl, rfl, fun _ => rfl, trivial⟩), (decide_eq_false hc1), (by omega), (by omega), (CallOK.ren (least_wE (S) (c) (M) (by omega)) [(1, 1), (2, 2)] [1, 2] rfl rfl rfl rfl ⟨rfl, fun _ => rfl, rfl, fun _ => rfl, trivial⟩ rfl ⟨rfl, fun _ => rfl, rfl, fun _ => rfl, trivial⟩), (decide_eq_true hc2), trivial⟩ ?_ ⟨ObLe.refl _, ObLe.refl _, trivial⟩ ⟨rfl, fun _ => rfl, rfl, fun _ => rfl, trivial⟩ rfl
  case' ga0 =>
    refine Safe.ends mixed Go.Proofs.Try.func22 10 [⟨1100, []⟩, ⟨1200, [(1, .call [1, 2] (I (validF S c M)) [])]⟩, ⟨1300, [(1, .tt true)]⟩, ⟨1400, []⟩] (r := .tup [I ((0 : Int)), I (validF S c M)]) (hp := [(1, .ro ((4 : Nat)) (S.length) (rowG encC S)), (2, .ro ((1 : Nat)) (M.length) (rowG encI M))]) (ob := [CallOK Try.prog (13 : Nat) ([] ++ [AV.agg [AV.sl (1 : Nat) (0 : Nat) (4 : Nat) S.length none, AV.val (Value.int IntKind.i64 c), AV.sl (2 : Nat) (0 : Nat) (1 : Nat) M.length none]] ++ []) [((1 : Nat), Ob.ro (4 : Nat) S.length (rowG encC S)), ((2 : Nat), Ob.ro (1 : Nat) M.length (rowG encI M))] (AV.val (Value.int IntKind.i64 (validF S c M))) [], (decide ¬validF S c M = (0 : Int)) = true]) rfl (by kernel_rfl) ⟨(CallOK.ren (valid_any (S) (c) (M) (by omega) (by omega) (by omega)) [(1, 1), (2, 2)] [1, 2] rfl rfl rfl rfl ⟨rfl, fun _ => rfl, rfl, fun _ => rfl, trivial⟩ rfl ⟨rfl, fun _ => rfl, rfl, fun _ => rfl, trivial⟩), (decide_eq_true hc1), trivial⟩ ?_ ⟨ObLe.refl _, ObLe.refl _, trivial⟩ ⟨rfl, fun _ => rfl, rfl, fun _ => rfl, trivial⟩ rfl
  · show AV.tup _ = AV.tup _
    rw [if_neg hc1]
  · have e := Classical.not_not.1 hc1
    show AV.tup _ = AV.tup _
    rw [if_pos e, e, vicF, if_pos hc2]
  · have e := Classical.not_not.1 hc1
    show AV.tup _ = AV.tup _
    rw [if_pos e, e, vicF, if_neg hc2, if_pos hc3]
  · have e := Classical.not_not.1 hc1
    show AV.tup _ = AV.tup _
    rw [if_pos e, e, vicF, if_neg hc2, if_neg hc3]
set_option maxRecDepth 10000 in
set_option maxHeartbeats 8000000 in
theorem oldest_any (S : List Sl) (c : Int) (M : List Int) (hS : S.length ≤ 1000000) (hM : M.length ≤ 1000000) (hc : -9223372036854775808 ≤ c ∧ c ≤ 9223372036854775807) : CallOK Try.prog 20 [.agg [.sl 1 0 4 S.length none, I c, .sl 2 0 1 M.length none]] [(1, .ro 4 S.length (rowG encC S)), (2, .ro 1 M.length (rowG encI M))] (I (if validF S c M = 0 then lst wD S else -1)) [] := by
  refine CallOK.intro Try.call20 Try.func20 rfl rfl ⟨rfl, fun _ => rfl, rfl, fun _ => rfl, trivial⟩ ?_
  refine (Classical.em (¬validF S c M = (0 : Int))).elim (fun hc1 => ?ga3) (fun hc1 => ?gb3)
  case' gb3 =>
    refine Safe.ends mixed Go.Proofs.Try.func20 9 [⟨1100, []⟩, ⟨1200, [(1, .call [1, 2] (I (validF S c M)) []), (2, .tt false)]⟩, ⟨1300, [(1, .call [1, 2] (I (lst wD S)) [])]⟩] (r := I (lst wD S)) (hp := [(1, .ro ((4 : Nat)) (S.length) (rowG encC S)), (2, .ro ((1 : Nat)) (M.length) (rowG encI M))]) (ob := [CallOK Try.prog (13 : Nat) ([] ++ [AV.agg [AV.sl (1 : Nat) (0 : Nat) (4 : Nat) S.length none, AV.val (Value.int IntKind.i64 c), AV.sl (2 : Nat) (0 : Nat) (1 : Nat) M.length none]] ++ []) [((1 : Nat), Ob.ro (4 : Nat) S.length (rowG encC S)), ((2 : Nat), Ob.ro (1 : Nat) M.length (rowG encI M))] (AV.val (Value.int IntKind.i64 (validF S c M))) [], (decide ¬validF S c M = (0 : Int)) = false, CallOK Try.prog (41 : Nat) ([] ++ [AV.agg [AV.sl (1 : Nat) (0 : Nat) (4 : Nat) S.length none, AV.val (Value.int IntKind.i64 c), AV.sl (2 : Nat) (0 : Nat) (1 : Nat) M.length none], AV.fn (Fn.func (42 : Nat)) [] []] ++ []) [((1 : Nat), Ob.ro (4 : Nat) S.length (rowG encC S)), ((2 : Nat), Ob.ro (1 : Nat) M.length (rowG encI M))] (AV.val (Value.int IntKind.i64 (lst wD S))) []]) rfl (by kernel_rfl) ⟨(CallOK.ren (valid_any (S) (c) (M) (by omega) (by omega) (by omega)) [(1, 1), (2, 2)] [1, 2] rfl rfl rfl rfl ⟨rfl, fun _ => rfl, rfl, fun _ => rfl, trivial⟩ rfl ⟨rfl, fun _ => rfl, rfl, fun _ => rfl, trivial⟩), (decide_eq_false hc1), (CallOK.ren (least_wD (S) (c) (M) (by omega)) [(1, 1), (2, 2)] [1, 2] rfl rfl rfl rfl ⟨rfl, fun _ => rfl, rfl, fun _ => rfl, trivial⟩ rfl ⟨rfl, fun _ => rfl, rfl, fun _ => rfl, trivial⟩), trivial⟩ ?_ ⟨ObLe.refl _, ObLe.refl _, trivial⟩ ⟨rfl, fun _ => rfl, rfl, fun _ => rfl, trivial⟩ rfl
  case' ga3 =>
    refine Safe.ends mixed Go.Proofs.Try.func20 8 [⟨1100, []⟩, ⟨1200, [(1, .call [1, 2] (I (validF S c M)) []), (2, .tt true)]⟩, ⟨1300, []⟩] (r := I ((-1 : Int))) (hp := [(1, .ro ((4 : Nat)) (S.length) (rowG encC S)), (2, .ro ((1 : Nat)) (M.length) (rowG encI M))]) (ob := [CallOK Try.prog (13 : Nat) ([] ++ [AV.agg [AV.sl (1 : Nat) (0 : Nat) (4 : Nat) S.length none, AV.val (Value.int IntKind.i64 c), AV.sl (2 : Nat) (0 : Nat) (1 : Nat) M.length none]] ++ []) [((1 : Nat), Ob.ro (4 : Nat) S.length (rowG encC S)), ((2 : Nat), Ob.ro (1 : Nat) M.length (rowG encI M))] (AV.val (Value.int IntKind.i64 (validF S c M))) [], (decide ¬validF S c M = (0 : Int)) = true]) rfl (by kernel_rfl) ⟨(CallOK.ren (valid_any (S) (c) (M) (by omega) (by omega) (by omega)) [(1, 1), (2, 2)] [1, 2] rfl rfl rfl rfl ⟨rfl, fun _ => rfl, rfl, fun _ => rfl, trivial⟩ rfl ⟨rfl, fun _ => rfl, rfl, fun _ => rfl, trivial⟩), (decide_eq_true hc1), trivial⟩ ?_ ⟨ObLe.refl _, ObLe.refl _, trivial⟩ ⟨rfl, fun _ => rfl, rfl, fun _ => rfl, trivial⟩ rfl
  · show I _ = I _
    rw [if_neg hc1]
  · show I _ = I _
    rw [if_pos (Classical.not_not.1 hc1)]
theorem vs_dirty {S : List Sl} {c : Int} {M : List Int} (h : validF S c M = 0) (i : Nat) (hi : i < S.length) : ((S.getD i default).valid = false → zeroC (S.getD i default)) := by
  have hv : VS S c M := Classical.not_not.1 fun hn => by rw [valid_2 hn] at h; omega
  exact (hv.2.2.2.2.2.1 i hi).1
theorem lst_dirty {S : List Sl} {c : Int} {M : List Int} (h : validF S c M = 0) : lst (wV true) S = lst wD S := by
  refine lstR_congr _ fun i hi => ?_
  have := vs_dirty h i hi
  unfold wV wD
  cases hv : (S.getD i default).valid with
  | true => cases (S.getD i default).dirty <;> rfl
  | false => rw [(this hv).2.1]; rfl
theorem lst_clean (S : List Sl) : lst (wV false) S = lst wC S := by
  refine lstR_congr _ fun i hi => ?_
  unfold wV wC
  cases (S.getD i default).dirty <;> rfl
set_option maxRecDepth 10000 in
set_option maxHeartbeats 8000000 in
theorem roldest_any (S : List Sl) (c : Int) (M : List Int) (hS : S.length ≤ 1000000) (hM : M.length ≤ 1000000) (hc : -9223372036854775808 ≤ c ∧ c ≤ 9223372036854775807) : CallOK Try.prog 21 [.agg [.sl 1 0 4 S.length none, I c, .sl 2 0 1 M.length none]] [(1, .ro 4 S.length (rowG encC S)), (2, .ro 1 M.length (rowG encI M))] (I (if validF S c M = 0 then lst wD S else -1)) [] := by
  refine CallOK.intro Try.call21 Try.func21 rfl rfl ⟨rfl, fun _ => rfl, rfl, fun _ => rfl, trivial⟩ ?_
  refine (Classical.em (¬validF S c M = (0 : Int))).elim (fun hc1 => ?ga4) (fun hc1 => ?gb4)
  case' gb4 =>
    refine Safe.ends mixed Go.Proofs.Try.func21 9 [⟨1100, []⟩, ⟨1200, [(1, .call [1, 2] (I (validF S c M)) []), (2, .tt false)]⟩, ⟨1300, [(1, .call [1, 2] (I (lst (wV true) S)) [])]⟩] (r := I (lst (wV true) S)) (hp := [(1, .ro ((4 : Nat)) (S.length) (rowG encC S)), (2, .ro ((1 : Nat)) (M.length) (rowG encI M))]) (ob := [CallOK Try.prog (14 : Nat) ([] ++ [AV.agg [AV.sl (1 : Nat) (0 : Nat) (4 : Nat) S.length none, AV.val (Value.int IntKind.i64 c), AV.sl (2 : Nat) (0 : Nat) (1 : Nat) M.length none]] ++ []) [((1 : Nat), Ob.ro (4 : Nat) S.length (rowG encC S)), ((2 : Nat), Ob.ro (1 : Nat) M.length (rowG encI M))] (AV.val (Value.int IntKind.i64 (validF S c M))) [], (decide ¬validF S c M = (0 : Int)) = false, CallOK Try.prog (43 : Nat) ([] ++ [AV.agg [AV.sl (1 : Nat) (0 : Nat) (4 : Nat) S.length none, AV.val (Value.int IntKind.i64 c), AV.sl (2 : Nat) (0 : Nat) (1 : Nat) M.length none], ofV (Value.bool true)] ++ []) [((1 : Nat), Ob.ro (4 : Nat) S.length (rowG encC S)), ((2 : Nat), Ob.ro (1 : Nat) M.length (rowG encI M))] (AV.val (Value.int IntKind.i64 (lst (wV true) S))) []]) rfl (by kernel_rfl) ⟨(CallOK.ren (rvalid_any (S) (c) (M) (by omega) (by omega) (by omega)) [(1, 1), (2, 2)] [1, 2] rfl rfl rfl rfl ⟨rfl, fun _ => rfl, rfl, fun _ => rfl, trivial⟩ rfl ⟨rfl, fun _ => rfl, rfl, fun _ => rfl, trivial⟩), (decide_eq_false hc1), (CallOK.ren (rleast_any (S) (c) (M) (true) (by omega)) [(1, 1), (2, 2)] [1, 2] rfl rfl rfl rfl ⟨rfl, fun _ => rfl, rfl, fun _ => rfl, trivial⟩ rfl ⟨rfl, fun _ => rfl, rfl, fun _ => rfl, trivial⟩), trivial⟩ ?_ ⟨ObLe.refl _, ObLe.refl _, trivial⟩ ⟨rfl, fun _ => rfl, rfl, fun _ => rfl, trivial⟩ rfl
  case' ga4 =>
    refine Safe.ends mixed Go.Proofs.Try.func21 8 [⟨1100, []⟩, ⟨1200, [(1, .call [1, 2] (I (validF S c M)) []), (2, .tt true)]⟩, ⟨1300, []⟩] (r := I ((-1 : Int))) (hp := [(1, .ro ((4 : Nat)) (S.length) (rowG encC S)), (2, .ro ((1 : Nat)) (M.length) (rowG encI M))]) (ob := [CallOK Try.prog (14 : Nat) ([] ++ [AV.agg [AV.sl (1 : Nat) (0 : Nat) (4 : Nat) S.length none, AV.val (Value.int IntKind.i64 c), AV.sl (2 : Nat) (0 : Nat) (1 : Nat) M.length none]] ++ []) [((1 : Nat), Ob.ro (4 : Nat) S.length (rowG encC S)), ((2 : Nat), Ob.ro (1 : Nat) M.length (rowG encI M))] (AV.val (Value.int IntKind.i64 (validF S c M))) [], (decide ¬validF S c M = (0 : Int)) = true]) rfl (by kernel_rfl) ⟨(CallOK.ren (rvalid_any (S) (c) (M) (by omega) (by omega) (by omega)) [(1, 1), (2, 2)] [1, 2] rfl rfl rfl rfl ⟨rfl, fun _ => rfl, rfl, fun _ => rfl, trivial⟩ rfl ⟨rfl, fun _ => rfl, rfl, fun _ => rfl, trivial⟩), (decide_eq_true hc1), trivial⟩ ?_ ⟨ObLe.refl _, ObLe.refl _, trivial⟩ ⟨rfl, fun _ => rfl, rfl, fun _ => rfl, trivial⟩ rfl
  · show I _ = I _
    rw [if_neg hc1]
  · show I _ = I _
    rw [if_pos (Classical.not_not.1 hc1), ← lst_dirty (Classical.not_not.1 hc1)]
/-- of a valid state the first slot that is not valid -/
theorem lst_empty {S : List Sl} {c : Int} {M : List Int} (h : validF S c M = 0) : ∀ k, k ≤ S.length → (lstR wE S k < 0 ↔ ∀ i, i < k → (S.getD i default).valid = true) ∧ (∀ j : Nat, j < k → (S.getD j default).valid = false → (∀ i, i < j → (S.getD i default).valid = true) → lstR wE S k = j)
  | 0, _ => ⟨by simp [lstR], fun j hj => by omega⟩
  | k + 1, hk => by
    obtain ⟨h1, h2⟩ := lst_empty h k (by omega)
    have hbd := lstR_bd wE S k
    by_cases hv : (S.getD k default).valid = true
    · have e : lstR wE S (k + 1) = lstR wE S k := lstR_no (fun hh => by have := hh.1; unfold wE at this; rw [hv] at this; cases this)
      rw [e]
      refine ⟨h1.trans ⟨fun hh i hi => ?_, fun hh i hi => hh i (by omega)⟩, fun j hj hjv hji => ?_⟩
      · rcases Nat.lt_or_eq_of_le (Nat.le_of_lt_succ hi) with h3 | h3
        · exact hh i h3
        · rw [h3]; exact hv
      · rcases Nat.lt_or_eq_of_le (Nat.le_of_lt_succ hj) with h3 | h3
        · exact h2 j h3 hjv hji
        · rw [h3] at hjv; rw [hv] at hjv; cases hjv
    · have hv' : (S.getD k default).valid = false := by simpa using hv
      by_cases hn : lstR wE S k < 0
      · have e : lstR wE S (k + 1) = k := lstR_yes (by unfold wE; rw [hv']; rfl) (.inl hn)
        rw [e]
        refine ⟨⟨fun hh => by omega, fun hh => absurd (hh k (by omega)) hv⟩, fun j hj hjv hji => ?_⟩
        rcases Nat.lt_or_eq_of_le (Nat.le_of_lt_succ hj) with h3 | h3
        · have := h1.1 hn j h3; rw [this] at hjv; cases hjv
        · rw [h3]
      · have hz := vs_dirty h k (by omega) hv'
        have hj0 : ∃ j : Nat, j < k ∧ (S.getD j default).valid = false ∧ ∀ i, i < j → (S.getD i default).valid = true := by
          have hex : ∃ i, i < k ∧ (S.getD i default).valid = false := by
            refine Classical.not_not.1 fun hne => hn (h1.2 fun i hi => ?_)
            cases hvi : (S.getD i default).valid with
            | true => rfl
            | false => exact absurd ⟨i, hi, hvi⟩ hne
          obtain ⟨i, hi, hvi⟩ := hex
          induction i using Nat.strongRecOn with
          | ind i ihi =>
            by_cases hall : ∀ j, j < i → (S.getD j default).valid = true
            · exact ⟨i, hi, hvi, hall⟩
            · obtain ⟨j, hj⟩ := Classical.not_forall.1 hall
              obtain ⟨hj1, hj2⟩ := Classical.not_imp.1 hj
              exact ihi j hj1 (by omega) (by simpa using hj2)
        obtain ⟨j, hj, hjv, hji⟩ := hj0
        have e1 := h2 j hj hjv hji
        have hz2 := vs_dirty h j (by omega) hjv
        have e : lstR wE S (k + 1) = lstR wE S k := lstR_no (fun hh => by
          rcases hh.2 with h3 | h3
          · exact hn h3
          · rw [e1] at h3
            simp only [Int.toNat_natCast] at h3
            rw [hz.2.2.2, hz2.2.2.2] at h3
            omega)
        rw [e]
        refine ⟨⟨fun hh => absurd hh hn, fun hh => absurd (hh k (by omega)) hv⟩, fun i hi hiv hii => ?_⟩
        rcases Nat.lt_or_eq_of_le (Nat.le_of_lt_succ hi) with h3 | h3
        · exact h2 i h3 hiv hii
        · have := hii j (by omega); rw [this] at hjv; cases hjv
set_option maxRecDepth 10000 in
set_option maxHeartbeats 8000000 in
theorem rvictim_any (S : List Sl) (c : Int) (M : List Int) (hS : S.length ≤ 1000000) (hM : M.length ≤ 1000000) (hc : -9223372036854775808 ≤ c ∧ c ≤ 9223372036854775807) : CallOK Try.prog 23 [.agg [.sl 1 0 4 S.length none, I c, .sl 2 0 1 M.length none]] [(1, .ro 4 S.length (rowG encC S)), (2, .ro 1 M.length (rowG encI M))] (.tup [I (if validF S c M = 0 then vicF S else 0), I (validF S c M)]) [] := by
  refine CallOK.intro Try.call23 Try.func23 rfl rfl ⟨rfl, fun _ => rfl, rfl, fun _ => rfl, trivial⟩ ?_
  refine Safe.withLoop (loopAt Try.f23 0) [1, 2, 20] 31 (fun g : Nat => [(1, .ptr 20 0 0 0), (4, I g)]) (fun _ => [(1, .ro 4 S.length (rowG encC S)), (2, .ro 1 M.length (rowG encI M)), (20, .blk 25 [.sl 1 0 4 S.length none, I c, .sl 2 0 1 M.length none])]) (fun g => g ≤ S.length ∧ validF S c M = 0 ∧ ∀ i, i < g → (S.getD i default).valid = true) (fun g => S.length - g) ?_ ?_
  · rintro k ⟨hk, hv, ha⟩ ih
    have h1 := lst_empty hv
    refine (Classical.em ((↑k : Int) < (↑S.length : Int))).elim (fun hc1 => ?ga5) (fun hc1 => ?gb5)
    case' gb5 =>
      refine (Classical.em (lst (wV false) S ≥ (0 : Int))).elim (fun hc2 => ?ga7) (fun hc2 => ?gb7)
      case' gb7 =>
        refine Safe.ends mixed Go.Proofs.Try.func23 14 [⟨1100, [(4, .tt false)]⟩, ⟨1200, [(1, .call [1, 2] (I (lst (wV false) S)) [])]⟩, ⟨1300, [(1, .tt false)]⟩, ⟨1400, [(1, .call [1, 2] (I (lst (wV true) S)) [])]⟩] (r := .tup [I (lst (wV true) S), I ((0 : Int))]) (hp := [(1, .ro ((4 : Nat)) (S.length) (rowG encC S)), (2, .ro ((1 : Nat)) (M.length) (rowG encI M))]) (ob := [decide ((↑k : Int) < (↑S.length : Int)) = false, CallOK Try.prog (43 : Nat) ([] ++ [AV.agg [AV.sl (1 : Nat) (0 : Nat) (4 : Nat) S.length none, AV.val (Value.int IntKind.i64 c), AV.sl (2 : Nat) (0 : Nat) (1 : Nat) M.length none], ofV (Value.bool false)] ++ []) [((1 : Nat), Ob.ro (4 : Nat) S.length (rowG encC S)), ((2 : Nat), Ob.ro (1 : Nat) M.length (rowG encI M))] (AV.val (Value.int IntKind.i64 (lst (wV false) S))) [], decide (lst (wV false) S ≥ (0 : Int)) = false, CallOK Try.prog (43 : Nat) ([] ++ [AV.agg [AV.sl (1 : Nat) (0 : Nat) (4 : Nat) S.length none, AV.val (Value.int IntKind.i64 c), AV.sl (2 : Nat) (0 : Nat) (1 : Nat) M.length none], ofV (Value.bool true)] ++ []) [((1 : Nat), Ob.ro (4 : Nat) S.length (rowG encC S)), ((2 : Nat), Ob.ro (1 : Nat) M.length (rowG encI M))] (AV.val (Value.int IntKind.i64 (lst (wV true) S))) []]) rfl (by kernel_rfl) ⟨(decide_eq_false hc1), (CallOK.ren (rleast_any (S) (c) (M) (false) (by omega)) [(1, 1), (2, 2)] [1, 2] rfl rfl rfl rfl ⟨rfl, fun _ => rfl, rfl, fun _ => rfl, trivial⟩ rfl ⟨rfl, fun _ => rfl, rfl, fun _ => rfl, trivial⟩), (decide_eq_false hc2), (CallOK.ren (rleast_any (S) (c) (M) (true) (by omega)) [(1, 1), (2, 2)] [1, 2] rfl rfl rfl rfl ⟨rfl, fun _ => rfl, rfl, fun _ => rfl, trivial⟩ rfl ⟨rfl, fun _ => rfl, rfl, fun _ => rfl, trivial⟩), trivial⟩ ?_ ⟨ObLe.refl _, ObLe.refl _, trivial⟩ ⟨rfl, fun _ => rfl, rfl, fun _ => rfl, trivial⟩ rfl
      case' ga7 =>
        refine Safe.ends mixed Go.Proofs.Try.func23 13 [⟨1100, [(4, .tt false)]⟩, ⟨1200, [(1, .call [1, 2] (I (lst (wV false) S)) [])]⟩, ⟨1300, [(1, .tt true)]⟩, ⟨1400, []⟩] (r := .tup [I (lst (wV false) S), I ((0 : Int))]) (hp := [(1, .ro ((4 : Nat)) (S.length) (rowG encC S)), (2, .ro ((1 : Nat)) (M.length) (rowG encI M))]) (ob := [decide ((↑k : Int) < (↑S.length : Int)) = false, CallOK Try.prog (43 : Nat) ([] ++ [AV.agg [AV.sl (1 : Nat) (0 : Nat) (4 : Nat) S.length none, AV.val (Value.int IntKind.i64 c), AV.sl (2 : Nat) (0 : Nat) (1 : Nat) M.length none], ofV (Value.bool false)] ++ []) [((1 : Nat), Ob.ro (4 : Nat) S.length (rowG encC S)), ((2 : Nat), Ob.ro (1 : Nat) M.length (rowG encI M))] (AV.val (Value.int IntKind.i64 (lst (wV false) S))) [], decide (lst (wV false) S ≥ (0 : Int)) = true]) rfl (by kernel_rfl) ⟨(decide_eq_false hc1), (CallOK.ren (rleast_any (S) (c) (M) (false) (by omega)) [(1, 1), (2, 2)] [1, 2] rfl rfl rfl rfl ⟨rfl, fun _ => rfl, rfl, fun _ => rfl, trivial⟩ rfl ⟨rfl, fun _ => rfl, rfl, fun _ => rfl, trivial⟩), (decide_eq_true hc2), trivial⟩ ?_ ⟨ObLe.refl _, ObLe.refl _, trivial⟩ ⟨rfl, fun _ => rfl, rfl, fun _ => rfl, trivial⟩ rfl
    case' ga5 =>
      refine (Classical.em (((S.getD k default).valid) = true)).elim (fun hc2 => ?ga6) (fun hc2 => ?gb6)
      case' gb6 =>
        refine Safe.ends mixed Go.Proofs.Try.func23 12 [⟨1100, [(4, .tt true)]⟩, ⟨1200, [(5, .tt false)]⟩, ⟨1300, []⟩] (r := .tup [I ((↑k : Int)), I ((0 : Int))]) (hp := [(1, .ro ((4 : Nat)) (S.length) (rowG encC S)), (2, .ro ((1 : Nat)) (M.length) (rowG encI M))]) (ob := [decide ((↑k : Int) < (↑S.length : Int)) = true, (0 : Int) ≤ (↑k : Int) ∧ (↑k : Int) < (↑S.length : Int), k < S.length, (S.getD k default).valid = false]) rfl (by kernel_rfl) ⟨(decide_eq_true hc1), (by omega), (by omega), (by simpa using hc2), trivial⟩ ?_ ⟨ObLe.refl _, ObLe.refl _, trivial⟩ ⟨rfl, fun _ => rfl, rfl, fun _ => rfl, trivial⟩ rfl
      case' ga6 =>
        refine Safe.goto mixed 14 [⟨1100, [(4, .tt true)]⟩, ⟨1200, [(5, .tt true)]⟩, ⟨1300, []⟩] [1, 4] [1, 2, 20] (todo' := loopAt Go.Proofs.Try.f23 0) (sl := slotsOf 31 [(1, .ptr ((20 : Nat)) ((0 : Nat)) ((0 : Nat)) ((0 : Nat))), (4, I ((↑k : Int) + (1 : Int)))]) (hp := [(1, .ro ((4 : Nat)) (S.length) (rowG encC S)), (2, .ro ((1 : Nat)) (M.length) (rowG encI M)), (20, .blk ((25 : Nat)) [.sl ((1 : Nat)) ((0 : Nat)) ((4 : Nat)) (S.length) (none), I (c), .sl ((2 : Nat)) ((0 : Nat)) ((1 : Nat)) (M.length) (none)])]) (ob := [decide ((↑k : Int) < (↑S.length : Int)) = true, (0 : Int) ≤ (↑k : Int) ∧ (↑k : Int) < (↑S.length : Int), k < S.length, (S.getD k default).valid = true, inK IntKind.i64 ((↑k : Int) + (1 : Int))]) rfl rfl (by kernel_rfl) ⟨(decide_eq_true hc1), (by omega), (by omega), hc2, (by simp only [inK]; omega), trivial⟩ rfl ⟨rfl, fun _ => rfl, rfl, fun _ => rfl, rfl, rfl, trivial⟩ ?_
    case ga6 =>
      exact ih (k + 1) ⟨by omega, hv, fun i hi => by
        rcases Nat.lt_or_eq_of_le (Nat.le_of_lt_succ hi) with h3 | h3
        · exact ha i h3
        · rw [h3]; exact hc2⟩ (by omega)
    case gb6 =>
      have e : lst wE S = k := (h1 S.length (Nat.le_refl _)).2 k (by omega) (by simpa using hc2) ha
      show AV.tup _ = AV.tup _
      rw [if_pos hv, hv, vicF, e, if_pos (by omega)]
    case ga7 =>
      have e : lst wE S < 0 := (h1 S.length (Nat.le_refl _)).1.2 (by rw [show S.length = k by omega]; exact ha)
      rw [lst_clean] at hc2 ⊢
      show AV.tup _ = AV.tup _
      rw [if_pos hv, hv, vicF, if_neg (by omega), if_pos hc2]
    case gb7 =>
      have e : lst wE S < 0 := (h1 S.length (Nat.le_refl _)).1.2 (by rw [show S.length = k by omega]; exact ha)
      rw [lst_clean] at hc2
      show AV.tup _ = AV.tup _
      rw [if_pos hv, hv, vicF, if_neg (by omega), if_neg hc2, lst_dirty hv]
  · intro H
    refine (Classical.em (¬validF S c M = (0 : Int))).elim (fun hc1 => ?ga8) (fun hc1 => ?gb8)
    case' gb8 =>
      refine Safe.goto mixed 12 [⟨1100, []⟩, ⟨1200, [(1, .call [1, 2] (I (validF S c M)) []), (2, .tt false)]⟩, ⟨1300, []⟩] [1, 4] [1, 2, 1100] (todo' := loopAt Go.Proofs.Try.f23 0) (sl := slotsOf 31 [(1, .ptr ((1100 : Nat)) ((0 : Nat)) ((0 : Nat)) ((0 : Nat))), (4, I ((0 : Int)))]) (hp := [(1, .ro ((4 : Nat)) (S.length) (rowG encC S)), (2, .ro ((1 : Nat)) (M.length) (rowG encI M)), (1100, .blk ((25 : Nat)) [.sl ((1 : Nat)) ((0 : Nat)) ((4 : Nat)) (S.length) (none), I (c), .sl ((2 : Nat)) ((0 : Nat)) ((1 : Nat)) (M.length) (none)])]) (ob := [CallOK Try.prog (14 : Nat) ([] ++ [AV.agg [AV.sl (1 : Nat) (0 : Nat) (4 : Nat) S.length none, AV.val (Value.int IntKind.i64 c), AV.sl (2 : Nat) (0 : Nat) (1 : Nat) M.length none]] ++ []) [((1 : Nat), Ob.ro (4 : Nat) S.length (rowG encC S)), ((2 : Nat), Ob.ro (1 : Nat) M.length (rowG encI M))] (AV.val (Value.int IntKind.i64 (validF S c M))) [], (decide ¬validF S c M = (0 : Int)) = false]) rfl rfl (by kernel_rfl) ⟨(CallOK.ren (rvalid_any (S) (c) (M) (by omega) (by omega) (by omega)) [(1, 1), (2, 2)] [1, 2] rfl rfl rfl rfl ⟨rfl, fun _ => rfl, rfl, fun _ => rfl, trivial⟩ rfl ⟨rfl, fun _ => rfl, rfl, fun _ => rfl, trivial⟩), (decide_eq_false hc1), trivial⟩ rfl ⟨rfl, fun _ => rfl, rfl, fun _ => rfl, rfl, rfl, trivial⟩ ?_
      refine Safe.ren [(1100, 20)] rfl rfl rfl rfl ⟨rfl, fun _ => rfl, rfl, fun _ => rfl, rfl, rfl, trivial⟩ ?_
    case' ga8 =>
      refine Safe.ends mixed Go.Proofs.Try.func23 8 [⟨1100, []⟩, ⟨1200, [(1, .call [1, 2] (I (validF S c M)) []), (2, .tt true)]⟩, ⟨1300, []⟩] (r := .tup [I ((0 : Int)), I ((2 : Int))]) (hp := [(1, .ro ((4 : Nat)) (S.length) (rowG encC S)), (2, .ro ((1 : Nat)) (M.length) (rowG encI M))]) (ob := [CallOK Try.prog (14 : Nat) ([] ++ [AV.agg [AV.sl (1 : Nat) (0 : Nat) (4 : Nat) S.length none, AV.val (Value.int IntKind.i64 c), AV.sl (2 : Nat) (0 : Nat) (1 : Nat) M.length none]] ++ []) [((1 : Nat), Ob.ro (4 : Nat) S.length (rowG encC S)), ((2 : Nat), Ob.ro (1 : Nat) M.length (rowG encI M))] (AV.val (Value.int IntKind.i64 (validF S c M))) [], (decide ¬validF S c M = (0 : Int)) = true]) rfl (by kernel_rfl) ⟨(CallOK.ren (rvalid_any (S) (c) (M) (by omega) (by omega) (by omega)) [(1, 1), (2, 2)] [1, 2] rfl rfl rfl rfl ⟨rfl, fun _ => rfl, rfl, fun _ => rfl, trivial⟩ rfl ⟨rfl, fun _ => rfl, rfl, fun _ => rfl, trivial⟩), (decide_eq_true hc1), trivial⟩ ?_ ⟨ObLe.refl _, ObLe.refl _, trivial⟩ ⟨rfl, fun _ => rfl, rfl, fun _ => rfl, trivial⟩ rfl
    · show AV.tup _ = AV.tup _
      rw [if_neg hc1, (valid_cases S c M).resolve_left hc1]
    · exact H 0 ⟨Nat.zero_le _, Classical.not_not.1 hc1, fun i hi => by omega⟩
end Go.Proofs.Ytebejfmodiionaa
