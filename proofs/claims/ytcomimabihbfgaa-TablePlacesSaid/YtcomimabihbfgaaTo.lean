/- TableRaw. -/
import Derived.Test.YtcomimabihbfgaaSyU
import Derived.KernelRfl
import Derived.Test.YtcomimabihbfgaaTn
namespace Go.Proofs.Ytcomimabihbfgaa
open Go.RowKit
set_option linter.unusedVariables false
set_option linter.unnecessarySimpa false
theorem and31 (x : Int) : 0 ≤ bitsV .and .i64 x 31 ∧ bitsV .and .i64 x 31 ≤ 31 := by
  have h : ((BitVec.ofInt 64 x) &&& (BitVec.ofInt 64 31)).toNat ≤ 31 := by
    rw [BitVec.toNat_and]
    exact Nat.and_le_right
  show (0 : Int) ≤ (((BitVec.ofInt 64 x) &&& (BitVec.ofInt 64 31)).toNat : Int) ∧ (((BitVec.ofInt 64 x) &&& (BitVec.ofInt 64 31)).toNat : Int) ≤ 31
  omega
set_option maxRecDepth 10000 in
set_option maxHeartbeats 8000000 in
theorem raw_any (L M : List Tg) (a n : Int) (hl : L.length ≤ 9223372036854775807) (hm : M.length ≤ 9223372036854775807) (ha : -9223372036854775808 ≤ a ∧ a ≤ 9223372036854775807) (hn : -9223372036854775808 ≤ n ∧ n ≤ 9223372036854775807) : CallOK Try.prog 3 [.sl 0 0 5 L.length none, .sl 1 0 5 M.length none, I a, I n] [(0, .ro 5 L.length (rowT L)), (1, .ro 5 M.length (rowT M))] (B true) [] := by
  refine CallOK.intro Try.call3 Try.func3 rfl rfl ⟨rfl, fun _ => rfl, rfl, fun _ => rfl, trivial⟩ ?_
  have h1 := and31 a
  have h2 := and31 n
  refine (Classical.em ((↑L.length : Int) > (70 : Int))).elim (fun hc1 => ?ga0) (fun hc1 => ?gb0)
  case' gb0 =>
    refine (Classical.em ((↑M.length : Int) > (70 : Int))).elim (fun hc2 => ?ga1) (fun hc2 => ?gb1)
    case' gb1 =>
      refine Safe.ends mixed Go.Proofs.Try.func3 9 [⟨1100, []⟩, ⟨1200, [(2, .tt false), (6, .tt false)]⟩, ⟨1300, [(4, .call [0, 1] (B (true)) []), (12, .call [1, 0] (B (true)) []), (15, .call [] (B (true)) [])]⟩] (r := B (true)) (hp := [(0, .ro ((5 : Nat)) (L.length) (rowT L)), (1, .ro ((5 : Nat)) (M.length) (rowT M))]) (ob := [decide ((↑L.length : Int) > (70 : Int)) = false, decide ((↑M.length : Int) > (70 : Int)) = false, CallOK Try.prog (9 : Nat) ([] ++ [AV.sl (0 : Nat) (0 : Nat) (5 : Nat) L.length none, AV.sl (1 : Nat) (0 : Nat) (5 : Nat) M.length none, AV.val (Value.int IntKind.i64 a), AV.val (Value.int IntKind.i64 n)] ++ []) [((0 : Nat), Ob.ro (5 : Nat) L.length (rowT L)), ((1 : Nat), Ob.ro (5 : Nat) M.length (rowT M))] (AV.val (Value.bool true)) [], inK IntKind.i64 (bitsV BinOp.and IntKind.i64 a (31 : Int)), inK IntKind.i64 (bitsV BinOp.and IntKind.i64 n (31 : Int)), CallOK Try.prog (9 : Nat) ([] ++ [AV.sl (1 : Nat) (0 : Nat) (5 : Nat) M.length none, AV.sl (0 : Nat) (0 : Nat) (5 : Nat) L.length none, AV.val (Value.int IntKind.i64 (bitsV BinOp.and IntKind.i64 a (31 : Int))), AV.val (Value.int IntKind.i64 (bitsV BinOp.and IntKind.i64 n (31 : Int)))] ++ []) [((1 : Nat), Ob.ro (5 : Nat) M.length (rowT M)), ((0 : Nat), Ob.ro (5 : Nat) L.length (rowT L))] (AV.val (Value.bool true)) [], CallOK Try.prog (8 : Nat) ([] ++ [] ++ []) [] (AV.val (Value.bool true)) []]) rfl (by kernel_rfl) ⟨(decide_eq_false hc1), (decide_eq_false hc2), (CallOK.ren (agrees_any (L) (M) (a) (n) (by omega) (by omega) (by omega) (by omega)) [(0, 0), (1, 1)] [0, 1] rfl rfl rfl rfl ⟨rfl, fun _ => rfl, rfl, fun _ => rfl, trivial⟩ rfl ⟨rfl, fun _ => rfl, rfl, fun _ => rfl, trivial⟩), (by simp only [inK]; omega), (by simp only [inK]; omega), (CallOK.ren (agrees_any (M) (L) (bitsV BinOp.and IntKind.i64 a (31 : Int)) (bitsV BinOp.and IntKind.i64 n (31 : Int)) (by omega) (by omega) (by omega) (by omega)) [(0, 1), (1, 0)] [0, 1] rfl rfl rfl rfl ⟨rfl, fun _ => rfl, rfl, fun _ => rfl, trivial⟩ rfl ⟨rfl, fun _ => rfl, rfl, fun _ => rfl, trivial⟩), (CallOK.ren awake_any [] [] rfl rfl rfl rfl trivial rfl trivial), trivial⟩ rfl ⟨ObLe.refl _, ObLe.refl _, trivial⟩ ⟨rfl, fun _ => rfl, rfl, fun _ => rfl, trivial⟩ rfl
    case' ga1 =>
      refine Safe.ends mixed Go.Proofs.Try.func3 8 [⟨1100, []⟩, ⟨1200, [(2, .tt false), (6, .tt true)]⟩, ⟨1300, [(0, .call [] (B (true)) [])]⟩] (r := B (true)) (hp := [(0, .ro ((5 : Nat)) (L.length) (rowT L)), (1, .ro ((5 : Nat)) (M.length) (rowT M))]) (ob := [decide ((↑L.length : Int) > (70 : Int)) = false, decide ((↑M.length : Int) > (70 : Int)) = true, CallOK Try.prog (8 : Nat) ([] ++ [] ++ []) [] (AV.val (Value.bool true)) []]) rfl (by kernel_rfl) ⟨(decide_eq_false hc1), (decide_eq_true hc2), (CallOK.ren awake_any [] [] rfl rfl rfl rfl trivial rfl trivial), trivial⟩ rfl ⟨ObLe.refl _, ObLe.refl _, trivial⟩ ⟨rfl, fun _ => rfl, rfl, fun _ => rfl, trivial⟩ rfl
  case' ga0 =>
    refine Safe.ends mixed Go.Proofs.Try.func3 8 [⟨1100, []⟩, ⟨1200, [(2, .tt true)]⟩, ⟨1300, [(0, .call [] (B (true)) [])]⟩] (r := B (true)) (hp := [(0, .ro ((5 : Nat)) (L.length) (rowT L)), (1, .ro ((5 : Nat)) (M.length) (rowT M))]) (ob := [decide ((↑L.length : Int) > (70 : Int)) = true, CallOK Try.prog (8 : Nat) ([] ++ [] ++ []) [] (AV.val (Value.bool true)) []]) rfl (by kernel_rfl) ⟨(decide_eq_true hc1), (CallOK.ren awake_any [] [] rfl rfl rfl rfl trivial rfl trivial), trivial⟩ rfl ⟨ObLe.refl _, ObLe.refl _, trivial⟩ ⟨rfl, fun _ => rfl, rfl, fun _ => rfl, trivial⟩ rfl
end Go.Proofs.Ytcomimabihbfgaa
