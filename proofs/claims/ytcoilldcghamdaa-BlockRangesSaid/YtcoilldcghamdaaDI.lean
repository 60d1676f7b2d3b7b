/- Spans and windows that do not fit; devices without memory. No conditions but those of each theorem. -/
import Derived.Test.YtcoilldcghamdaaSyZ
import Derived.KernelRfl
import Derived.Test.YtcoilldcghamdaaDH
namespace Go.Proofs.Ytcoilldcghamdaa
open Go.RowKit
open OldD (DA Dk Co Un fp Gr Row Fresh hid hd hs gu nk good ldK ge vu Ar un stF chk3 chk4 rdV wrE wrK flK)
set_option linter.unusedVariables false
set_option linter.unusedSimpArgs false
set_option maxRecDepth 10000
theorem span_err (m : Nat) (k : Dk) (d s n : Int) (hz : 0 ≤ szV k d ∧ szV k d ≤ 100000) (h : ¬ spFit k d s n) : CallOK Try.prog 16 [.ptr 0 0 0 0, I d, I s, I n] [(0, .box (dbox m k))] (.tup [.val .nilIface, I 1]) [(0, some (.box (dbox m k)))] := by
  unfold spFit at h
  refine CallOK.intro Try.call16 Try.func16 rfl rfl ⟨rfl, trivial, trivial⟩ ?_
  refine (Classical.em (n < (1 : Int))).elim (fun hc1 => ?ga0) (fun hc1 => ?gb0)
  case' gb0 =>
    refine (Classical.em ((0 : Int) ≤ s ∧ s ≤ szV k d ∧ (0 : Int) ≤ n ∧ n ≤ szV k d - s)).elim (fun hc2 => ?ga1) (fun hc2 => ?gb1)
    case' gb1 =>
      refine Safe.ends mixed Go.Proofs.Try.func16 8 [⟨1100, []⟩, ⟨1200, [(1, .tt false), (5, .call [0] (I (szV k d)) [(0, some (.box (dbox m k)))]), (8, .call [] (B false) [])]⟩, ⟨1300, []⟩] (r := .tup [.val (Value.nilIface), I ((1 : Int))]) (hp := [(0, .box (dbox m k))]) (ob := [decide (n < (1 : Int)) = false, CallOK Try.prog (17 : Nat) ([] ++ [AV.ptr (0 : Nat) (0 : Nat) (0 : Nat) (0 : Nat), AV.val (Value.int IntKind.i64 d)] ++ []) [((0 : Nat), Ob.box (dbox m k))] (AV.val (Value.int IntKind.i64 (szV k d))) [((0 : Nat), some (Ob.box (dbox m k)))], CallOK Try.prog (48 : Nat) ([] ++ [AV.val (Value.int IntKind.i64 (szV k d)), AV.val (Value.int IntKind.i64 s), AV.val (Value.int IntKind.i64 n)] ++ []) [] (AV.val (Value.bool false)) []]) rfl (by kernel_rfl) ⟨(decide_eq_false hc1), (size_c (m) (k) (d)), (CallOK.isB (fits_any (szV k d) (s) (n) (by omega)) (decide_eq_false hc2)), trivial⟩ rfl ⟨ObLe.refl _, trivial⟩ ⟨rfl, trivial, trivial⟩ rfl
    case' ga1 =>
      refine Safe.ends mixed Go.Proofs.Try.func16 9 [⟨1100, []⟩, ⟨1200, [(1, .tt false), (5, .call [0] (I (szV k d)) [(0, some (.box (dbox m k)))]), (8, .call [] (B true) [])]⟩, ⟨1300, []⟩] (r := .tup [.ifc ((100 : Nat)) (.agg [.ptr ((0 : Nat)) ((0 : Nat)) ((0 : Nat)) ((0 : Nat)), I (d), I (s), I (n)]), I ((0 : Int))]) (hp := [(0, .box (dbox m k))]) (ob := [decide (n < (1 : Int)) = false, CallOK Try.prog (17 : Nat) ([] ++ [AV.ptr (0 : Nat) (0 : Nat) (0 : Nat) (0 : Nat), AV.val (Value.int IntKind.i64 d)] ++ []) [((0 : Nat), Ob.box (dbox m k))] (AV.val (Value.int IntKind.i64 (szV k d))) [((0 : Nat), some (Ob.box (dbox m k)))], CallOK Try.prog (48 : Nat) ([] ++ [AV.val (Value.int IntKind.i64 (szV k d)), AV.val (Value.int IntKind.i64 s), AV.val (Value.int IntKind.i64 n)] ++ []) [] (AV.val (Value.bool true)) []]) rfl (by kernel_rfl) ⟨(decide_eq_false hc1), (size_c (m) (k) (d)), (CallOK.isB (fits_any (szV k d) (s) (n) (by omega)) (decide_eq_true hc2)), trivial⟩ ?_ ⟨ObLe.refl _, trivial⟩ ⟨rfl, trivial, trivial⟩ rfl
  case' ga0 =>
    refine Safe.ends mixed Go.Proofs.Try.func16 8 [⟨1100, []⟩, ⟨1200, [(1, .tt true)]⟩, ⟨1300, []⟩] (r := .tup [.val (Value.nilIface), I ((1 : Int))]) (hp := [(0, .box (dbox m k))]) (ob := [decide (n < (1 : Int)) = true]) rfl (by kernel_rfl) ⟨(decide_eq_true hc1), trivial⟩ rfl ⟨ObLe.refl _, trivial⟩ ⟨rfl, trivial, trivial⟩ rfl
  · omega
theorem window1_err (m : Nat) (k : Dk) (d s n a b : Int) (hz : 0 ≤ n ∧ n ≤ 100000) (h : ¬ (0 ≤ a ∧ a ≤ n ∧ 0 ≤ b ∧ b ≤ n - a)) : CallOK Try.prog 19 [.ifc 100 (.agg [.ptr 0 0 0 0, I d, I s, I n]), I a, I b] [(0, .box (dbox m k))] (.tup [.val .nilIface, I 1]) [] := by
  refine CallOK.intro Try.call19 Try.func19 rfl rfl ⟨rfl, trivial, trivial⟩ ?_
  refine Safe.ends mixed Go.Proofs.Try.func19 8 [⟨1100, []⟩, ⟨1200, [(1, .inv 87 (.agg [.ptr ((0 : Nat)) ((0 : Nat)) ((0 : Nat)) ((0 : Nat)), I (d), I (s), I (n)]) [0] (I (n)) []), (4, .call [] (B false) [])]⟩, ⟨1300, []⟩] (r := .tup [.val (Value.nilIface), I ((1 : Int))]) (hp := [(0, .box (dbox m k))]) (ob := [MethOK Try.prog "Size" (AV.ifc (100 : Nat) (AV.agg [AV.ptr (0 : Nat) (0 : Nat) (0 : Nat) (0 : Nat), AV.val (Value.int IntKind.i64 d), AV.val (Value.int IntKind.i64 s), AV.val (Value.int IntKind.i64 n)])) (87 : Nat) (AV.agg [AV.ptr (0 : Nat) (0 : Nat) (0 : Nat) (0 : Nat), AV.val (Value.int IntKind.i64 d), AV.val (Value.int IntKind.i64 s), AV.val (Value.int IntKind.i64 n)]), CallOK Try.prog (87 : Nat) [AV.agg [AV.ptr (0 : Nat) (0 : Nat) (0 : Nat) (0 : Nat), AV.val (Value.int IntKind.i64 d), AV.val (Value.int IntKind.i64 s), AV.val (Value.int IntKind.i64 n)]] [((0 : Nat), Ob.box (dbox m k))] (AV.val (Value.int IntKind.i64 n)) [], CallOK Try.prog (48 : Nat) ([] ++ [AV.val (Value.int IntKind.i64 n), AV.val (Value.int IntKind.i64 a), AV.val (Value.int IntKind.i64 b)] ++ []) [] (AV.val (Value.bool false)) []]) rfl (by kernel_rfl) ⟨(MethOK.of (by kernel_rfl)), (spsize_any (m) (k) (d) (s) (n)), (CallOK.isB (fits_any (n) (a) (b) (by omega)) (decide_eq_false h)), trivial⟩ rfl ⟨ObLe.refl _, trivial⟩ ⟨rfl, trivial, trivial⟩ rfl
theorem zero_f (b : Bool) : CallOK Try.prog 55 [B b] [] (I (if b then 22 else 0)) [] := by
  refine CallOK.intro Try.call55 Try.func55 rfl rfl trivial ?_
  cases b
  · skip
    refine Safe.ends mixed Go.Proofs.Try.func55 9 [⟨100, []⟩, ⟨200, []⟩, ⟨300, []⟩] (r := I ((0 : Int))) (hp := []) (ob := []) rfl (by kernel_rfl) trivial ?_ trivial trivial rfl
    · rfl
  · skip
    refine Safe.ends mixed Go.Proofs.Try.func55 8 [⟨100, []⟩, ⟨200, []⟩, ⟨300, []⟩] (r := I ((22 : Int))) (hp := []) (ob := []) rfl (by kernel_rfl) trivial ?_ trivial trivial rfl
    · rfl
theorem zero_any (n : Int) : CallOK Try.prog 20 [I n] [] (.ifc 118 (.agg [I (max n 0), .fn (.func 55) [] []])) [] := by
  refine CallOK.intro Try.call20 Try.func20 rfl rfl trivial ?_
  refine Safe.ends mixed Go.Proofs.Try.func20 4 [⟨100, []⟩, ⟨200, []⟩] (r := .ifc ((118 : Nat)) (.agg [I (max n (0 : Int)), .fn (Fn.func (55 : Nat)) [] []])) (hp := []) (ob := []) rfl (by kernel_rfl) trivial rfl trivial trivial rfl
theorem zero_size (n : Int) : CallOK Try.prog 95 [.agg [I n, .fn (.func 55) [] []]] [] (I n) [] := by
  refine CallOK.intro Try.call95 Try.func95 rfl rfl trivial ?_
  refine Safe.ends mixed Go.Proofs.Try.func95 4 [⟨100, []⟩, ⟨200, []⟩] (r := I (n)) (hp := []) (ob := []) rfl (by kernel_rfl) trivial rfl trivial trivial rfl
theorem zero_flush (n : Int) : CallOK Try.prog 93 [.agg [I n, .fn (.func 55) [] []]] [] (I 0) [] := by
  refine CallOK.intro Try.call93 Try.func93 rfl rfl trivial ?_
  refine Safe.ends mixed Go.Proofs.Try.func93 4 [⟨100, []⟩, ⟨200, []⟩] (r := I ((0 : Int))) (hp := []) (ob := []) rfl (by kernel_rfl) trivial rfl trivial trivial rfl
theorem zero_has (n a : Int) : CallOK Try.prog 89 [.ifc 118 (.agg [I n, .fn (.func 55) [] []]), I a] [] (B (decide (0 ≤ a ∧ a < n))) [] := by
  refine CallOK.intro Try.call89 Try.func89 rfl rfl trivial ?_
  refine (Classical.em (a ≥ (0 : Int))).elim (fun hc1 => ?ga2) (fun hc1 => ?gb2)
  case' gb2 =>
    refine Safe.ends mixed Go.Proofs.Try.func89 4 [⟨100, []⟩, ⟨200, [(1, .tt false)]⟩] (r := B (false)) (hp := []) (ob := [decide (a ≥ (0 : Int)) = false]) rfl (by kernel_rfl) ⟨(decide_eq_false hc1), trivial⟩ ?_ trivial trivial rfl
  case' ga2 =>
    refine Safe.ends mixed Go.Proofs.Try.func89 4 [⟨100, []⟩, ⟨200, [(1, .tt true), (5, .inv 95 (.agg [I (n), .fn (Fn.func (55 : FuncId)) [] []]) [] (I (n)) [])]⟩] (r := B (decide (a < n))) (hp := []) (ob := [decide (a ≥ (0 : Int)) = true, MethOK Try.prog "Size" (AV.ifc (118 : Nat) (AV.agg [AV.val (Value.int IntKind.i64 n), AV.fn (Fn.func (55 : FuncId)) [] []])) (95 : Nat) (AV.agg [AV.val (Value.int IntKind.i64 n), AV.fn (Fn.func (55 : FuncId)) [] []]), CallOK Try.prog (95 : Nat) [AV.agg [AV.val (Value.int IntKind.i64 n), AV.fn (Fn.func (55 : FuncId)) [] []]] [] (AV.val (Value.int IntKind.i64 n)) []]) rfl (by kernel_rfl) ⟨(decide_eq_true hc1), (MethOK.of (by kernel_rfl)), (zero_size (n)), trivial⟩ ?_ trivial trivial rfl
  · rw [show decide (a < n) = decide (0 ≤ a ∧ a < n) from decide_eq_decide.2 (by omega)]; rfl
  · rw [decide_eq_false (show ¬ (0 ≤ a ∧ a < n) by omega)]; rfl
theorem zero_read_ok (n a : Int) (h : 0 ≤ a ∧ a < n) : CallOK Try.prog 94 [.agg [I n, .fn (.func 55) [] []], I a] [] (.tup [.val (.int .u64 0), I 0]) [] := by
  refine CallOK.intro Try.call94 Try.func94 rfl rfl trivial ?_
  have f := zero_f false
  simp only [Bool.false_eq_true, if_false] at f
  refine Safe.ends mixed Go.Proofs.Try.func94 9 [⟨100, []⟩, ⟨200, [(3, .call [] (B true) [])]⟩, ⟨300, [(2, .call [] (I ((0 : Int))) [])]⟩] (r := .tup [.val (Value.int IntKind.u64 (0 : Int)), I ((0 : Int))]) (hp := []) (ob := [CallOK Try.prog (89 : Nat) ([] ++ [AV.ifc (118 : Nat) (AV.agg [AV.val (Value.int IntKind.i64 n), AV.fn (Fn.func (55 : FuncId)) [] []]), AV.val (Value.int IntKind.i64 a)] ++ []) [] (AV.val (Value.bool true)) [], CallOK Try.prog (55 : FuncId) ([] ++ [ofV (Value.bool false)] ++ []) [] (AV.val (Value.int IntKind.i64 (0 : Int))) []]) rfl (by kernel_rfl) ⟨(CallOK.isB (zero_has (n) (a)) (decide_eq_true h)), f, trivial⟩ rfl trivial trivial rfl
theorem zero_read_err (n a : Int) (h : ¬ (0 ≤ a ∧ a < n)) : CallOK Try.prog 94 [.agg [I n, .fn (.func 55) [] []], I a] [] (.tup [.val (.int .u64 0), I 1]) [] := by
  refine CallOK.intro Try.call94 Try.func94 rfl rfl trivial ?_
  refine Safe.ends mixed Go.Proofs.Try.func94 8 [⟨100, []⟩, ⟨200, [(3, .call [] (B false) [])]⟩, ⟨300, []⟩] (r := .tup [.val (Value.int IntKind.u64 (0 : Int)), I ((1 : Int))]) (hp := []) (ob := [CallOK Try.prog (89 : Nat) ([] ++ [AV.ifc (118 : Nat) (AV.agg [AV.val (Value.int IntKind.i64 n), AV.fn (Fn.func (55 : FuncId)) [] []]), AV.val (Value.int IntKind.i64 a)] ++ []) [] (AV.val (Value.bool false)) []]) rfl (by kernel_rfl) ⟨(CallOK.isB (zero_has (n) (a)) (decide_eq_false h)), trivial⟩ rfl trivial trivial rfl
theorem zero_write_ok (n a v : Int) (h : 0 ≤ a ∧ a < n) : CallOK Try.prog 96 [.agg [I n, .fn (.func 55) [] []], I a, .val (.int .u64 v)] [] (I 22) [] := by
  refine CallOK.intro Try.call96 Try.func96 rfl rfl trivial ?_
  have f := zero_f true
  simp only [if_true] at f
  refine Safe.ends mixed Go.Proofs.Try.func96 9 [⟨100, []⟩, ⟨200, [(3, .call [] (B true) [])]⟩, ⟨300, [(2, .call [] (I ((22 : Int))) [])]⟩] (r := I ((22 : Int))) (hp := []) (ob := [CallOK Try.prog (89 : Nat) ([] ++ [AV.ifc (118 : Nat) (AV.agg [AV.val (Value.int IntKind.i64 n), AV.fn (Fn.func (55 : FuncId)) [] []]), AV.val (Value.int IntKind.i64 a)] ++ []) [] (AV.val (Value.bool true)) [], CallOK Try.prog (55 : FuncId) ([] ++ [ofV (Value.bool true)] ++ []) [] (AV.val (Value.int IntKind.i64 (22 : Int))) []]) rfl (by kernel_rfl) ⟨(CallOK.isB (zero_has (n) (a)) (decide_eq_true h)), f, trivial⟩ rfl trivial trivial rfl
theorem zero_write_err (n a v : Int) (h : ¬ (0 ≤ a ∧ a < n)) : CallOK Try.prog 96 [.agg [I n, .fn (.func 55) [] []], I a, .val (.int .u64 v)] [] (I 1) [] := by
  refine CallOK.intro Try.call96 Try.func96 rfl rfl trivial ?_
  refine Safe.ends mixed Go.Proofs.Try.func96 8 [⟨100, []⟩, ⟨200, [(3, .call [] (B false) [])]⟩, ⟨300, []⟩] (r := I ((1 : Int))) (hp := []) (ob := [CallOK Try.prog (89 : Nat) ([] ++ [AV.ifc (118 : Nat) (AV.agg [AV.val (Value.int IntKind.i64 n), AV.fn (Fn.func (55 : FuncId)) [] []]), AV.val (Value.int IntKind.i64 a)] ++ []) [] (AV.val (Value.bool false)) []]) rfl (by kernel_rfl) ⟨(CallOK.isB (zero_has (n) (a)) (decide_eq_false h)), trivial⟩ rfl trivial trivial rfl
theorem fail_f (b : Bool) : CallOK Try.prog 56 [B b] [] (I (if b then 7 else 7)) [] := by
  refine CallOK.intro Try.call56 Try.func56 rfl rfl trivial ?_
  cases b
  · skip
    refine Safe.ends mixed Go.Proofs.Try.func56 4 [⟨100, []⟩, ⟨200, []⟩] (r := I ((7 : Int))) (hp := []) (ob := []) rfl (by kernel_rfl) trivial ?_ trivial trivial rfl
    · rfl
  · skip
    refine Safe.ends mixed Go.Proofs.Try.func56 4 [⟨100, []⟩, ⟨200, []⟩] (r := I ((7 : Int))) (hp := []) (ob := []) rfl (by kernel_rfl) trivial ?_ trivial trivial rfl
    · rfl
theorem fail_any (n : Int) : CallOK Try.prog 21 [I n] [] (.ifc 118 (.agg [I (max n 0), .fn (.func 56) [] []])) [] := by
  refine CallOK.intro Try.call21 Try.func21 rfl rfl trivial ?_
  refine Safe.ends mixed Go.Proofs.Try.func21 4 [⟨100, []⟩, ⟨200, []⟩] (r := .ifc ((118 : Nat)) (.agg [I (max n (0 : Int)), .fn (Fn.func (56 : Nat)) [] []])) (hp := []) (ob := []) rfl (by kernel_rfl) trivial rfl trivial trivial rfl
theorem fail_size (n : Int) : CallOK Try.prog 95 [.agg [I n, .fn (.func 56) [] []]] [] (I n) [] := by
  refine CallOK.intro Try.call95 Try.func95 rfl rfl trivial ?_
  refine Safe.ends mixed Go.Proofs.Try.func95 4 [⟨100, []⟩, ⟨200, []⟩] (r := I (n)) (hp := []) (ob := []) rfl (by kernel_rfl) trivial rfl trivial trivial rfl
theorem fail_flush (n : Int) : CallOK Try.prog 93 [.agg [I n, .fn (.func 56) [] []]] [] (I 0) [] := by
  refine CallOK.intro Try.call93 Try.func93 rfl rfl trivial ?_
  refine Safe.ends mixed Go.Proofs.Try.func93 4 [⟨100, []⟩, ⟨200, []⟩] (r := I ((0 : Int))) (hp := []) (ob := []) rfl (by kernel_rfl) trivial rfl trivial trivial rfl
theorem fail_has (n a : Int) : CallOK Try.prog 89 [.ifc 118 (.agg [I n, .fn (.func 56) [] []]), I a] [] (B (decide (0 ≤ a ∧ a < n))) [] := by
  refine CallOK.intro Try.call89 Try.func89 rfl rfl trivial ?_
  refine (Classical.em (a ≥ (0 : Int))).elim (fun hc1 => ?ga3) (fun hc1 => ?gb3)
  case' gb3 =>
    refine Safe.ends mixed Go.Proofs.Try.func89 4 [⟨100, []⟩, ⟨200, [(1, .tt false)]⟩] (r := B (false)) (hp := []) (ob := [decide (a ≥ (0 : Int)) = false]) rfl (by kernel_rfl) ⟨(decide_eq_false hc1), trivial⟩ ?_ trivial trivial rfl
  case' ga3 =>
    refine Safe.ends mixed Go.Proofs.Try.func89 4 [⟨100, []⟩, ⟨200, [(1, .tt true), (5, .inv 95 (.agg [I (n), .fn (Fn.func (56 : FuncId)) [] []]) [] (I (n)) [])]⟩] (r := B (decide (a < n))) (hp := []) (ob := [decide (a ≥ (0 : Int)) = true, MethOK Try.prog "Size" (AV.ifc (118 : Nat) (AV.agg [AV.val (Value.int IntKind.i64 n), AV.fn (Fn.func (56 : FuncId)) [] []])) (95 : Nat) (AV.agg [AV.val (Value.int IntKind.i64 n), AV.fn (Fn.func (56 : FuncId)) [] []]), CallOK Try.prog (95 : Nat) [AV.agg [AV.val (Value.int IntKind.i64 n), AV.fn (Fn.func (56 : FuncId)) [] []]] [] (AV.val (Value.int IntKind.i64 n)) []]) rfl (by kernel_rfl) ⟨(decide_eq_true hc1), (MethOK.of (by kernel_rfl)), (fail_size (n)), trivial⟩ ?_ trivial trivial rfl
  · rw [show decide (a < n) = decide (0 ≤ a ∧ a < n) from decide_eq_decide.2 (by omega)]; rfl
  · rw [decide_eq_false (show ¬ (0 ≤ a ∧ a < n) by omega)]; rfl
theorem fail_read_ok (n a : Int) (h : 0 ≤ a ∧ a < n) : CallOK Try.prog 94 [.agg [I n, .fn (.func 56) [] []], I a] [] (.tup [.val (.int .u64 0), I 7]) [] := by
  refine CallOK.intro Try.call94 Try.func94 rfl rfl trivial ?_
  have f := fail_f false
  simp only [Bool.false_eq_true, if_false] at f
  refine Safe.ends mixed Go.Proofs.Try.func94 9 [⟨100, []⟩, ⟨200, [(3, .call [] (B true) [])]⟩, ⟨300, [(2, .call [] (I ((7 : Int))) [])]⟩] (r := .tup [.val (Value.int IntKind.u64 (0 : Int)), I ((7 : Int))]) (hp := []) (ob := [CallOK Try.prog (89 : Nat) ([] ++ [AV.ifc (118 : Nat) (AV.agg [AV.val (Value.int IntKind.i64 n), AV.fn (Fn.func (56 : FuncId)) [] []]), AV.val (Value.int IntKind.i64 a)] ++ []) [] (AV.val (Value.bool true)) [], CallOK Try.prog (56 : FuncId) ([] ++ [ofV (Value.bool false)] ++ []) [] (AV.val (Value.int IntKind.i64 (7 : Int))) []]) rfl (by kernel_rfl) ⟨(CallOK.isB (fail_has (n) (a)) (decide_eq_true h)), f, trivial⟩ rfl trivial trivial rfl
theorem fail_read_err (n a : Int) (h : ¬ (0 ≤ a ∧ a < n)) : CallOK Try.prog 94 [.agg [I n, .fn (.func 56) [] []], I a] [] (.tup [.val (.int .u64 0), I 1]) [] := by
  refine CallOK.intro Try.call94 Try.func94 rfl rfl trivial ?_
  refine Safe.ends mixed Go.Proofs.Try.func94 8 [⟨100, []⟩, ⟨200, [(3, .call [] (B false) [])]⟩, ⟨300, []⟩] (r := .tup [.val (Value.int IntKind.u64 (0 : Int)), I ((1 : Int))]) (hp := []) (ob := [CallOK Try.prog (89 : Nat) ([] ++ [AV.ifc (118 : Nat) (AV.agg [AV.val (Value.int IntKind.i64 n), AV.fn (Fn.func (56 : FuncId)) [] []]), AV.val (Value.int IntKind.i64 a)] ++ []) [] (AV.val (Value.bool false)) []]) rfl (by kernel_rfl) ⟨(CallOK.isB (fail_has (n) (a)) (decide_eq_false h)), trivial⟩ rfl trivial trivial rfl
theorem fail_write_ok (n a v : Int) (h : 0 ≤ a ∧ a < n) : CallOK Try.prog 96 [.agg [I n, .fn (.func 56) [] []], I a, .val (.int .u64 v)] [] (I 7) [] := by
  refine CallOK.intro Try.call96 Try.func96 rfl rfl trivial ?_
  have f := fail_f true
  simp only [if_true] at f
  refine Safe.ends mixed Go.Proofs.Try.func96 9 [⟨100, []⟩, ⟨200, [(3, .call [] (B true) [])]⟩, ⟨300, [(2, .call [] (I ((7 : Int))) [])]⟩] (r := I ((7 : Int))) (hp := []) (ob := [CallOK Try.prog (89 : Nat) ([] ++ [AV.ifc (118 : Nat) (AV.agg [AV.val (Value.int IntKind.i64 n), AV.fn (Fn.func (56 : FuncId)) [] []]), AV.val (Value.int IntKind.i64 a)] ++ []) [] (AV.val (Value.bool true)) [], CallOK Try.prog (56 : FuncId) ([] ++ [ofV (Value.bool true)] ++ []) [] (AV.val (Value.int IntKind.i64 (7 : Int))) []]) rfl (by kernel_rfl) ⟨(CallOK.isB (fail_has (n) (a)) (decide_eq_true h)), f, trivial⟩ rfl trivial trivial rfl
theorem fail_write_err (n a v : Int) (h : ¬ (0 ≤ a ∧ a < n)) : CallOK Try.prog 96 [.agg [I n, .fn (.func 56) [] []], I a, .val (.int .u64 v)] [] (I 1) [] := by
  refine CallOK.intro Try.call96 Try.func96 rfl rfl trivial ?_
  refine Safe.ends mixed Go.Proofs.Try.func96 8 [⟨100, []⟩, ⟨200, [(3, .call [] (B false) [])]⟩, ⟨300, []⟩] (r := I ((1 : Int))) (hp := []) (ob := [CallOK Try.prog (89 : Nat) ([] ++ [AV.ifc (118 : Nat) (AV.agg [AV.val (Value.int IntKind.i64 n), AV.fn (Fn.func (56 : FuncId)) [] []]), AV.val (Value.int IntKind.i64 a)] ++ []) [] (AV.val (Value.bool false)) []]) rfl (by kernel_rfl) ⟨(CallOK.isB (fail_has (n) (a)) (decide_eq_false h)), trivial⟩ rfl trivial trivial rfl
end Go.Proofs.Ytcoilldcghamdaa
