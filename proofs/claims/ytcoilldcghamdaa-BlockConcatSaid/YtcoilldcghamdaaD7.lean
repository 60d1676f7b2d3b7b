/- A reader over a span. No conditions but those of each theorem. -/
import Derived.Test.YtcoilldcghamdaaSyZ
import Derived.KernelRfl
import Derived.Test.YtcoilldcghamdaaD6
namespace Go.Proofs.Ytcoilldcghamdaa
open Go.RowKit
open OldD (DA Dk Co fp Gr Row Fresh hid hd hs gu nk good ldK ge vu Ar un stF chk3 chk4 rdV wrE wrK flK)
set_option linter.unusedVariables false
set_option linter.unusedSimpArgs false
theorem reader_any (m : Nat) (k : Dk) (d s n : Int) : CallOK Try.prog 34 [.ifc 100 (.agg [.ptr 0 0 0 0, I d, I s, I n])] [(0, .box (dbox m k))] (.ifc 128 (.agg [.ifc 100 (.agg [.ptr 0 0 0 0, I d, I s, I n])])) [] := by
  refine CallOK.intro Try.call34 Try.func34 rfl rfl ⟨rfl, trivial, trivial⟩ ?_
  refine Safe.ends mixed Go.Proofs.Try.func34 4 [⟨1100, []⟩, ⟨1200, []⟩] (r := .ifc ((128 : Nat)) (.agg [.ifc ((100 : Nat)) (.agg [.ptr ((0 : Nat)) ((0 : Nat)) ((0 : Nat)) ((0 : Nat)), I (d), I (s), I (n)])])) (hp := [(0, .box (dbox m k))]) (ob := []) rfl (by kernel_rfl) trivial rfl ⟨ObLe.refl _, trivial⟩ ⟨rfl, trivial, trivial⟩ rfl
theorem has_reader (m : Nat) (k : Dk) (d s n a : Int) : CallOK Try.prog 89 [.ifc 128 (.agg [.ifc 100 (.agg [.ptr 0 0 0 0, I d, I s, I n])]), I a] [(0, .box (dbox m k))] (B (decide (0 ≤ a ∧ a < n))) [] := by
  refine CallOK.intro Try.call89 Try.func89 rfl rfl ⟨rfl, trivial, trivial⟩ ?_
  refine (Classical.em (a ≥ (0 : Int))).elim (fun hc1 => ?ga0) (fun hc1 => ?gb0)
  case' gb0 =>
    refine Safe.ends mixed Go.Proofs.Try.func89 4 [⟨1100, []⟩, ⟨1200, [(1, .tt false)]⟩] (r := B (false)) (hp := [(0, .box (dbox m k))]) (ob := [decide (a ≥ (0 : Int)) = false]) rfl (by kernel_rfl) ⟨(decide_eq_false hc1), trivial⟩ ?_ ⟨ObLe.refl _, trivial⟩ ⟨rfl, trivial, trivial⟩ rfl
  case' ga0 =>
    refine Safe.ends mixed Go.Proofs.Try.func89 4 [⟨1100, []⟩, ⟨1200, [(1, .tt true), (5, .inv 87 (.agg [.ptr ((0 : Nat)) ((0 : Nat)) ((0 : Nat)) ((0 : Nat)), I (d), I (s), I (n)]) [0] (I (n)) [])]⟩] (r := B (decide (a < n))) (hp := [(0, .box (dbox m k))]) (ob := [decide (a ≥ (0 : Int)) = true, MethOK Try.prog "Size" (AV.ifc (128 : Nat) (AV.agg [AV.ifc (100 : Nat) (AV.agg [AV.ptr (0 : Nat) (0 : Nat) (0 : Nat) (0 : Nat), AV.val (Value.int IntKind.i64 d), AV.val (Value.int IntKind.i64 s), AV.val (Value.int IntKind.i64 n)])])) (87 : Nat) (AV.agg [AV.ptr (0 : Nat) (0 : Nat) (0 : Nat) (0 : Nat), AV.val (Value.int IntKind.i64 d), AV.val (Value.int IntKind.i64 s), AV.val (Value.int IntKind.i64 n)]), CallOK Try.prog (87 : Nat) [AV.agg [AV.ptr (0 : Nat) (0 : Nat) (0 : Nat) (0 : Nat), AV.val (Value.int IntKind.i64 d), AV.val (Value.int IntKind.i64 s), AV.val (Value.int IntKind.i64 n)]] [((0 : Nat), Ob.box (dbox m k))] (AV.val (Value.int IntKind.i64 n)) []]) rfl (by kernel_rfl) ⟨(decide_eq_true hc1), (MethOK.of (by kernel_rfl)), (spsize_any (m) (k) (d) (s) (n)), trivial⟩ ?_ ⟨ObLe.refl _, trivial⟩ ⟨rfl, trivial, trivial⟩ rfl
  · rw [show decide (a < n) = decide (0 ≤ a ∧ a < n) from decide_eq_decide.2 (by omega)]; rfl
  · rw [decide_eq_false (show ¬ (0 ≤ a ∧ a < n) by omega)]; rfl
theorem rdwrite_ok (m : Nat) (k : Dk) (d s n a v : Int) (ha : 0 ≤ a ∧ a < n) : CallOK Try.prog 104 [.agg [.ifc 100 (.agg [.ptr 0 0 0 0, I d, I s, I n])], I a, .val (.int .u64 v)] [(0, .box (dbox m k))] (I 22) [] := by
  refine CallOK.intro Try.call104 Try.func104 rfl rfl ⟨rfl, trivial, trivial⟩ ?_
  refine Safe.ends mixed Go.Proofs.Try.func104 9 [⟨1100, []⟩, ⟨1200, [(3, .call [0] (B true) [])]⟩, ⟨1300, []⟩] (r := I ((22 : Int))) (hp := [(0, .box (dbox m k))]) (ob := [CallOK Try.prog (89 : Nat) ([] ++ [AV.ifc (128 : Nat) (AV.agg [AV.ifc (100 : Nat) (AV.agg [AV.ptr (0 : Nat) (0 : Nat) (0 : Nat) (0 : Nat), AV.val (Value.int IntKind.i64 d), AV.val (Value.int IntKind.i64 s), AV.val (Value.int IntKind.i64 n)])]), AV.val (Value.int IntKind.i64 a)] ++ []) [((0 : Nat), Ob.box (dbox m k))] (AV.val (Value.bool true)) []]) rfl (by kernel_rfl) ⟨(CallOK.isB (has_reader (m) (k) (d) (s) (n) (a)) (decide_eq_true ha)), trivial⟩ rfl ⟨ObLe.refl _, trivial⟩ ⟨rfl, trivial, trivial⟩ rfl
theorem rdwrite_err (m : Nat) (k : Dk) (d s n a v : Int) (ha : ¬ (0 ≤ a ∧ a < n)) : CallOK Try.prog 104 [.agg [.ifc 100 (.agg [.ptr 0 0 0 0, I d, I s, I n])], I a, .val (.int .u64 v)] [(0, .box (dbox m k))] (I 1) [] := by
  refine CallOK.intro Try.call104 Try.func104 rfl rfl ⟨rfl, trivial, trivial⟩ ?_
  refine Safe.ends mixed Go.Proofs.Try.func104 8 [⟨1100, []⟩, ⟨1200, [(3, .call [0] (B false) [])]⟩, ⟨1300, []⟩] (r := I ((1 : Int))) (hp := [(0, .box (dbox m k))]) (ob := [CallOK Try.prog (89 : Nat) ([] ++ [AV.ifc (128 : Nat) (AV.agg [AV.ifc (100 : Nat) (AV.agg [AV.ptr (0 : Nat) (0 : Nat) (0 : Nat) (0 : Nat), AV.val (Value.int IntKind.i64 d), AV.val (Value.int IntKind.i64 s), AV.val (Value.int IntKind.i64 n)])]), AV.val (Value.int IntKind.i64 a)] ++ []) [((0 : Nat), Ob.box (dbox m k))] (AV.val (Value.bool false)) []]) rfl (by kernel_rfl) ⟨(CallOK.isB (has_reader (m) (k) (d) (s) (n) (a)) (decide_eq_false ha)), trivial⟩ rfl ⟨ObLe.refl _, trivial⟩ ⟨rfl, trivial, trivial⟩ rfl
end Go.Proofs.Ytcoilldcghamdaa
