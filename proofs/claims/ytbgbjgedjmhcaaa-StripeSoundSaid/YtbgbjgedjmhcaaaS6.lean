/- Opening a striped device again. No conditions but those of each theorem. -/
import Derived.Test.YtbgbjgedjmhcaaaSyZ
import Derived.KernelRfl
import Derived.Test.YtbgbjgedjmhcaaaS5
import Derived.Test.YtbgbjgedjmhcaaaDSp
namespace Go.Proofs.Ytbgbjgedjmhcaaa
open Go.RowKit
open OldD (Dk Un Wr Sc hs hd chk3 chk4 rdV wrE wrK flK reK up upto pFail pFlush)
set_option linter.unusedVariables false
set_option linter.unnecessarySimpa false
set_option linter.unusedSimpArgs false
set_option maxRecDepth 10000
set_option maxHeartbeats 2000000 in
theorem sopen_any (m : Nat) (k : Dk) (sz : Nat → Nat) (n c N : Nat) (h : StL sz n c N) {x : Nat} (g : Gk k n sz x) (hz : ∀ d, d < n → sz d ≤ 1000) :
    CallOK Try.prog 39 [.ptr 3 0 0 0, .ptr 4 0 0 0] [(0, .box (dbox m k)), (3, .blk 37 [.ptr 0 0 0 0]), (4, .blk 3 [I c])] (.tup [.ifc 123 (.ptr 10 0 0 0), B true])
      [(0, some (.box (dbox m k))), (10, some (.blk 128 [I c, I n, .sl 11 0 1 n none, I N])), (11, some (.vec 43 1 n (rowN encSp 0 (spL sz n))))] := by
  refine CallOK.intro Try.call39 Try.func39 rfl rfl ⟨rfl, trivial, rfl, rfl, rfl, rfl, trivial⟩ ?_
  have sp := spansG m n sz k (by have := h.n1; omega) g.ul (fun i hi => ⟨g.sz hi, (h.z i hi).1, hz i hi⟩)
  have nws := snw_any m k sz n c N h
  have hc := h.c1
  refine Safe.gotoE mixed 6 [⟨1100, []⟩, ⟨1200, [(1, .call [0] (.sl 1255 0 1 n none) [(0, some (.box (dbox m k))), (1255, some (.vec 43 1 n (rowN encSp (0 : Nat) (spL sz n))))]), (3, .call [0, 1255] (.tup [.ifc 123 (.ptr 1265 0 0 0), I 0]) [(1265, some (.blk 128 [I ((↑c : Int)), I ((↑n : Int)), .sl 1266 0 1 n none, I ((↑N : Int))])), (1266, some (.vec 43 1 n (rowN encSp (0 : Nat) (spL sz n))))])]⟩, ⟨1300, []⟩] [2, 3] [0, 3, 4, 1265, 1266] (sl := slotsOf 16 [(2, .ifc 123 (.ptr 1265 0 0 0)), (3, B true)]) (hp := [(0, .box (dbox m k)), (3, .blk 37 [.ptr 0 0 0 0]), (4, .blk 3 [I ((↑c : Int))]), (1265, .blk 128 [I ((↑c : Int)), I ((↑n : Int)), .sl 1266 0 1 n none, I ((↑N : Int))]), (1266, .vec 43 1 n (rowN encSp (0 : Nat) (spL sz n)))]) (ob := [CallOK Try.prog (22 : Nat) ([] ++ [AV.ptr (0 : Nat) (0 : Nat) (0 : Nat) (0 : Nat)] ++ []) [((0 : Nat), Ob.box (dbox m k))] (AV.sl (1255 : Nat) (0 : Nat) (1 : Nat) n none) [((0 : Nat), some (Ob.box (dbox m k))), ((1255 : Nat), some (Ob.vec (43 : Nat) (1 : Nat) n (rowN encSp (0 : Nat) (spL sz n))))], CallOK Try.prog (36 : Nat) ([] ++ [AV.sl (1255 : Nat) (0 : Nat) (1 : Nat) n none, AV.val (Value.int IntKind.i64 (↑c : Int))] ++ []) [((0 : Nat), Ob.box (dbox m k)), ((1255 : Nat), Ob.vec (43 : Nat) (1 : Nat) n (rowN encSp (0 : Nat) (spL sz n)))] (AV.tup [AV.ifc (123 : Nat) (AV.ptr (1265 : Nat) (0 : Nat) (0 : Nat) (0 : Nat)), AV.val (Value.int IntKind.i64 (0 : Int))]) [((1265 : Nat), some (Ob.blk (128 : Nat) [AV.val (Value.int IntKind.i64 (↑c : Int)), AV.val (Value.int IntKind.i64 (↑n : Int)), AV.sl (1266 : Nat) (0 : Nat) (1 : Nat) n none, AV.val (Value.int IntKind.i64 (↑N : Int))])), ((1266 : Nat), some (Ob.vec (43 : Nat) (1 : Nat) n (rowN encSp (0 : Nat) (spL sz n))))]]) rfl rfl (by kernel_rfl) ⟨(CallOK.ren sp [(0, 0), (10, 1255)] [0, 10] rfl rfl rfl rfl ⟨rfl, trivial, trivial⟩ rfl ⟨rfl, trivial, rfl, fun _ => rfl, trivial⟩), (CallOK.ren (CallOK.own 43 1 (es := (1 : Nat)) (n := n) (row := rowN encSp (0 : Nat) (spL sz n)) rfl rfl rfl nws) [(1, 1255), (0, 0), (10, 1265), (11, 1266)] [1, 0, 10, 11] rfl rfl rfl rfl ⟨rfl, trivial, rfl, fun _ => rfl, trivial⟩ rfl ⟨rfl, trivial, rfl, fun _ => rfl, rfl, rfl, rfl, fun _ => rfl, trivial⟩), trivial⟩ rfl ⟨rfl, trivial, rfl, rfl, rfl, rfl, rfl, rfl, rfl, fun _ => rfl, trivial⟩ fun td htd => ?_
  refine Safe.ren [(1265, 10), (1266, 11)] rfl rfl rfl rfl ⟨rfl, trivial, rfl, rfl, rfl, rfl, rfl, rfl, rfl, fun _ => rfl, trivial⟩ ?_
  refine Safe.endsT Try.func39 htd (r := .tup [.ifc 123 (.ptr 10 0 0 0), B true]) (hp := [(0, .box (dbox m k)), (3, .blk 37 [.ptr 0 0 0 0]), (4, .blk 3 [I ((↑c : Int))]), (10, .blk 128 [I ((↑c : Int)), I ((↑n : Int)), .sl 11 0 1 n none, I ((↑N : Int))]), (11, .vec 43 1 n (rowN encSp (0 : Nat) (spL sz n)))]) (ob := []) rfl (by kernel_rfl) trivial rfl ⟨ObLe.refl _, ObLe.refl _, ObLe.refl _, ObLe.refl _, ObLe.refl _, trivial⟩ ⟨rfl, trivial, rfl, rfl, rfl, rfl, rfl, rfl, rfl, fun _ => rfl, trivial⟩ rfl
  all_goals exact ⟨rfl, rfl, rfl, fun _ _ => rfl⟩
end Go.Proofs.Ytbgbjgedjmhcaaa
