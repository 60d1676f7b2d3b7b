/- Sound over a device. No conditions but those of each theorem. -/
import Derived.Test.YtbgbjgedjmhcaaaSyZ
import Derived.KernelRfl
import Derived.Test.YtbgbjgedjmhcaaaS8
namespace Go.Proofs.Ytbgbjgedjmhcaaa
open Go.RowKit
open OldD (Dk Un Wr Sc hs hd chk3 chk4 rdV wrE wrK flK reK up upto pFail pFlush)
set_option linter.unusedVariables false
set_option linter.unnecessarySimpa false
set_option linter.unusedSimpArgs false
set_option maxRecDepth 10000
set_option maxHeartbeats 2000000 in
theorem ssound (m : Nat) (sz : Nat → Nat) (n c N : Nat) (h : StL sz n c N) (hz : ∀ d, d < n → sz d ≤ 1000) (hN : 1 ≤ N) (hN2 : N ≤ 1000) (Y : List Int) (q : Nat) (hq : q + N ≤ Y.length) (l : List Stp) (hl : l.length ≤ 24) (k0 : Dk) (r : Rn k0 n sz N (plS c n) (tr0 ((Y.drop q).take N)) 0) :
    CallOK Try.prog 40 [.ptr 0 0 0 0, .fn (.func 39) [] [.ptr 3 0 0 0, .ptr 4 0 0 0], .sl 12 q 1 N none, .sl 13 0 4 l.length none] [(0, .box (dbox m k0)), (3, .blk 37 [.ptr 0 0 0 0]), (4, .blk 3 [I c]), (12, .ro 1 Y.length (rowG encU Y)), (13, .ro 4 l.length (rowG encSt l))] (B true) [(0, none)] := by
  refine CallOK.intro Try.call40 Try.func40 rfl rfl ⟨rfl, trivial, rfl, rfl, rfl, rfl, rfl, fun _ => rfl, rfl, fun _ => rfl, trivial⟩ ?_
  refine Safe.withLoop (loopAt Try.f40 0) [0, 3, 4, 12, 13, 5, 1, 6, 2] 150 (fun g : Nat × Dk × (Nat → Sc) => [(0, .ptr 0 0 0 0), (1, .fn (.func 39) [] [.ptr 3 0 0 0, .ptr 4 0 0 0]), (2, .sl 12 q 1 N none), (3, .sl 13 0 4 l.length none), (9, .ptr 5 0 0 0), (10, .ifc 123 (.ptr 1 0 0 0)), (12, I g.1)]) (fun g => [(0, .box (dbox m g.2.1)), (3, .blk 37 [.ptr 0 0 0 0]), (4, .blk 3 [I c]), (12, .ro 1 Y.length (rowG encU Y)), (13, .ro 4 l.length (rowG encSt l)), (5, .blk 177 [.sl 6 0 3 N none]), (1, .blk 128 [I c, I n, .sl 2 0 1 n none, I N]), (6, .box (sbox N (g.2.2))), (2, .vec 43 1 n (rowN encSp 0 (spL sz n)))]) (fun g => g.1 ≤ l.length ∧ Rn g.2.1 n sz N (plS c n) g.2.2 g.1) (fun g => l.length - g.1) ?_ ?_
  · rintro ⟨i, k, f⟩ ⟨hi, r⟩ ih
    dsimp only at hi r ih ⊢
    by_cases hlt : i < l.length
    · have ih1 : ∀ k2 f2, Rn k2 n sz N (plS c n) f2 (i + 1) → Safe Try.prog 40 [(0, .box (dbox m k0)), (3, .blk 37 [.ptr 0 0 0 0]), (4, .blk 3 [I c]), (12, .ro 1 Y.length (rowG encU Y)), (13, .ro 4 l.length (rowG encSt l))] (B true) [(0, none)] (loopAt Try.f40 0) ⟨slotsOf 150 [(0, .ptr 0 0 0 0), (1, .fn (.func 39) [] [.ptr 3 0 0 0, .ptr 4 0 0 0]), (2, .sl 12 q 1 N none), (3, .sl 13 0 4 l.length none), (9, .ptr 5 0 0 0), (10, .ifc 123 (.ptr 1 0 0 0)), (12, I ((i + 1 : Nat) : Int))], [(0, .box (dbox m k2)), (3, .blk 37 [.ptr 0 0 0 0]), (4, .blk 3 [I c]), (12, .ro 1 Y.length (rowG encU Y)), (13, .ro 4 l.length (rowG encSt l)), (5, .blk 177 [.sl 6 0 3 N none]), (1, .blk 128 [I c, I n, .sl 2 0 1 n none, I N]), (6, .box (sbox N f2)), (2, .vec 43 1 n (rowN encSp 0 (spL sz n)))]⟩ [0, 3, 4, 12, 13, 5, 1, 6, 2] := fun k2 f2 r2 => ih (i + 1, k2, f2) ⟨hlt, r2⟩ (by dsimp only; omega)
      by_cases q0 : (l.getD i default).k = 0
      · by_cases hf : k.fuse = 1
        · exact sso_wf m sz n c N h hz hN hN2 Y q l hl k0 k f i hlt r q0 hf ih1
        · exact sso_wr m sz n c N h hz hN hN2 Y q l hl k0 k f i hlt r q0 hf ih1
      · by_cases q1 : (l.getD i default).k = 1
        · exact sso_rd m sz n c N h hz hN hN2 Y q l hl k0 k f i hlt r q1 ih1
        · by_cases q2 : (l.getD i default).k = 2
          · exact sso_fl m sz n c N h hz hN hN2 Y q l hl k0 k f i hlt r q2 ih1
          · by_cases q3 : (l.getD i default).k = 3
            · exact sso_pf m sz n c N h hz hN hN2 Y q l hl k0 k f i hlt r q3 ih1
            · by_cases q4 : (l.getD i default).k = 4
              · exact sso_fu m sz n c N h hz hN hN2 Y q l hl k0 k f i hlt r q4 ih1
              · exact sso_no m sz n c N h hz hN hN2 Y q l hl k0 k f i hlt r q0 q1 q2 q3 q4 ih1
    · obtain rfl : i = l.length := by omega
      exact sso_end m sz n c N h hz hN hN2 Y q l hl k0 k f r
  · intro H
    have tk := tracked_q Y q N hN hq hN2
    have op := sopen_any m k0 sz n c N h r.s.g hz
    have vs := ssz_any m k0 sz n c N h
    have hNN : (N : Int) = N := rfl
    have hN0 : ¬ (N : Int) = 0 := by omega
    have H0 := H (0, k0, tr0 ((Y.drop q).take N)) ⟨Nat.zero_le _, r⟩
    clear H
    generalize tr0 ((Y.drop q).take N) = f0 at tk H0 r
    refine Safe.goto mixed 21 [⟨1100, []⟩, ⟨1200, [(1, .call [12] (.ptr 1255 0 0 0) [(1255, some (.blk 177 [.sl 1256 0 3 N none])), (1256, some (.box (sbox N f0)))])]⟩, ⟨1300, [(1, .call [0, 3, 4] (.tup [.ifc 123 (.ptr 1355 0 0 0), B true]) [(0, some (.box (dbox m k0))), (1355, some (.blk 128 [I ((↑c : Int)), I ((↑n : Int)), .sl 1356 0 1 n none, I ((↑N : Int))])), (1356, some (.vec 43 1 n (rowN encSp (0 : Nat) (spL sz n))))])]⟩, ⟨1400, [(8, .inv 165 (.ptr 1355 0 0 0) [0, 1355, 1356] (I ((↑N : Int))) []), (11, .tt false)]⟩, ⟨1500, [(2, .tt false)]⟩, ⟨1600, []⟩] [0, 1, 2, 3, 9, 10, 12] [0, 3, 4, 12, 13, 1255, 1355, 1256, 1356] (todo' := loopAt Try.f40 0) (sl := slotsOf 150 [(0, .ptr 0 0 0 0), (1, .fn (Fn.func (39 : FuncId)) [] [.ptr 3 0 0 0, .ptr 4 0 0 0]), (2, .sl 12 q 1 N none), (3, .sl 13 0 4 l.length none), (9, .ptr 1255 0 0 0), (10, .ifc 123 (.ptr 1355 0 0 0)), (12, I 0)]) (hp := [(0, .box (dbox m k0)), (3, .blk 37 [.ptr 0 0 0 0]), (4, .blk 3 [I ((↑c : Int))]), (12, .ro 1 Y.length (rowG encU Y)), (13, .ro 4 l.length (rowG encSt l)), (1255, .blk 177 [.sl 1256 0 3 N none]), (1355, .blk 128 [I ((↑c : Int)), I ((↑n : Int)), .sl 1356 0 1 n none, I ((↑N : Int))]), (1256, .box (sbox N f0)), (1356, .vec 43 1 n (rowN encSp (0 : Nat) (spL sz n)))]) (ob := [CallOK Try.prog (74 : Nat) ([] ++ [AV.sl (12 : Nat) q (1 : Nat) N none] ++ []) [((12 : Nat), Ob.ro (1 : Nat) Y.length (rowG encU Y))] (AV.ptr (1255 : Nat) (0 : Nat) (0 : Nat) (0 : Nat)) [((1255 : Nat), some (Ob.blk (177 : Nat) [AV.sl (1256 : Nat) (0 : Nat) (3 : Nat) N none])), ((1256 : Nat), some (Ob.box (sbox N f0)))], CallOK Try.prog (39 : FuncId) ([] ++ [] ++ [AV.ptr (3 : Nat) (0 : Nat) (0 : Nat) (0 : Nat), AV.ptr (4 : Nat) (0 : Nat) (0 : Nat) (0 : Nat)]) [((0 : Nat), Ob.box (dbox m k0)), ((3 : Nat), Ob.blk (37 : Nat) [AV.ptr (0 : Nat) (0 : Nat) (0 : Nat) (0 : Nat)]), ((4 : Nat), Ob.blk (3 : Nat) [AV.val (Value.int IntKind.i64 (↑c : Int))])] (AV.tup [AV.ifc (123 : Nat) (AV.ptr (1355 : Nat) (0 : Nat) (0 : Nat) (0 : Nat)), AV.val (Value.bool true)]) [((0 : Nat), some (Ob.box (dbox m k0))), ((1355 : Nat), some (Ob.blk (128 : Nat) [AV.val (Value.int IntKind.i64 (↑c : Int)), AV.val (Value.int IntKind.i64 (↑n : Int)), AV.sl (1356 : Nat) (0 : Nat) (1 : Nat) n none, AV.val (Value.int IntKind.i64 (↑N : Int))])), ((1356 : Nat), some (Ob.vec (43 : Nat) (1 : Nat) n (rowN encSp (0 : Nat) (spL sz n))))], MethOK Try.prog "Size" (AV.ifc (123 : Nat) (AV.ptr (1355 : Nat) (0 : Nat) (0 : Nat) (0 : Nat))) (165 : Nat) (AV.ptr (1355 : Nat) (0 : Nat) (0 : Nat) (0 : Nat)), CallOK Try.prog (165 : Nat) [AV.ptr (1355 : Nat) (0 : Nat) (0 : Nat) (0 : Nat)] [((0 : Nat), Ob.box (dbox m k0)), ((1355 : Nat), Ob.blk (128 : Nat) [AV.val (Value.int IntKind.i64 (↑c : Int)), AV.val (Value.int IntKind.i64 (↑n : Int)), AV.sl (1356 : Nat) (0 : Nat) (1 : Nat) n none, AV.val (Value.int IntKind.i64 (↑N : Int))]), ((1356 : Nat), Ob.vec (43 : Nat) (1 : Nat) n (rowN encSp (0 : Nat) (spL sz n)))] (AV.val (Value.int IntKind.i64 (↑N : Int))) [], (decide ¬(↑N : Int) = (↑N : Int)) = false, decide ((↑N : Int) = (0 : Int)) = false]) rfl rfl (by kernel_rfl) ⟨(CallOK.ren tk [(0, 12), (10, 1255), (11, 1256)] [0, 10, 11] rfl rfl rfl rfl ⟨rfl, fun _ => rfl, trivial⟩ rfl ⟨rfl, fun _ => rfl, rfl, rfl, rfl, trivial, trivial⟩), (CallOK.ren op [(3, 3), (4, 4), (0, 0), (10, 1355), (11, 1356)] [3, 4, 0, 10, 11] rfl rfl rfl rfl ⟨rfl, trivial, rfl, rfl, rfl, rfl, trivial⟩ rfl ⟨rfl, trivial, rfl, rfl, rfl, rfl, rfl, rfl, rfl, fun _ => rfl, trivial⟩), (MethOK.of (by kernel_rfl)), (CallOK.ren (CallOK.own 43 2 (es := (1 : Nat)) (n := n) (row := rowN encSp (0 : Nat) (spL sz n)) rfl rfl rfl vs) [(1, 1355), (2, 1356), (0, 0)] [1, 2, 0] rfl rfl rfl rfl ⟨rfl, trivial, rfl, rfl, rfl, fun _ => rfl, trivial⟩ rfl ⟨rfl, trivial, rfl, rfl, rfl, fun _ => rfl, trivial⟩), (decide_eq_false (fun hn => hn hNN)), (decide_eq_false hN0), trivial⟩ rfl ⟨rfl, trivial, rfl, rfl, rfl, rfl, rfl, fun _ => rfl, rfl, fun _ => rfl, rfl, rfl, rfl, rfl, rfl, trivial, rfl, fun _ => rfl, trivial⟩ ?_
    refine Safe.ren [(1255, 5), (1355, 1), (1256, 6), (1356, 2)] rfl rfl rfl rfl ⟨rfl, trivial, rfl, rfl, rfl, rfl, rfl, fun _ => rfl, rfl, fun _ => rfl, rfl, rfl, rfl, rfl, rfl, trivial, rfl, fun _ => rfl, trivial⟩ ?_
    · exact H0
end Go.Proofs.Ytbgbjgedjmhcaaa
