/- StripeSound: from the sectors' first values on. No conditions but those of each theorem. -/
import Derived.Test.YtbgbjgedjmhcaaaSyZ
import Derived.KernelRfl
import Derived.Test.YtbgbjgedjmhcaaaSA
import Derived.Test.YtbgbjgedjmhcaaaS9
import Derived.Test.YtbgbjgedjmhcaaaDLd
import Derived.Test.YtbgbjgedjmhcaaaDRq
import Derived.Test.YtbgbjgedjmhcaaaDCa
namespace Go.Proofs.Ytbgbjgedjmhcaaa
open Go.RowKit
open OldD (Dk Un Wr Sc hs hd chk3 chk4 rdV wrE wrK flK reK up upto pFail pFlush ge gu)
set_option linter.unusedVariables false
set_option linter.unnecessarySimpa false
set_option linter.unusedSimpArgs false
set_option maxRecDepth 10000
/-- lists of words that fill disks -/
def LB4 (LL : List (List Int)) : Prop := (1 ≤ LL.length ∧ LL.length ≤ 4) ∧ ∀ d, d < LL.length → 1 ≤ (LL.getD d []).length ∧ (LL.getD d []).length ≤ 1000
theorem stL_of (LL : List (List Int)) (hL : LB4 LL) (c : Nat) (hc : 1 ≤ c ∧ c ≤ 65536) : ∃ N, StL (szL LL) LL.length c N := by
  have b := sSz_bd (c := (c : Int)) (L := spL (szL LL) LL.length) (by omega) (by rw [spL_len]; exact hL.1.1) (fun j hj => by
    rw [spL_len] at hj
    rw [spL_at _ _ _ hj]
    have := hL.2 j hj
    show 0 ≤ ((LL.getD j []).length : Int) ∧ ((LL.getD j []).length : Int) ≤ 1073741824
    omega) (by rw [spL_len]; have := hL.1.2; omega)
  exact ⟨(sSz (c : Int) (spL (szL LL) LL.length)).toNat, hc, ⟨hL.1.1, by have := hL.1.2; omega⟩, fun d hd => by have := hL.2 d hd; unfold szL; omega, by omega⟩
/-- the first values of the sectors -/
def iniL (LL : List (List Int)) (c : Nat) (i : Nat) : List Int := (List.range i).map fun j => ge (LL.getD (plS c LL.length j).1 []) (plS c LL.length j).2
theorem iniL_len (LL : List (List Int)) (c i : Nat) : (iniL LL c i).length = i := by simp [iniL]
theorem iniL_succ (LL : List (List Int)) (c i : Nat) : iniL LL c (i + 1) = iniL LL c i ++ [ge (LL.getD (plS c LL.length i).1 []) (plS c LL.length i).2] := by simp [iniL, List.range_succ]
theorem iniL_at (LL : List (List Int)) (c k i : Nat) (h : i < k) : ge (iniL LL c k) i = ge (LL.getD (plS c LL.length i).1 []) (plS c LL.length i).2 := by
  simp [iniL, ge, List.getD_eq_getElem?_getD, h]
theorem ini_rn (LL : List (List Int)) (c N : Nat) (h : StL (szL LL) LL.length c N) : Rn (dkN LL) LL.length (szL LL) N (plS c LL.length) (tr0 (((iniL LL c N).drop 0).take N)) 0 := by
  obtain ⟨g, key⟩ := dkN_gk LL
  have Ly := h.lay.1
  have e : ((iniL LL c N).drop 0).take N = iniL LL c N := by
    rw [List.drop_zero, List.take_of_length_le]; rw [iniL_len]; exact Nat.le_refl _
  rw [e]
  have a5 : (dkN LL).down = false := (dkN_all LL).2.2.2.2.1
  refine ⟨⟨g, fun i hi => ?_, fun i hi w hw => ?_, fun i hi => Nat.le_refl 1⟩, a5, fun i hi => ⟨rfl, ?_⟩⟩
  · rw [(key _ _ (Ly.inr i hi).1).2]; show _ ∈ [ge (iniL LL c N) i]; rw [iniL_at _ _ _ _ hi]; exact List.mem_singleton.2 rfl
  · rw [(dkN_all LL).2.1] at hw; cases hw
  · rw [(key _ _ (Ly.inr i hi).1).1]; exact iniL_at _ _ _ _ hi
theorem srd_errT (m : Nat) (k : Dk) (sz : Nat → Nat) (n c N : Nat) (h : StL sz n c N) :
    CallOK Try.prog 164 [.ptr 1 0 0 0, I N] [(0, .box (dbox m k)), (1, .blk 128 [I c, I n, .sl 2 0 1 n none, I N]), (2, .ro 1 n (rowN encSp 0 (spL sz n)))] (.tup [.val (.int .u64 0), I 1]) [] := by
  have ll := spL_len sz n
  have := h.lay.2
  have := sread_err m k (spL sz n) c N (by rw [h.e]; omega) (by rw [h.e]; omega)
  unfold sdO at this
  rw [ll, h.e] at this
  exact this
theorem swr_errT (m : Nat) (k : Dk) (sz : Nat → Nat) (n c N : Nat) (v : Int) (h : StL sz n c N) :
    CallOK Try.prog 166 [.ptr 1 0 0 0, I (-1), .val (.int .u64 v)] [(0, .box (dbox m k)), (1, .blk 128 [I c, I n, .sl 2 0 1 n none, I N]), (2, .ro 1 n (rowN encSp 0 (spL sz n)))] (I 1) [] := by
  have ll := spL_len sz n
  have := h.lay.2
  have := swrite_err m k (spL sz n) c (-1) v (by rw [h.e]; omega) (by rw [h.e]; omega)
  unfold sdO at this
  rw [ll, h.e] at this
  exact this
theorem tracked0 (Y : List Int) (q : Nat) : CallOK Try.prog 74 [.sl 0 q 1 0 none] [(0, .ro 1 Y.length (rowG encU Y))] (.ptr 10 0 0 0) [(10, some (.blk 177 [.val (.slice none 0 0)]))] := by
  refine CallOK.intro Try.call74 Try.func74 rfl rfl ⟨rfl, fun _ => rfl, trivial⟩ ?_
  refine Safe.gotoE mixed 16 [⟨1100, []⟩, ⟨1200, []⟩, ⟨1300, []⟩, ⟨1400, []⟩, ⟨1500, []⟩] [2] [0, 1201] (sl := slotsOf 33 [(2, .ptr 1201 0 0 0)]) (hp := [(0, .ro 1 Y.length (rowG encU Y)), (1201, .blk 177 [.val (Value.slice none (0 : Nat) (0 : Nat))])]) (ob := []) rfl rfl (by kernel_rfl) trivial rfl ⟨rfl, fun _ => rfl, rfl, rfl, trivial⟩ fun td htd => ?_
  refine Safe.ren [(1201, 10)] rfl rfl rfl rfl ⟨rfl, fun _ => rfl, rfl, rfl, trivial⟩ ?_
  refine Safe.endsT Try.func74 htd (r := .ptr 10 0 0 0) (hp := [(0, .ro 1 Y.length (fun q => renL [((1201 : Nat), (10 : Nat))] (rowG encU Y q))), (10, .blk 177 [.val (Value.slice none (0 : Nat) (0 : Nat))])]) (ob := []) rfl (by kernel_rfl) trivial rfl ⟨⟨rfl, rfl, fun _ _ => rfl⟩, ObLe.refl _, trivial⟩ ⟨rfl, fun _ => rfl, rfl, rfl, trivial⟩ rfl
theorem ssound0 (m : Nat) (k : Dk) (sz : Nat → Nat) (n c : Nat) (h : StL sz n c 0) (hz : ∀ d, d < n → sz d ≤ 1000) {x : Nat} (g : Gk k n sz x) (Y : List Int) (q : Nat) (l : List Stp) : CallOK Try.prog 40 [.ptr 0 0 0 0, .fn (.func 39) [] [.ptr 3 0 0 0, .ptr 4 0 0 0], .sl 12 q 1 0 none, .sl 13 0 4 l.length none] [(0, .box (dbox m k)), (3, .blk 37 [.ptr 0 0 0 0]), (4, .blk 3 [I c]), (12, .ro 1 Y.length (rowG encU Y)), (13, .ro 4 l.length (rowG encSt l))] (B true) [(0, none)] := by
  refine CallOK.intro Try.call40 Try.func40 rfl rfl ⟨rfl, trivial, rfl, rfl, rfl, rfl, rfl, fun _ => rfl, rfl, fun _ => rfl, trivial⟩ ?_
  have op := sopen_any m k sz n c 0 h g hz
  have vs := ssz_any m k sz n c 0 h
  refine Safe.ends mixed Try.func40 17 [⟨1100, []⟩, ⟨1200, [(1, .call [12] (.ptr 1255 0 0 0) [(1255, some (.blk 177 [.val (Value.slice none (0 : Nat) (0 : Nat))]))])]⟩, ⟨1300, [(1, .call [0, 3, 4] (.tup [.ifc 123 (.ptr 1355 0 0 0), B true]) [(0, some (.box (dbox m k))), (1355, some (.blk 128 [I ((↑c : Int)), I ((↑n : Int)), .sl 1356 0 1 n none, I ((↑(0 : Nat) : Int))])), (1356, some (.vec 43 1 n (rowN encSp (0 : Nat) (spL sz n))))])]⟩, ⟨1400, [(8, .inv 165 (.ptr 1355 0 0 0) [0, 1355, 1356] (I ((↑(0 : Nat) : Int))) [])]⟩, ⟨1500, []⟩, ⟨1600, []⟩] (r := B true) (hp := [(3, .blk 37 [.ptr 0 0 0 0]), (4, .blk 3 [I ((↑c : Int))]), (12, .ro 1 Y.length (rowG encU Y)), (13, .ro 4 l.length (rowG encSt l))]) (ob := [CallOK Try.prog (74 : Nat) ([] ++ [AV.sl (12 : Nat) q (1 : Nat) (0 : Nat) none] ++ []) [((12 : Nat), Ob.ro (1 : Nat) Y.length (rowG encU Y))] (AV.ptr (1255 : Nat) (0 : Nat) (0 : Nat) (0 : Nat)) [((1255 : Nat), some (Ob.blk (177 : Nat) [AV.val (Value.slice none (0 : Nat) (0 : Nat))]))], CallOK Try.prog (39 : FuncId) ([] ++ [] ++ [AV.ptr (3 : Nat) (0 : Nat) (0 : Nat) (0 : Nat), AV.ptr (4 : Nat) (0 : Nat) (0 : Nat) (0 : Nat)]) [((0 : Nat), Ob.box (dbox m k)), ((3 : Nat), Ob.blk (37 : Nat) [AV.ptr (0 : Nat) (0 : Nat) (0 : Nat) (0 : Nat)]), ((4 : Nat), Ob.blk (3 : Nat) [AV.val (Value.int IntKind.i64 (↑c : Int))])] (AV.tup [AV.ifc (123 : Nat) (AV.ptr (1355 : Nat) (0 : Nat) (0 : Nat) (0 : Nat)), AV.val (Value.bool true)]) [((0 : Nat), some (Ob.box (dbox m k))), ((1355 : Nat), some (Ob.blk (128 : Nat) [AV.val (Value.int IntKind.i64 (↑c : Int)), AV.val (Value.int IntKind.i64 (↑n : Int)), AV.sl (1356 : Nat) (0 : Nat) (1 : Nat) n none, AV.val (Value.int IntKind.i64 (↑(0 : Nat) : Int))])), ((1356 : Nat), some (Ob.vec (43 : Nat) (1 : Nat) n (rowN encSp (0 : Nat) (spL sz n))))], MethOK Try.prog "Size" (AV.ifc (123 : Nat) (AV.ptr (1355 : Nat) (0 : Nat) (0 : Nat) (0 : Nat))) (165 : Nat) (AV.ptr (1355 : Nat) (0 : Nat) (0 : Nat) (0 : Nat)), CallOK Try.prog (165 : Nat) [AV.ptr (1355 : Nat) (0 : Nat) (0 : Nat) (0 : Nat)] [((0 : Nat), Ob.box (dbox m k)), ((1355 : Nat), Ob.blk (128 : Nat) [AV.val (Value.int IntKind.i64 (↑c : Int)), AV.val (Value.int IntKind.i64 (↑n : Int)), AV.sl (1356 : Nat) (0 : Nat) (1 : Nat) n none, AV.val (Value.int IntKind.i64 (↑(0 : Nat) : Int))]), ((1356 : Nat), Ob.vec (43 : Nat) (1 : Nat) n (rowN encSp (0 : Nat) (spL sz n)))] (AV.val (Value.int IntKind.i64 (↑(0 : Nat) : Int))) []]) rfl (by kernel_rfl) ⟨(CallOK.ren (tracked0 Y q) [(0, 12), (10, 1255)] [0, 10] rfl rfl rfl rfl ⟨rfl, fun _ => rfl, trivial⟩ rfl ⟨rfl, fun _ => rfl, rfl, rfl, trivial⟩), (CallOK.ren op [(3, 3), (4, 4), (0, 0), (10, 1355), (11, 1356)] [3, 4, 0, 10, 11] rfl rfl rfl rfl ⟨rfl, trivial, rfl, rfl, rfl, rfl, trivial⟩ rfl ⟨rfl, trivial, rfl, rfl, rfl, rfl, rfl, rfl, rfl, fun _ => rfl, trivial⟩), (MethOK.of (by kernel_rfl)), (CallOK.ren (CallOK.own 43 2 (es := (1 : Nat)) (n := n) (row := rowN encSp (0 : Nat) (spL sz n)) rfl rfl rfl vs) [(1, 1355), (2, 1356), (0, 0)] [1, 2, 0] rfl rfl rfl rfl ⟨rfl, trivial, rfl, rfl, rfl, fun _ => rfl, trivial⟩ rfl ⟨rfl, trivial, rfl, rfl, rfl, fun _ => rfl, trivial⟩), trivial⟩ rfl ⟨ObLe.refl _, ObLe.refl _, ObLe.refl _, ObLe.refl _, trivial⟩ ⟨rfl, rfl, rfl, rfl, rfl, fun _ => rfl, rfl, fun _ => rfl, trivial⟩ rfl
theorem sound_all (LL : List (List Int)) (hL : LB4 LL) (c N : Nat) (h : StL (szL LL) LL.length c N) (hN : N ≤ 1000) (l : List Stp) (hl : l.length ≤ 24) :
    CallOK Try.prog 40 [.ptr 0 0 0 0, .fn (.func 39) [] [.ptr 3 0 0 0, .ptr 4 0 0 0], .sl 12 0 1 N none, .sl 13 0 4 l.length none] [(0, .box (dbox 0 (dkN LL))), (3, .blk 37 [.ptr 0 0 0 0]), (4, .blk 3 [I c]), (12, .ro 1 N (rowG encU (iniL LL c N))), (13, .ro 4 l.length (rowG encSt l))] (B true) [(0, none)] := by
  have hz : ∀ d, d < LL.length → szL LL d ≤ 1000 := fun d hd => (hL.2 d hd).2
  have rn := ini_rn LL c N h
  have el := iniL_len LL c N
  by_cases h0 : N = 0
  · subst h0
    have := ssound0 0 (dkN LL) (szL LL) LL.length c h hz rn.s.g (iniL LL c 0) 0 l
    rw [el] at this
    exact this
  · have := ssound 0 (szL LL) LL.length c N h hz (by omega) hN (iniL LL c N) 0 (by rw [el]; omega) l hl (dkN LL) rn
    rw [el] at this
    exact this
set_option maxHeartbeats 4000000 in
theorem tlS (S : List Int) (mS : Nat) (l : List Stp) (hl : l.length ≤ 24) (LL : List (List Int)) (hL : LB4 LL) (c N : Nat) (h : StL (szL LL) LL.length c N) (hN : N ≤ 1000) :
    Safe Try.prog 7 [(1, .ro 1 mS (rowG enc8 S)), (2, .ro 4 l.length (rowG encSt l))] (B true) [] (regionAt Try.f7 26) ⟨slotsOf 140 [(2, .sl 2 0 4 l.length none), (10, .ptr 3 0 0 0), (11, .ptr 4 0 0 0), (12, .ifc 123 (.ptr 5 0 0 0)), (14, I N), (16, .sl 22 0 1 N none)], [(1, .ro 1 mS (rowG enc8 S)), (2, .ro 4 l.length (rowG encSt l)), (0, .box (dbox 0 (dkN LL))), (3, .blk 37 [.ptr 0 0 0 0]), (4, .blk 3 [I c]), (5, .blk 128 [I c, I LL.length, .sl 6 0 1 LL.length none, I N]), (6, .vec 43 1 LL.length (rowN encSp 0 (spL (szL LL) LL.length))), (22, .vec 22 1 N (rowG encU (iniL LL c N)))]⟩ [1, 2, 0, 3, 4, 5, 6, 22] := by
  have e1 := srd_errT 0 (dkN LL) (szL LL) LL.length c N h
  have e2 := swr_errT 0 (dkN LL) (szL LL) LL.length c N 5 h
  have so := sound_all LL hL c N h hN l hl
  clear h
  generalize iniL LL c N = Y at so
  generalize dkN LL = k0 at e1 e2 so
  generalize spL (szL LL) LL.length = L0 at e1 e2
  refine Safe.ends mixed Try.func7 9 [⟨1100, [(2, .inv 164 (.ptr 5 0 0 0) [0, 5, 6] (.tup [.val (Value.int IntKind.u64 (0 : Int)), I 1]) [])]⟩, ⟨1200, [(4, .inv 166 (.ptr 5 0 0 0) [0, 5, 6] (I 1) [])]⟩, ⟨1300, []⟩, ⟨1400, [(4, .call [0, 3, 4, 22, 2] (B true) [(0, none)]), (6, .call [] (B true) [])]⟩] (r := B true) (hp := [(1, .ro 1 mS (rowG enc8 S)), (2, .ro 4 l.length (rowG encSt l))]) (ob := [MethOK Try.prog "Read" (AV.ifc (123 : Nat) (AV.ptr (5 : Nat) (0 : Nat) (0 : Nat) (0 : Nat))) (164 : Nat) (AV.ptr (5 : Nat) (0 : Nat) (0 : Nat) (0 : Nat)), CallOK Try.prog (164 : Nat) [AV.ptr (5 : Nat) (0 : Nat) (0 : Nat) (0 : Nat), AV.val (Value.int IntKind.i64 (↑N : Int))] [((0 : Nat), Ob.box (dbox (0 : Nat) k0)), ((5 : Nat), Ob.blk (128 : Nat) [AV.val (Value.int IntKind.i64 (↑c : Int)), AV.val (Value.int IntKind.i64 (↑LL.length : Int)), AV.sl (6 : Nat) (0 : Nat) (1 : Nat) LL.length none, AV.val (Value.int IntKind.i64 (↑N : Int))]), ((6 : Nat), Ob.vec (43 : Nat) (1 : Nat) LL.length (rowN encSp (0 : Nat) L0))] (AV.tup [AV.val (Value.int IntKind.u64 (0 : Int)), AV.val (Value.int IntKind.i64 (1 : Int))]) [], MethOK Try.prog "Write" (AV.ifc (123 : Nat) (AV.ptr (5 : Nat) (0 : Nat) (0 : Nat) (0 : Nat))) (166 : Nat) (AV.ptr (5 : Nat) (0 : Nat) (0 : Nat) (0 : Nat)), CallOK Try.prog (166 : Nat) [AV.ptr (5 : Nat) (0 : Nat) (0 : Nat) (0 : Nat), ofV (Value.int IntKind.i64 (-1 : Int)), ofV (Value.int IntKind.u64 (5 : Int))] [((0 : Nat), Ob.box (dbox (0 : Nat) k0)), ((5 : Nat), Ob.blk (128 : Nat) [AV.val (Value.int IntKind.i64 (↑c : Int)), AV.val (Value.int IntKind.i64 (↑LL.length : Int)), AV.sl (6 : Nat) (0 : Nat) (1 : Nat) LL.length none, AV.val (Value.int IntKind.i64 (↑N : Int))]), ((6 : Nat), Ob.vec (43 : Nat) (1 : Nat) LL.length (rowN encSp (0 : Nat) L0))] (AV.val (Value.int IntKind.i64 (1 : Int))) [], CallOK Try.prog (40 : Nat) ([] ++ [AV.ptr (0 : Nat) (0 : Nat) (0 : Nat) (0 : Nat), AV.fn (Fn.func (39 : Nat)) [] [AV.ptr (3 : Nat) (0 : Nat) (0 : Nat) (0 : Nat), AV.ptr (4 : Nat) (0 : Nat) (0 : Nat) (0 : Nat)], AV.sl (22 : Nat) (0 : Nat) (1 : Nat) N none, AV.sl (2 : Nat) (0 : Nat) (4 : Nat) l.length none] ++ []) [((0 : Nat), Ob.box (dbox (0 : Nat) k0)), ((3 : Nat), Ob.blk (37 : Nat) [AV.ptr (0 : Nat) (0 : Nat) (0 : Nat) (0 : Nat)]), ((4 : Nat), Ob.blk (3 : Nat) [AV.val (Value.int IntKind.i64 (↑c : Int))]), ((22 : Nat), Ob.vec (22 : Nat) (1 : Nat) N (rowG encU Y)), ((2 : Nat), Ob.ro (4 : Nat) l.length (rowG encSt l))] (AV.val (Value.bool true)) [((0 : Nat), none)], CallOK Try.prog (34 : Nat) ([] ++ [] ++ []) [] (AV.val (Value.bool true)) []]) rfl (by kernel_rfl) ⟨(MethOK.of (by kernel_rfl)), (CallOK.ren (CallOK.own 43 2 (es := (1 : Nat)) (n := LL.length) (row := rowN encSp (0 : Nat) L0) rfl rfl rfl e1) [(1, 5), (2, 6), (0, 0)] [1, 2, 0] rfl rfl rfl rfl ⟨rfl, trivial, rfl, rfl, rfl, fun _ => rfl, trivial⟩ rfl ⟨rfl, trivial, rfl, rfl, rfl, fun _ => rfl, trivial⟩), (MethOK.of (by kernel_rfl)), (CallOK.ren (CallOK.own 43 2 (es := (1 : Nat)) (n := LL.length) (row := rowN encSp (0 : Nat) L0) rfl rfl rfl e2) [(1, 5), (2, 6), (0, 0)] [1, 2, 0] rfl rfl rfl rfl ⟨rfl, trivial, rfl, rfl, rfl, fun _ => rfl, trivial⟩ rfl ⟨rfl, trivial, rfl, rfl, rfl, fun _ => rfl, trivial⟩), (CallOK.ren (CallOK.own 22 12 (es := (1 : Nat)) (n := N) (row := rowG encU Y) rfl rfl rfl so) [(0, 0), (3, 3), (4, 4), (12, 22), (13, 2)] [0, 3, 4, 12, 13] rfl rfl rfl rfl ⟨rfl, trivial, rfl, rfl, rfl, rfl, rfl, fun _ => rfl, rfl, fun _ => rfl, trivial⟩ rfl ⟨rfl, rfl, rfl, rfl, rfl, fun _ => rfl, rfl, fun _ => rfl, trivial⟩), sawake_any, trivial⟩ rfl ⟨ObLe.refl _, ObLe.refl _, trivial⟩ ⟨rfl, fun _ => rfl, rfl, fun _ => rfl, trivial⟩ rfl
  all_goals skip
end Go.Proofs.Ytbgbjgedjmhcaaa
