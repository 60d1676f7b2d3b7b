/- Striped devices over spans: New, Size, Read, Write, Flush. No conditions but those of each theorem. -/
import Derived.Test.YtbgbjgedjmhcaaaSyZ
import Derived.KernelRfl
import Derived.Test.YtbgbjgedjmhcaaaS3
import Derived.Test.YtbgbjgedjmhcaaaS1
import Derived.Test.YtbgbjgedjmhcaaaD4
namespace Go.Proofs.Ytbgbjgedjmhcaaa
open Go.RowKit
open OldD (Dk Un Wr Sc hs hd chk3 chk4 rdV wrE wrK flK reK up upto pFail pFlush)
set_option linter.unusedVariables false
set_option linter.unnecessarySimpa false
set_option linter.unusedSimpArgs false
set_option maxRecDepth 10000
theorem clone_dev (m : Nat) (k : Dk) (L : List Spn) (h1 : 1 ≤ L.length) (hl : L.length ≤ 100) : CallOK Try.prog 73 [.sl 1 0 1 L.length none] [(0, .box (dbox m k)), (1, .ro 1 L.length (rowN encSp 0 L))] (.sl 10 0 1 L.length none) [(10, some (.vec 43 1 L.length (rowN encSp 0 L)))] := by
  refine CallOK.intro Try.call73 Try.func73 rfl rfl ⟨rfl, trivial, rfl, fun _ => rfl, trivial⟩ ?_
  refine Safe.goto mixed 5 [⟨1100, []⟩, ⟨1200, []⟩] [0, 4] [0, 1] (todo' := skipTo 5 (bodyOf Try.f73)) (sl := slotsOf 8 [(0, .sl 1 0 1 L.length none), (4, .anyB (L.length = 0) True)]) (hp := [(0, .box (dbox m k)), (1, .ro 1 L.length (rowN encSp 0 L))]) (ob := []) rfl rfl (by kernel_rfl) trivial rfl ⟨rfl, trivial, rfl, fun _ => rfl, trivial⟩ ?_
  refine Safe.any 4 rfl (fun h0 => absurd h0 (by omega)) (fun _ => ?_)
  refine Safe.gotoE mixed 4 [⟨1100, []⟩] [2] [0, 1, 1102] (sl := slotsOf 8 [(2, .sl 1102 0 1 L.length none)]) (hp := [(0, .box (dbox m k)), (1, .ro 1 L.length (rowN encSp (0 : Nat) L)), (1102, .vec 43 1 L.length (rowN encSp (0 : Nat) L))]) (ob := [(0 : Nat) + L.length ≤ L.length, (0 : Nat) = (0 : Nat), (0 : Nat) + L.length ≤ (1099511627776 : Nat)]) rfl rfl (by kernel_rfl) ⟨(by omega), (by omega), (by omega), trivial⟩ rfl ⟨rfl, trivial, rfl, fun _ => rfl, rfl, fun _ => rfl, trivial⟩ fun td htd => ?_
  refine Safe.ren [(1102, 10)] rfl rfl rfl rfl ⟨rfl, trivial, rfl, fun _ => rfl, rfl, fun _ => rfl, trivial⟩ ?_
  refine Safe.endsT Try.func73 htd (r := .sl 10 0 1 L.length none) (hp := [(0, .box (dbox m k)), (1, .ro 1 L.length (rowN encSp (0 : Nat) L)), (10, .vec 43 1 L.length (rowN encSp (0 : Nat) L))]) (ob := []) rfl (by kernel_rfl) trivial rfl ⟨ObLe.refl _, ObLe.refl _, ObLe.refl _, trivial⟩ ⟨rfl, trivial, rfl, fun _ => rfl, rfl, fun _ => rfl, trivial⟩ rfl
def szU (L : List Spn) (k : Nat) : List Int := (List.range k).map fun i => (L.getD i default).n
theorem szU_len (L : List Spn) (k : Nat) : (szU L k).length = k := by simp [szU]
theorem szU_succ (L : List Spn) (k : Nat) : szU L (k + 1) = szU L k ++ [(L.getD k default).n] := by simp [szU, List.range_succ]
theorem szU_at (L : List Spn) (k i : Nat) (h : i < k) : (szU L k).getD i default = (L.getD i default).n := by
  simp [szU, List.getD_eq_getElem?_getD, h]
/-- the sectors of a striped device -/
def sSz (c : Int) (L : List Spn) : Int := mnF (szU L L.length) (L.length - 1) / c * c * L.length
theorem sSz_bd {c : Int} {L : List Spn} (hc : 1 ≤ c) (h1 : 1 ≤ L.length) (hL : ∀ j, j < L.length → 0 ≤ (L.getD j default).n ∧ (L.getD j default).n ≤ 1073741824) (h6 : L.length ≤ 6) : 0 ≤ sSz c L ∧ sSz c L ≤ 1073741824 * 6 := by
  obtain ⟨m1, m2, _⟩ := mnF_bd (L := szU L L.length) (b := 1073741824) (fun j hj => by rw [szU_len] at hj; rw [szU_at _ _ _ hj]; exact hL j hj) (L.length - 1) (by rw [szU_len]; omega)
  unfold sSz
  generalize mnF (szU L L.length) (L.length - 1) = M at m1 m2
  have d1 : 0 ≤ M / c ∧ M / c ≤ M := ⟨Int.ediv_nonneg m1 (by omega), Int.ediv_le_self _ m1⟩
  have d2 : 0 ≤ M / c * c ∧ M / c * c ≤ M := ⟨Int.mul_nonneg d1.1 (by omega), Int.ediv_mul_le _ (by omega)⟩
  exact ⟨Int.mul_nonneg d2.1 (by omega), Int.mul_le_mul (by omega) (by omega) (by omega) (by omega)⟩
set_option maxHeartbeats 2000000 in
theorem snew_ok (m : Nat) (k : Dk) (L : List Spn) (c : Int) (hc1 : c ≥ 1) (hc2 : c ≤ 65536) (h1 : 1 ≤ L.length) (h6 : L.length ≤ 6) (hL : ∀ j, j < L.length → 0 ≤ (L.getD j default).n ∧ (L.getD j default).n ≤ 1073741824) :
    CallOK Try.prog 36 [.sl 1 0 1 L.length none, I c] [(0, .box (dbox m k)), (1, .ro 1 L.length (rowN encSp 0 L))] (.tup [.ifc 123 (.ptr 10 0 0 0), I 0]) [(10, some (.blk 128 [I c, I L.length, .sl 11 0 1 L.length none, I (sSz c L)])), (11, some (.vec 43 1 L.length (rowN encSp 0 L)))] := by
  refine CallOK.intro Try.call36 Try.func36 rfl rfl ⟨rfl, trivial, rfl, fun _ => rfl, trivial⟩ ?_
  refine Safe.withLoop (loopAt Try.f36 0) [0, 1, 20] 42 (fun i : Nat => [(0, .sl 1 0 1 L.length none), (1, I c), (6, .sl 20 0 1 (szU L i).length none), (11, .sl 1 0 1 L.length none), (12, I L.length), (13, I i)]) (fun i => [(0, .box (dbox m k)), (1, .ro 1 L.length (rowN encSp 0 L)), (20, .vec 3 1 (szU L i).length (rowG encI (szU L i)))]) (fun i => i ≤ L.length) (fun i => L.length - i) ?_ ?_
  · intro i hi ih
    have hl := szU_len L i
    by_cases hlt : i < L.length
    · have hlt2 : (i : Int) < (L.length : Int) := by omega
      refine Safe.goto mixed 13 [⟨1100, [(0, .tt true)]⟩, ⟨1200, []⟩, ⟨1300, [(2, .inv 169 (.agg [.ptr 0 0 0 0, I ((L.getD i default).d), I ((L.getD i default).s), I ((L.getD i default).n)]) [0] (I ((L.getD i default).n)) [])]⟩, ⟨1400, []⟩] [0, 1, 6, 11, 12, 13] [0, 1, 1304] (todo' := loopAt Try.f36 0) (sl := slotsOf 42 [(0, .sl 1 0 1 L.length none), (1, I c), (6, .sl 1304 0 1 (addN (szU L i).length (1 : Nat)) none), (11, .sl 1 0 1 L.length none), (12, I ((↑L.length : Int))), (13, I ((↑i : Int) + (1 : Int)))]) (hp := [(0, .box (dbox m k)), (1, .ro 1 L.length (rowN encSp (0 : Nat) L)), (1304, .vec 3 1 (addN (szU L i).length (1 : Nat)) (catR (szU L i).length (rowG encI (szU L i)) (rowsOf [AV.val (Value.int IntKind.i64 (L.getD i default).n)] (1 : Nat))))]) (ob := [decide ((↑i : Int) < (↑L.length : Int)) = true, (0 : Int) ≤ (↑i : Int) ∧ (↑i : Int) < (↑L.length : Int), i < L.length, MethOK Try.prog "Size" (AV.ifc (170 : Nat) (AV.agg [AV.ptr (0 : Nat) (0 : Nat) (0 : Nat) (0 : Nat), AV.val (Value.int IntKind.i64 (L.getD i default).d), AV.val (Value.int IntKind.i64 (L.getD i default).s), AV.val (Value.int IntKind.i64 (L.getD i default).n)])) (169 : Nat) (AV.agg [AV.ptr (0 : Nat) (0 : Nat) (0 : Nat) (0 : Nat), AV.val (Value.int IntKind.i64 (L.getD i default).d), AV.val (Value.int IntKind.i64 (L.getD i default).s), AV.val (Value.int IntKind.i64 (L.getD i default).n)]), CallOK Try.prog (169 : Nat) [AV.agg [AV.ptr (0 : Nat) (0 : Nat) (0 : Nat) (0 : Nat), AV.val (Value.int IntKind.i64 (L.getD i default).d), AV.val (Value.int IntKind.i64 (L.getD i default).s), AV.val (Value.int IntKind.i64 (L.getD i default).n)]] [((0 : Nat), Ob.box (dbox m k))] (AV.val (Value.int IntKind.i64 (L.getD i default).n)) [], (0 : Nat) + (1 : Nat) ≤ (1 : Nat), (szU L i).length = (szU L i).length, (szU L i).length + (1 : Nat) ≤ (1099511627776 : Nat), inK IntKind.i64 ((↑i : Int) + (1 : Int))]) rfl rfl (by kernel_rfl) ⟨(decide_eq_true hlt2), (by omega), (by omega), (MethOK.of (by kernel_rfl)), (spsize_any m k ((L.getD i default).d) ((L.getD i default).s) ((L.getD i default).n)), (by omega), (by omega), (by omega), (by simp only [inK]; omega), trivial⟩ rfl ⟨rfl, trivial, rfl, fun _ => rfl, rfl, closed_cat (fun _ => rfl) (closed_rows rfl), trivial⟩ ?_
      refine Safe.ren [(1304, 20)] rfl rfl rfl rfl ⟨rfl, trivial, rfl, fun _ => rfl, rfl, closed_cat (fun _ => rfl) (closed_rows rfl), trivial⟩ ?_
      · skip
        have e2 : addN (szU L i).length 1 = (szU L (i + 1)).length := by rw [addN_eq, szU_len, szU_len]
        rw [e2]
        refine Safe.leH (ih (i + 1) (by omega) (by omega)) rfl (SlLe.refl _) ⟨ObLe.refl _, ObLe.refl _, ?_, trivial⟩ rfl ⟨rfl, trivial, rfl, fun _ => rfl, rfl, fun _ => rfl, trivial⟩
        rw [szU_succ]
        exact ob_ren_one encI (szU L i) (L.getD i default).n _ (by simp) (fun _ => rfl) rfl
    · have hn : ¬ ((i : Int) < (L.length : Int)) := by omega
      obtain rfl : i = L.length := by omega
      have so := stsize_ok c (szU L L.length) hc1 hc2 (by omega) (by omega) (fun j hj => by rw [szU_len] at hj; rw [szU_at _ _ _ hj]; exact hL j hj)
      rw [szU_len] at so
      have so : CallOK Try.prog 72 [I c, .sl 1 0 1 L.length none] [(1, .ro 1 L.length (rowG encI (szU L L.length)))] (.tup [I (sSz c L), I 0]) [] := so
      have cl := clone_dev m k L h1 (by omega)
      have sb := sSz_bd hc1 h1 hL h6
      rw [hl]
      clear hl
      generalize sSz c L = M at *
      refine Safe.gotoE mixed 14 [⟨1100, [(0, .tt false)]⟩, ⟨1200, [(2, .call [20] (.tup [I M, I 0]) [])]⟩, ⟨1300, []⟩, ⟨1400, [(5, .call [0, 1] (.sl 1475 0 1 L.length none) [(1475, some (.vec 43 1 L.length (rowN encSp (0 : Nat) L)))])]⟩] [4, 5] [0, 1, 1408, 1475] (sl := slotsOf 42 [(4, .ifc 123 (.ptr 1408 0 0 0)), (5, I 0)]) (hp := [(0, .box (dbox m k)), (1, .ro 1 L.length (rowN encSp (0 : Nat) L)), (1408, .blk 128 [I c, I ((↑L.length : Int)), .sl 1475 0 1 L.length none, I M]), (1475, .vec 43 1 L.length (rowN encSp (0 : Nat) L))]) (ob := [decide ((↑L.length : Int) < (↑L.length : Int)) = false, CallOK Try.prog (72 : Nat) ([] ++ [AV.val (Value.int IntKind.i64 c), AV.sl (20 : Nat) (0 : Nat) (1 : Nat) L.length none] ++ []) [((20 : Nat), Ob.vec (3 : Nat) (1 : Nat) L.length (rowG encI (szU L L.length)))] (AV.tup [AV.val (Value.int IntKind.i64 M), AV.val (Value.int IntKind.i64 (0 : Int))]) [], CallOK Try.prog (73 : Nat) ([] ++ [AV.sl (1 : Nat) (0 : Nat) (1 : Nat) L.length none] ++ []) [((0 : Nat), Ob.box (dbox m k)), ((1 : Nat), Ob.ro (1 : Nat) L.length (rowN encSp (0 : Nat) L))] (AV.sl (1475 : Nat) (0 : Nat) (1 : Nat) L.length none) [((1475 : Nat), some (Ob.vec (43 : Nat) (1 : Nat) L.length (rowN encSp (0 : Nat) L)))]]) rfl rfl (by kernel_rfl) ⟨(decide_eq_false hn), (CallOK.ren (CallOK.own 3 1 (es := (1 : Nat)) (n := L.length) (row := rowG encI (szU L L.length)) rfl rfl rfl so) [(1, 20)] [1] rfl rfl rfl rfl ⟨rfl, fun _ => rfl, trivial⟩ rfl ⟨rfl, fun _ => rfl, trivial⟩), (CallOK.ren cl [(1, 1), (0, 0), (10, 1475)] [1, 0, 10] rfl rfl rfl rfl ⟨rfl, trivial, rfl, fun _ => rfl, trivial⟩ rfl ⟨rfl, trivial, rfl, fun _ => rfl, rfl, fun _ => rfl, trivial⟩), trivial⟩ rfl ⟨rfl, trivial, rfl, fun _ => rfl, rfl, rfl, rfl, fun _ => rfl, trivial⟩ fun td htd => ?_
      refine Safe.ren [(1408, 10), (1475, 11)] rfl rfl rfl rfl ⟨rfl, trivial, rfl, fun _ => rfl, rfl, rfl, rfl, fun _ => rfl, trivial⟩ ?_
      refine Safe.endsT Try.func36 htd (r := .tup [.ifc 123 (.ptr 10 0 0 0), I 0]) (hp := [(0, .box (dbox m k)), (1, .ro 1 L.length (rowN encSp (0 : Nat) L)), (10, .blk 128 [I c, I ((↑L.length : Int)), .sl 11 0 1 L.length none, I M]), (11, .vec 43 1 L.length (rowN encSp (0 : Nat) L))]) (ob := []) rfl (by kernel_rfl) trivial rfl ⟨ObLe.refl _, ObLe.refl _, ObLe.refl _, ObLe.refl _, trivial⟩ ⟨rfl, trivial, rfl, fun _ => rfl, rfl, rfl, rfl, fun _ => rfl, trivial⟩ rfl
      all_goals exact ⟨rfl, rfl, rfl, fun _ _ => rfl⟩
  · intro H
    refine Safe.goto mixed 9 [⟨1100, []⟩, ⟨1200, []⟩, ⟨1300, []⟩] [0, 1, 6, 11, 12, 13] [0, 1] (todo' := loopAt Try.f36 0) (sl := slotsOf 42 [(0, .sl 1 0 1 L.length none), (1, I c), (6, .val (Value.slice none (0 : Nat) (0 : Nat))), (11, .sl 1 0 1 L.length none), (12, I ((↑L.length : Int))), (13, I 0)]) (hp := [(0, .box (dbox m k)), (1, .ro 1 L.length (rowN encSp (0 : Nat) L))]) (ob := []) rfl rfl (by kernel_rfl) trivial rfl ⟨rfl, trivial, rfl, fun _ => rfl, trivial⟩ ?_
    · refine Safe.nil 6 20 3 1 (rowG encI []) rfl rfl ⟨rfl, trivial, rfl, fun _ => rfl, trivial⟩ ?_ rfl
      exact Safe.leH (H 0 (Nat.zero_le _)) rfl (SlLe.refl _) ⟨ObLe.refl _, ObLe.refl _, ⟨rfl, rfl, rfl, fun _ _ => rfl⟩, trivial⟩ rfl ⟨rfl, trivial, rfl, fun _ => rfl, rfl, fun _ => rfl, trivial⟩
theorem snew_no (m : Nat) (k : Dk) (c : Int) (hc1 : c ≥ 1) (hc2 : c ≤ 65536) :
    CallOK Try.prog 36 [.sl 1 0 1 0 none, I c] [(0, .box (dbox m k)), (1, .ro 1 0 (rowN encSp 0 []))] (.tup [.val .nilIface, I 1]) [] := by
  refine CallOK.intro Try.call36 Try.func36 rfl rfl ⟨rfl, trivial, rfl, fun _ => rfl, trivial⟩ ?_
  have so := stsize_no c hc1 hc2
  refine Safe.ends mixed Try.func36 22 [⟨1100, []⟩, ⟨1200, []⟩, ⟨1300, []⟩, ⟨1400, []⟩, ⟨1500, [(2, .call [] (.tup [I 0, I 1]) [])]⟩, ⟨1600, []⟩, ⟨1700, []⟩] (r := .tup [.val Value.nilIface, I 1]) (hp := [(0, .box (dbox m k)), (1, .ro 1 0 (rowN encSp (0 : Nat) []))]) (ob := [CallOK Try.prog (72 : Nat) ([] ++ [AV.val (Value.int IntKind.i64 c), AV.val (Value.slice none (0 : Nat) (0 : Nat))] ++ []) [] (AV.tup [AV.val (Value.int IntKind.i64 (0 : Int)), AV.val (Value.int IntKind.i64 (1 : Int))]) []]) rfl (by kernel_rfl) ⟨so, trivial⟩ rfl ⟨ObLe.refl _, ObLe.refl _, trivial⟩ ⟨rfl, trivial, rfl, fun _ => rfl, trivial⟩ rfl
/-- a striped device's objects -/
abbrev sdO (c : Int) (L : List Spn) : Ob := .blk 128 [I c, I L.length, .sl 2 0 1 L.length none, I (sSz c L)]
theorem ssize_any (m : Nat) (k : Dk) (L : List Spn) (c : Int) : CallOK Try.prog 165 [.ptr 1 0 0 0] [(0, .box (dbox m k)), (1, sdO c L), (2, .ro 1 L.length (rowN encSp 0 L))] (I (sSz c L)) [] := by
  refine CallOK.intro Try.call165 Try.func165 rfl rfl ⟨rfl, trivial, rfl, rfl, rfl, fun _ => rfl, trivial⟩ ?_
  refine Safe.ends mixed Try.func165 4 [⟨1100, []⟩, ⟨1200, []⟩] (r := I (sSz c L)) (hp := [(0, .box (dbox m k)), (1, .blk 128 [I c, I ((↑L.length : Int)), .sl 2 0 1 L.length none, I (sSz c L)]), (2, .ro 1 L.length (rowN encSp (0 : Nat) L))]) (ob := []) rfl (by kernel_rfl) trivial rfl ⟨ObLe.refl _, ObLe.refl _, ObLe.refl _, trivial⟩ ⟨rfl, trivial, rfl, rfl, rfl, fun _ => rfl, trivial⟩ rfl
theorem sread_err (m : Nat) (k : Dk) (L : List Spn) (c i : Int) (hS : 0 ≤ sSz c L ∧ sSz c L ≤ 10000000000) (hi : ¬ (0 ≤ i ∧ i ≤ sSz c L - 1)) : CallOK Try.prog 164 [.ptr 1 0 0 0, I i] [(0, .box (dbox m k)), (1, sdO c L), (2, .ro 1 L.length (rowN encSp 0 L))] (.tup [.val (.int .u64 0), I 1]) [] := by
  refine CallOK.intro Try.call164 Try.func164 rfl rfl ⟨rfl, trivial, rfl, rfl, rfl, fun _ => rfl, trivial⟩ ?_
  have wi := within_any i (sSz c L - 1)
  rw [decide_eq_false hi] at wi
  unfold sdO
  generalize sSz c L = M at *
  refine Safe.ends mixed Try.func164 8 [⟨1100, []⟩, ⟨1200, [(6, .call [] (B false) [])]⟩, ⟨1300, []⟩] (r := .tup [.val (Value.int IntKind.u64 (0 : Int)), I 1]) (hp := [(0, .box (dbox m k)), (1, .blk 128 [I c, I ((↑L.length : Int)), .sl 2 0 1 L.length none, I M]), (2, .ro 1 L.length (rowN encSp (0 : Nat) L))]) (ob := [inK IntKind.i64 (M - (1 : Int)), CallOK Try.prog (104 : Nat) ([] ++ [AV.val (Value.int IntKind.i64 i), AV.val (Value.int IntKind.i64 (M - (1 : Int)))] ++ []) [] (AV.val (Value.bool false)) []]) rfl (by kernel_rfl) ⟨(by simp only [inK]; omega), wi, trivial⟩ rfl ⟨ObLe.refl _, ObLe.refl _, ObLe.refl _, trivial⟩ ⟨rfl, trivial, rfl, rfl, rfl, fun _ => rfl, trivial⟩ rfl
theorem swrite_err (m : Nat) (k : Dk) (L : List Spn) (c i v : Int) (hS : 0 ≤ sSz c L ∧ sSz c L ≤ 10000000000) (hi : ¬ (0 ≤ i ∧ i ≤ sSz c L - 1)) : CallOK Try.prog 166 [.ptr 1 0 0 0, I i, .val (.int .u64 v)] [(0, .box (dbox m k)), (1, sdO c L), (2, .ro 1 L.length (rowN encSp 0 L))] (I 1) [] := by
  refine CallOK.intro Try.call166 Try.func166 rfl rfl ⟨rfl, trivial, rfl, rfl, rfl, fun _ => rfl, trivial⟩ ?_
  have wi := within_any i (sSz c L - 1)
  rw [decide_eq_false hi] at wi
  unfold sdO
  generalize sSz c L = M at *
  refine Safe.ends mixed Try.func166 8 [⟨1100, []⟩, ⟨1200, [(6, .call [] (B false) [])]⟩, ⟨1300, []⟩] (r := I 1) (hp := [(0, .box (dbox m k)), (1, .blk 128 [I c, I ((↑L.length : Int)), .sl 2 0 1 L.length none, I M]), (2, .ro 1 L.length (rowN encSp (0 : Nat) L))]) (ob := [inK IntKind.i64 (M - (1 : Int)), CallOK Try.prog (104 : Nat) ([] ++ [AV.val (Value.int IntKind.i64 i), AV.val (Value.int IntKind.i64 (M - (1 : Int)))] ++ []) [] (AV.val (Value.bool false)) []]) rfl (by kernel_rfl) ⟨(by simp only [inK]; omega), wi, trivial⟩ rfl ⟨ObLe.refl _, ObLe.refl _, ObLe.refl _, trivial⟩ ⟨rfl, trivial, rfl, rfl, rfl, fun _ => rfl, trivial⟩ rfl
theorem sflush_any (m : Nat) (k : Dk) (L : List Spn) (c : Int) (hll : L.length ≤ 100) (hF : k.F.length ≤ 2 ^ 32) : CallOK Try.prog 163 [.ptr 1 0 0 0] [(0, .box (dbox m k)), (1, sdO c L), (2, .ro 1 L.length (rowN encSp 0 L))] (I (feL k L L.length)) [(0, some (.box (dbox m (flL k L L.length))))] := by
  refine CallOK.intro Try.call163 Try.func163 rfl rfl ⟨rfl, trivial, rfl, rfl, rfl, fun _ => rfl, trivial⟩ ?_
  refine Safe.withLoop (loopAt Try.f163 0) [0, 1, 2] 23 (fun i : Nat => [(3, I (feL k L i)), (10, .sl 2 0 1 L.length none), (11, I L.length), (12, I i)]) (fun i => [(0, .box (dbox m (flL k L i))), (1, sdO c L), (2, .ro 1 L.length (rowN encSp 0 L))]) (fun i => i ≤ L.length) (fun i => L.length - i) ?_ ?_
  · intro i hi ih
    by_cases hlt : i < L.length
    · have hlt2 : (i : Int) < (L.length : Int) := by omega
      have fF := flL_F k L i
      have fl := spflush_any m (flL k L i) (L.getD i default).d (L.getD i default).s (L.getD i default).n (by omega)
      by_cases h0 : feL k L i = 0
      · have e1 : feL k L (i + 1) = chk3 (flL k L i) (L.getD i default).d 0 := by simp only [feL]; rw [if_pos h0]
        have ih1 := ih (i + 1) (by omega) (by omega)
        rw [e1] at ih1
        refine Safe.goto mixed 18 [⟨1100, [(0, .tt true)]⟩, ⟨1200, []⟩, ⟨1300, [(1, .inv 167 (.agg [.ptr 0 0 0 0, I ((L.getD i default).d), I ((L.getD i default).s), I ((L.getD i default).n)]) [0] (I (chk3 (flL k L i) (L.getD i default).d (0 : Int))) [(0, some (.box (dbox m (flK (flL k L i) (L.getD i default).d))))])]⟩, ⟨1400, [(1, .tt true)]⟩, ⟨1500, []⟩, ⟨1600, []⟩] [3, 10, 11, 12] [0, 1, 2] (todo' := loopAt Try.f163 0) (sl := slotsOf 23 [(3, I (chk3 (flL k L i) (L.getD i default).d (0 : Int))), (10, .sl 2 0 1 L.length none), (11, I ((↑L.length : Int))), (12, I ((↑i : Int) + (1 : Int)))]) (hp := [(0, .box (dbox m (flK (flL k L i) (L.getD i default).d))), (1, .blk 128 [I c, I ((↑L.length : Int)), .sl 2 0 1 L.length none, I (sSz c L)]), (2, .ro 1 L.length (rowN encSp (0 : Nat) L))]) (ob := [decide ((↑i : Int) < (↑L.length : Int)) = true, (0 : Int) ≤ (↑i : Int) ∧ (↑i : Int) < (↑L.length : Int), i < L.length, MethOK Try.prog "Flush" (AV.ifc (170 : Nat) (AV.agg [AV.ptr (0 : Nat) (0 : Nat) (0 : Nat) (0 : Nat), AV.val (Value.int IntKind.i64 (L.getD i default).d), AV.val (Value.int IntKind.i64 (L.getD i default).s), AV.val (Value.int IntKind.i64 (L.getD i default).n)])) (167 : Nat) (AV.agg [AV.ptr (0 : Nat) (0 : Nat) (0 : Nat) (0 : Nat), AV.val (Value.int IntKind.i64 (L.getD i default).d), AV.val (Value.int IntKind.i64 (L.getD i default).s), AV.val (Value.int IntKind.i64 (L.getD i default).n)]), CallOK Try.prog (167 : Nat) [AV.agg [AV.ptr (0 : Nat) (0 : Nat) (0 : Nat) (0 : Nat), AV.val (Value.int IntKind.i64 (L.getD i default).d), AV.val (Value.int IntKind.i64 (L.getD i default).s), AV.val (Value.int IntKind.i64 (L.getD i default).n)]] [((0 : Nat), Ob.box (dbox m (flL k L i)))] (AV.val (Value.int IntKind.i64 (chk3 (flL k L i) (L.getD i default).d (0 : Int)))) [((0 : Nat), some (Ob.box (dbox m (flK (flL k L i) (L.getD i default).d))))], decide (feL k L i = (0 : Int)) = true, inK IntKind.i64 ((↑i : Int) + (1 : Int))]) rfl rfl (by kernel_rfl) ⟨(decide_eq_true hlt2), (by omega), (by omega), (MethOK.of (by kernel_rfl)), fl, (decide_eq_true h0), (by simp only [inK]; omega), trivial⟩ rfl ⟨rfl, trivial, rfl, rfl, rfl, fun _ => rfl, trivial⟩ ?_
        · exact ih1
      · have e1 : feL k L (i + 1) = feL k L i := by simp only [feL]; rw [if_neg h0]
        have ih1 := ih (i + 1) (by omega) (by omega)
        rw [e1] at ih1
        refine Safe.goto mixed 18 [⟨1100, [(0, .tt true)]⟩, ⟨1200, []⟩, ⟨1300, [(1, .inv 167 (.agg [.ptr 0 0 0 0, I ((L.getD i default).d), I ((L.getD i default).s), I ((L.getD i default).n)]) [0] (I (chk3 (flL k L i) (L.getD i default).d (0 : Int))) [(0, some (.box (dbox m (flK (flL k L i) (L.getD i default).d))))])]⟩, ⟨1400, [(1, .tt false)]⟩, ⟨1500, []⟩] [3, 10, 11, 12] [0, 1, 2] (todo' := loopAt Try.f163 0) (sl := slotsOf 23 [(3, I (feL k L i)), (10, .sl 2 0 1 L.length none), (11, I ((↑L.length : Int))), (12, I ((↑i : Int) + (1 : Int)))]) (hp := [(0, .box (dbox m (flK (flL k L i) (L.getD i default).d))), (1, .blk 128 [I c, I ((↑L.length : Int)), .sl 2 0 1 L.length none, I (sSz c L)]), (2, .ro 1 L.length (rowN encSp (0 : Nat) L))]) (ob := [decide ((↑i : Int) < (↑L.length : Int)) = true, (0 : Int) ≤ (↑i : Int) ∧ (↑i : Int) < (↑L.length : Int), i < L.length, MethOK Try.prog "Flush" (AV.ifc (170 : Nat) (AV.agg [AV.ptr (0 : Nat) (0 : Nat) (0 : Nat) (0 : Nat), AV.val (Value.int IntKind.i64 (L.getD i default).d), AV.val (Value.int IntKind.i64 (L.getD i default).s), AV.val (Value.int IntKind.i64 (L.getD i default).n)])) (167 : Nat) (AV.agg [AV.ptr (0 : Nat) (0 : Nat) (0 : Nat) (0 : Nat), AV.val (Value.int IntKind.i64 (L.getD i default).d), AV.val (Value.int IntKind.i64 (L.getD i default).s), AV.val (Value.int IntKind.i64 (L.getD i default).n)]), CallOK Try.prog (167 : Nat) [AV.agg [AV.ptr (0 : Nat) (0 : Nat) (0 : Nat) (0 : Nat), AV.val (Value.int IntKind.i64 (L.getD i default).d), AV.val (Value.int IntKind.i64 (L.getD i default).s), AV.val (Value.int IntKind.i64 (L.getD i default).n)]] [((0 : Nat), Ob.box (dbox m (flL k L i)))] (AV.val (Value.int IntKind.i64 (chk3 (flL k L i) (L.getD i default).d (0 : Int)))) [((0 : Nat), some (Ob.box (dbox m (flK (flL k L i) (L.getD i default).d))))], decide (feL k L i = (0 : Int)) = false, inK IntKind.i64 ((↑i : Int) + (1 : Int))]) rfl rfl (by kernel_rfl) ⟨(decide_eq_true hlt2), (by omega), (by omega), (MethOK.of (by kernel_rfl)), fl, (decide_eq_false h0), (by simp only [inK]; omega), trivial⟩ rfl ⟨rfl, trivial, rfl, rfl, rfl, fun _ => rfl, trivial⟩ ?_
        · exact ih1
    · have hn : ¬ ((i : Int) < (L.length : Int)) := by omega
      obtain rfl : i = L.length := by omega
      refine Safe.ends mixed Try.func163 7 [⟨1100, [(0, .tt false)]⟩, ⟨1200, []⟩] (r := I (feL k L L.length)) (hp := [(0, .box (dbox m (flL k L L.length))), (1, .blk 128 [I c, I ((↑L.length : Int)), .sl 2 0 1 L.length none, I (sSz c L)]), (2, .ro 1 L.length (rowN encSp (0 : Nat) L))]) (ob := [decide ((↑L.length : Int) < (↑L.length : Int)) = false]) rfl (by kernel_rfl) ⟨(decide_eq_false hn), trivial⟩ rfl ⟨ObLe.refl _, ObLe.refl _, ObLe.refl _, trivial⟩ ⟨rfl, trivial, rfl, rfl, rfl, fun _ => rfl, trivial⟩ rfl
  · intro H
    refine Safe.goto mixed 9 [⟨1100, []⟩, ⟨1200, []⟩, ⟨1300, []⟩] [3, 10, 11, 12] [0, 1, 2] (todo' := loopAt Try.f163 0) (sl := slotsOf 23 [(3, I 0), (10, .sl 2 0 1 L.length none), (11, I ((↑L.length : Int))), (12, I 0)]) (hp := [(0, .box (dbox m k)), (1, .blk 128 [I c, I ((↑L.length : Int)), .sl 2 0 1 L.length none, I (sSz c L)]), (2, .ro 1 L.length (rowN encSp (0 : Nat) L))]) (ob := []) rfl rfl (by kernel_rfl) trivial rfl ⟨rfl, trivial, rfl, rfl, rfl, fun _ => rfl, trivial⟩ ?_
    · exact H 0 (Nat.zero_le _)
end Go.Proofs.Ytbgbjgedjmhcaaa
