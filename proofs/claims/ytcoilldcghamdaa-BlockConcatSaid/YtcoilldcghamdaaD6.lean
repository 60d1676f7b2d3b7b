/- Arrays that are filled; the spans over their disks. No conditions but those of each theorem. -/
import Derived.Test.YtcoilldcghamdaaSyZ
import Derived.KernelRfl
import Derived.Test.YtcoilldcghamdaaD4
import Derived.Test.YtcoilldcghamdaaD5
namespace Go.Proofs.Ytcoilldcghamdaa
open Go.RowKit
open OldD (DA Dk Co fp Gr Row Fresh hid hd hs gu nk good ldK ge vu Ar un stF chk3 chk4 rdV wrE wrK flK)
set_option linter.unusedVariables false
set_option linter.unusedSimpArgs false
theorem ob_lit {α : Type} [Inhabited α] (enc : α → AV) (L : List α) : ObLe (.ro 1 L.length (rowG (fun x => [enc x]) L)) (.ro 1 L.length (rowsOf (L.map enc) 1)) ∧ ObLe (.ro 1 L.length (rowsOf (L.map enc) 1)) (.ro 1 L.length (rowG (fun x => [enc x]) L)) := by
  have key : ∀ q, q < L.length → rowG (fun x => [enc x]) L q = rowsOf (L.map enc) 1 q := fun q hq => by
    unfold rowG rowsOf
    rw [Nat.mul_one, List.drop_eq_getElem_cons (by simpa using hq)]
    simp [List.getD_eq_getElem?_getD, List.getElem?_eq_getElem hq]
  exact ⟨⟨rfl, rfl, key⟩, ⟨rfl, rfl, fun q hq => (key q hq).symm⟩⟩
theorem new_lit1 (n : Int) (hn : 1 ≤ n ∧ n ≤ 65536) : CallOK Try.prog 46 [.sl 1 0 1 1 none] [(1, .ro 1 1 (rowsOf [I n] 1))] (.tup [.ptr 10 0 0 0, I 0]) [(10, some (.box (dbox 0 (nk [n]))))] := by
  refine (new_c [n] (by simp) (fun i hi => by
    have : i = 0 := by simpa using hi
    subst this; exact hn)).sim fun id => ?_
  simp only [find]
  split
  · exact ob_lit (fun x => I x) [n]
  · exact OSim.refl _
theorem loaded1 (X : List Int) (h1 : 1 ≤ X.length ∧ X.length ≤ 1000) :
    CallOK Try.prog 14 [.sl 1 0 1 1 none] [(1, .ro 1 1 (rowsOf [.sl 2 0 1 X.length none] 1)), (2, .vec 36 1 X.length (rowG encU X))] (.ptr 10 0 0 0) [(10, some (.box (dbox 0 (ldK (nk [(X.length : Int)]) 0 X))))] := by
  refine CallOK.intro Try.call14 Try.func14 rfl rfl ⟨rfl, fun q => closed_rows rfl q, rfl, fun _ => rfl, trivial⟩ ?_
  have e1 : (0 : Nat) < (nk [(X.length : Int)]).U.length := by simp [nk]
  have e2 : X.length = (gu (nk [(X.length : Int)]).U 0).now.length := by simp [nk, gu, un]
  have e3 : (nk [(X.length : Int)]).F.length ≤ 2 ^ 32 := by simp [nk]
  refine Safe.gotoE mixed 58 [⟨1100, []⟩, ⟨1200, []⟩, ⟨1300, []⟩, ⟨1400, []⟩, ⟨1500, []⟩, ⟨1600, []⟩, ⟨1700, []⟩, ⟨1800, [(1, .call [1507] (.tup [.ptr ((1855 : Nat)) ((0 : Nat)) ((0 : Nat)) ((0 : Nat)), I ((0 : Int))]) [(1855, some (.box (dbox (0 : Nat) (nk [(↑X.length : Int)]))))])]⟩, ⟨1900, []⟩, ⟨2000, []⟩, ⟨2100, []⟩, ⟨2200, [(6, .call [1855, 2] (I ((0 : Int))) [(1855, some (.box (dbox (0 : Nat) (ldK (nk [(↑X.length : Int)]) (0 : Nat) X))))])]⟩, ⟨2300, []⟩, ⟨2400, []⟩, ⟨2500, []⟩] [2] [1, 2, 1855] (sl := slotsOf 48 [(2, .ptr ((1855 : Nat)) ((0 : Nat)) ((0 : Nat)) ((0 : Nat)))]) (hp := [(1, .ro ((1 : Nat)) ((1 : Nat)) (rowsOf [AV.sl (2 : Nat) (0 : Nat) (1 : Nat) X.length none] (1 : Nat))), (2, .vec ((36 : Nat)) ((1 : Nat)) (X.length) (rowG encU X)), (1855, .box (dbox (0 : Nat) (ldK (nk [(↑X.length : Int)]) (0 : Nat) X)))]) (ob := [(0 : Int) ≤ (0 : Int) ∧ (0 : Int) < (↑(1 : Nat) : Int), (0 : Nat) < (1 : Nat), (0 : Nat) + (1 : Nat) ≤ (1 : Nat), (1 : Nat) ≤ (1099511627776 : Nat), inK IntKind.i64 ((0 : Int) + (1 : Int)), CallOK Try.prog (46 : Nat) ([] ++ [AV.sl (1507 : Nat) (0 : Nat) (1 : Nat) (1 : Nat) none] ++ []) [((1507 : Nat), Ob.vec (3 : Nat) (1 : Nat) (1 : Nat) (rowsOf [AV.val (Value.int IntKind.i64 (↑X.length : Int))] (1 : Nat)))] (AV.tup [AV.ptr (1855 : Nat) (0 : Nat) (0 : Nat) (0 : Nat), AV.val (Value.int IntKind.i64 (0 : Int))]) [((1855 : Nat), some (Ob.box (dbox (0 : Nat) (nk [(↑X.length : Int)]))))], (0 : Int) ≤ (0 : Int) ∧ (0 : Int) < (↑(1 : Nat) : Int), (0 : Nat) < (1 : Nat), CallOK Try.prog (47 : Nat) ([] ++ [AV.ptr (1855 : Nat) (0 : Nat) (0 : Nat) (0 : Nat), AV.val (Value.int IntKind.i64 (0 : Int)), AV.sl (2 : Nat) (0 : Nat) (1 : Nat) X.length none] ++ []) [((1855 : Nat), Ob.box (dbox (0 : Nat) (nk [(↑X.length : Int)]))), ((2 : Nat), Ob.vec (36 : Nat) (1 : Nat) X.length (rowG encU X))] (AV.val (Value.int IntKind.i64 (0 : Int))) [((1855 : Nat), some (Ob.box (dbox (0 : Nat) (ldK (nk [(↑X.length : Int)]) (0 : Nat) X))))], inK IntKind.i64 ((0 : Int) + (1 : Int))]) rfl rfl (by kernel_rfl) ⟨(by first | omega | assumption), (by first | omega | assumption), (by first | omega | assumption), (by first | omega | assumption), (by simp only [inK]; first | omega | assumption), (CallOK.simR (CallOK.ren (CallOK.own 3 1 rfl rfl rfl (new_lit1 ((↑X.length : Int)) (by first | omega | assumption))) [(1, 1507), (10, 1855)] [1, 10] rfl rfl rfl rfl ⟨rfl, closed_rows rfl, trivial⟩ rfl ⟨rfl, closed_rows rfl, rfl, trivial, trivial⟩) (HpSim.cons rfl (OSim.rowsV rfl) HpSim.nil)), (by first | omega | assumption), (by first | omega | assumption), (CallOK.ren (load_c (nk [(↑X.length : Int)]) ((0 : Nat)) (X) (by first | omega | assumption) (by first | omega | assumption) (by first | omega | assumption) (by first | omega | assumption)) [(0, 1855), (1, 2)] [0, 1] rfl rfl rfl rfl ⟨rfl, trivial, rfl, fun _ => rfl, trivial⟩ rfl ⟨rfl, trivial, rfl, fun _ => rfl, trivial⟩), (by simp only [inK]; first | omega | assumption), trivial⟩ rfl ⟨rfl, closed_rows rfl, rfl, fun _ => rfl, rfl, trivial, trivial⟩ fun td htd => ?_
  refine Safe.ren [(1855, 10)] rfl rfl rfl rfl ⟨rfl, closed_rows rfl, rfl, fun _ => rfl, rfl, trivial, trivial⟩ ?_
  refine Safe.endsT Go.Proofs.Try.func14 htd (r := .ptr ((10 : Nat)) ((0 : Nat)) ((0 : Nat)) ((0 : Nat))) (hp := [(1, .ro ((1 : Nat)) ((1 : Nat)) (fun q => renL [((1855 : Nat), (10 : Nat))] (rowsOf [AV.sl (2 : Nat) (0 : Nat) (1 : Nat) X.length none] (1 : Nat) q))), (2, .vec ((36 : Nat)) ((1 : Nat)) (X.length) (fun q => renL [((1855 : Nat), (10 : Nat))] (rowG encU X q))), (10, .box (dbox (0 : Nat) (ldK (nk [(↑X.length : Int)]) (0 : Nat) X)))]) (ob := []) rfl (by kernel_rfl) trivial rfl ⟨⟨rfl, rfl, fun _ _ => by first | rfl | exact renL_rowsOf _ _ _ _⟩, ⟨rfl, rfl, rfl, fun _ _ => rfl⟩, ?_, trivial⟩ ⟨rfl, closed_rows rfl, rfl, fun _ => rfl, rfl, trivial, trivial⟩ rfl
  · exact ObLe.refl _
/-- an array with disks that hold these words -/
def disk1 (X : List Int) : Dk := ldK (nk [(X.length : Int)]) 0 X
theorem disk1_sz (X : List Int) : szV (disk1 X) 0 = (X.length : Int) := by
  simp [disk1, szV, hd, ldK, nk, gu, un]
theorem spans1 (X : List Int) (h1 : 1 ≤ X.length ∧ X.length ≤ 1000) :
    CallOK Try.prog 22 [.ptr 0 0 0 0] [(0, .box (dbox 0 (disk1 X)))] (.sl 10 0 1 1 none) [(0, some (.box (dbox 0 (disk1 X)))), (10, some (.vec 41 1 1 (rowsOf [.ifc 100 (.agg [.ptr 0 0 0 0, I 0, I 0, I X.length])] 1)))] := by
  refine CallOK.intro Try.call22 Try.func22 rfl rfl ⟨rfl, trivial, trivial⟩ ?_
  have e1 := disk1_sz X
  have e2 : spFit (disk1 X) 0 0 X.length := by unfold spFit; rw [e1]; omega
  have e3 : 0 ≤ szV (disk1 X) 0 ∧ szV (disk1 X) 0 ≤ 100000 := by rw [e1]; omega
  have e4 : ((disk1 X).U.length : Int) = 1 := by simp [disk1, ldK, nk]
  have c1 := count_c 0 (disk1 X)
  have c2 := size_c 0 (disk1 X) 0
  rw [e4] at c1
  rw [e1] at c2
  refine Safe.gotoE mixed 34 [⟨1100, []⟩, ⟨1200, []⟩, ⟨1300, []⟩, ⟨1400, [(2, .call [0] (I ((1 : Int))) [(0, some (.box (dbox (0 : Nat) (disk1 X))))])]⟩, ⟨1500, [(4, .call [0] (I ((↑X.length : Int))) [(0, some (.box (dbox (0 : Nat) (disk1 X))))]), (5, .call [0] (.tup [.ifc ((100 : Nat)) (.agg [.ptr ((0 : Nat)) ((0 : Nat)) ((0 : Nat)) ((0 : Nat)), I ((0 : Int)), I ((0 : Int)), I ((↑X.length : Int))]), I ((0 : Int))]) [(0, some (.box (dbox (0 : Nat) (disk1 X))))])]⟩, ⟨1600, []⟩, ⟨1700, []⟩, ⟨1800, []⟩, ⟨1900, [(2, .call [0] (I ((1 : Int))) [(0, some (.box (dbox (0 : Nat) (disk1 X))))])]⟩, ⟨2000, []⟩] [2] [0, 1703] (sl := slotsOf 33 [(2, .sl ((1703 : Nat)) ((0 : Nat)) ((1 : Nat)) ((1 : Nat)) (none))]) (hp := [(0, .box (dbox (0 : Nat) (disk1 X))), (1703, .vec ((41 : Nat)) ((1 : Nat)) ((1 : Nat)) (rowsOf [AV.ifc (100 : Nat) (AV.agg [AV.ptr (0 : Nat) (0 : Nat) (0 : Nat) (0 : Nat), AV.val (Value.int IntKind.i64 (0 : Int)), AV.val (Value.int IntKind.i64 (0 : Int)), AV.val (Value.int IntKind.i64 (↑X.length : Int))])] (1 : Nat)))]) (ob := [CallOK Try.prog (57 : Nat) ([] ++ [AV.ptr (0 : Nat) (0 : Nat) (0 : Nat) (0 : Nat)] ++ []) [((0 : Nat), Ob.box (dbox (0 : Nat) (disk1 X)))] (AV.val (Value.int IntKind.i64 (1 : Int))) [((0 : Nat), some (Ob.box (dbox (0 : Nat) (disk1 X))))], CallOK Try.prog (17 : Nat) ([] ++ [AV.ptr (0 : Nat) (0 : Nat) (0 : Nat) (0 : Nat), AV.val (Value.int IntKind.i64 (0 : Int))] ++ []) [((0 : Nat), Ob.box (dbox (0 : Nat) (disk1 X)))] (AV.val (Value.int IntKind.i64 (↑X.length : Int))) [((0 : Nat), some (Ob.box (dbox (0 : Nat) (disk1 X))))], CallOK Try.prog (16 : Nat) ([] ++ [AV.ptr (0 : Nat) (0 : Nat) (0 : Nat) (0 : Nat), AV.val (Value.int IntKind.i64 (0 : Int)), ofV (Value.int IntKind.i64 (0 : Int)), AV.val (Value.int IntKind.i64 (↑X.length : Int))] ++ []) [((0 : Nat), Ob.box (dbox (0 : Nat) (disk1 X)))] (AV.tup [AV.ifc (100 : Nat) (AV.agg [AV.ptr (0 : Nat) (0 : Nat) (0 : Nat) (0 : Nat), AV.val (Value.int IntKind.i64 (0 : Int)), AV.val (Value.int IntKind.i64 (0 : Int)), AV.val (Value.int IntKind.i64 (↑X.length : Int))]), AV.val (Value.int IntKind.i64 (0 : Int))]) [((0 : Nat), some (Ob.box (dbox (0 : Nat) (disk1 X))))], (0 : Nat) + (1 : Nat) ≤ (1 : Nat), (1 : Nat) ≤ (1099511627776 : Nat), inK IntKind.i64 ((0 : Int) + (1 : Int)), CallOK Try.prog (57 : Nat) ([] ++ [AV.ptr (0 : Nat) (0 : Nat) (0 : Nat) (0 : Nat)] ++ []) [((0 : Nat), Ob.box (dbox (0 : Nat) (disk1 X)))] (AV.val (Value.int IntKind.i64 (1 : Int))) [((0 : Nat), some (Ob.box (dbox (0 : Nat) (disk1 X))))]]) rfl rfl (by kernel_rfl) ⟨c1, c2, (span_ok ((0 : Nat)) (disk1 X) ((0 : Int)) ((0 : Int)) ((↑X.length : Int)) (by first | omega | assumption) (by first | omega | assumption)), (by first | omega | assumption), (by first | omega | assumption), (by simp only [inK]; first | omega | assumption), c1, trivial⟩ rfl ⟨rfl, trivial, rfl, closed_rows rfl, trivial⟩ fun td htd => ?_
  refine Safe.ren [(1703, 10)] rfl rfl rfl rfl ⟨rfl, trivial, rfl, closed_rows rfl, trivial⟩ ?_
  refine Safe.endsT Go.Proofs.Try.func22 htd (r := .sl ((10 : Nat)) ((0 : Nat)) ((1 : Nat)) ((1 : Nat)) (none)) (hp := [(0, .box (dbox (0 : Nat) (disk1 X))), (10, .vec ((41 : Nat)) ((1 : Nat)) ((1 : Nat)) (fun q => renL [((1703 : Nat), (10 : Nat))] (rowsOf [AV.ifc (100 : Nat) (AV.agg [AV.ptr (0 : Nat) (0 : Nat) (0 : Nat) (0 : Nat), AV.val (Value.int IntKind.i64 (0 : Int)), AV.val (Value.int IntKind.i64 (0 : Int)), AV.val (Value.int IntKind.i64 (↑X.length : Int))])] (1 : Nat) q)))]) (ob := []) rfl (by kernel_rfl) trivial rfl ⟨ObLe.refl _, ⟨rfl, rfl, rfl, fun _ _ => by first | rfl | exact renL_rowsOf _ _ _ _⟩, trivial⟩ ⟨rfl, trivial, rfl, closed_rows rfl, trivial⟩ rfl
  all_goals skip
end Go.Proofs.Ytcoilldcghamdaa
