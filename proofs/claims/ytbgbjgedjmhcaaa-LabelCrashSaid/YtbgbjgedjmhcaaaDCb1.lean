/- Arrays that are filled with lists of words, for one list. No conditions but those of each theorem. -/
import Derived.Test.YtbgbjgedjmhcaaaSyZ
import Derived.KernelRfl
import Derived.Test.YtbgbjgedjmhcaaaDY
namespace Go.Proofs.Ytbgbjgedjmhcaaa
open Go.RowKit
open OldD (DA Dk Co Un Wr fp Gr Row Fresh hid hd hs gu nk good ldK ge vu Ar un stF chk3 chk4 rdV wrE wrK flK gu_set)
set_option linter.unusedVariables false
set_option linter.unnecessarySimpa false
set_option linter.unusedSimpArgs false
set_option maxRecDepth 10000
theorem newc1 (x : Int) (hx : 1 ≤ x ∧ x ≤ 65536) : CallOK Try.prog 57 [.sl 1 0 1 1 none] [(1, .ro 1 1 (rowsOf [I x] 1))] (.tup [.ptr 10 0 0 0, I 0]) [(10, some (.box (dbox 0 (nk [x]))))] := by
  refine (new_c [x] (by simp) (fun i hi => by
    have : i = 0 := by simp at hi; omega
    rcases this with rfl
    · exact hx)).sim fun id => ?_
  simp only [find]
  split
  · exact ⟨⟨rfl, rfl, fun q hq => match q, hq with | 0, _ => rfl⟩, ⟨rfl, rfl, fun q hq => match q, hq with | 0, _ => rfl⟩⟩
  · exact OSim.refl _
set_option maxHeartbeats 2000000 in
theorem loadedN1 (X : List Int) (hx : 1 ≤ X.length ∧ X.length ≤ 1000) :
    CallOK Try.prog 21 [.sl 1 0 1 1 none] [(1, .ro 1 1 (rowsOf [.sl 2 0 1 X.length none] 1)), (2, .vec 22 1 X.length (rowG encU X))] (.ptr 10 0 0 0) [(10, some (.box (dbox 0 (dkN [X]))))] := by
  refine CallOK.intro Try.call21 Try.func21 rfl rfl ⟨rfl, fun q => closed_rows rfl q, rfl, fun _ => rfl, trivial⟩ ?_
  obtain ⟨k0, hk0⟩ : ∃ k, k = nk [(X.length : Int)] := ⟨_, rfl⟩
  obtain ⟨k1, hk1⟩ : ∃ k, k = ldK k0 0 X := ⟨_, rfl⟩
  have l0 := load_c k0 0 X (by simp [hk0, nk, ldK]) (by simp [hk0, nk, gu, un, ldK]) hx.1 (by simp [hk0, nk, ldK, stF])
  rw [← hk1] at l0
  have nc := newc1 (X.length : Int) (by omega)
  rw [← hk0] at nc
  have e : dkN [X] = k1 := by rw [hk1, hk0]; rfl
  rw [e]
  clear e hk1 hk0
  refine Safe.gotoE mixed 58 [⟨1100, []⟩, ⟨1200, []⟩, ⟨1300, []⟩, ⟨1400, []⟩, ⟨1500, []⟩, ⟨1600, []⟩, ⟨1700, []⟩, ⟨1800, [(1, .call [1507] (.tup [.ptr 1855 0 0 0, I 0]) [(1855, some (.box (dbox (0 : Nat) k0)))])]⟩, ⟨1900, []⟩, ⟨2000, []⟩, ⟨2100, []⟩, ⟨2200, [(6, .call [1855, 2] (I 0) [(1855, some (.box (dbox (0 : Nat) k1)))])]⟩, ⟨2300, []⟩, ⟨2400, []⟩, ⟨2500, []⟩] [2] [1, 2, 1855] (sl := slotsOf 48 [(2, .ptr 1855 0 0 0)]) (hp := [(1, .ro 1 1 (rowsOf [AV.sl (2 : Nat) (0 : Nat) (1 : Nat) X.length none] (1 : Nat))), (2, .vec 22 1 X.length (rowG encU X)), (1855, .box (dbox (0 : Nat) k1))]) (ob := [(0 : Int) ≤ (0 : Int) ∧ (0 : Int) < (↑(1 : Nat) : Int), (0 : Nat) < (1 : Nat), (0 : Nat) + (1 : Nat) ≤ (1 : Nat), (1 : Nat) ≤ (1099511627776 : Nat), inK IntKind.i64 ((0 : Int) + (1 : Int)), CallOK Try.prog (57 : Nat) ([] ++ [AV.sl (1507 : Nat) (0 : Nat) (1 : Nat) (1 : Nat) none] ++ []) [((1507 : Nat), Ob.vec (3 : Nat) (1 : Nat) (1 : Nat) (rowsOf [AV.val (Value.int IntKind.i64 (↑X.length : Int))] (1 : Nat)))] (AV.tup [AV.ptr (1855 : Nat) (0 : Nat) (0 : Nat) (0 : Nat), AV.val (Value.int IntKind.i64 (0 : Int))]) [((1855 : Nat), some (Ob.box (dbox (0 : Nat) k0)))], (0 : Int) ≤ (0 : Int) ∧ (0 : Int) < (↑(1 : Nat) : Int), (0 : Nat) < (1 : Nat), CallOK Try.prog (58 : Nat) ([] ++ [AV.ptr (1855 : Nat) (0 : Nat) (0 : Nat) (0 : Nat), AV.val (Value.int IntKind.i64 (0 : Int)), AV.sl (2 : Nat) (0 : Nat) (1 : Nat) X.length none] ++ []) [((1855 : Nat), Ob.box (dbox (0 : Nat) k0)), ((2 : Nat), Ob.vec (22 : Nat) (1 : Nat) X.length (rowG encU X))] (AV.val (Value.int IntKind.i64 (0 : Int))) [((1855 : Nat), some (Ob.box (dbox (0 : Nat) k1)))], inK IntKind.i64 ((0 : Int) + (1 : Int))]) rfl rfl (by kernel_rfl) ⟨(by first | omega | assumption), (by first | omega | assumption), (by first | omega | assumption), (by first | omega | assumption), (by simp only [inK]; first | omega | assumption), (CallOK.simR (CallOK.ren (CallOK.own 3 1 (es := (1 : Nat)) (n := (1 : Nat)) (row := rowsOf [I (↑X.length : Int)] (1 : Nat)) rfl rfl rfl nc) [(1, 1507), (10, 1855)] [1, 10] rfl rfl rfl rfl ⟨rfl, closed_rows rfl, trivial⟩ rfl ⟨rfl, closed_rows rfl, rfl, trivial, trivial⟩) (HpSim.cons rfl (OSim.rowsV rfl) HpSim.nil)), (by first | omega | assumption), (by first | omega | assumption), (CallOK.ren l0 [(0, 1855), (1, 2)] [0, 1] rfl rfl rfl rfl ⟨rfl, trivial, rfl, fun _ => rfl, trivial⟩ rfl ⟨rfl, trivial, rfl, fun _ => rfl, trivial⟩), (by simp only [inK]; first | omega | assumption), trivial⟩ rfl ⟨rfl, closed_rows rfl, rfl, fun _ => rfl, rfl, trivial, trivial⟩ fun td htd => ?_
  refine Safe.ren [(1855, 10)] rfl rfl rfl rfl ⟨rfl, closed_rows rfl, rfl, fun _ => rfl, rfl, trivial, trivial⟩ ?_
  refine Safe.endsT Try.func21 htd (r := .ptr 10 0 0 0) (hp := [(1, .ro 1 1 (fun q => renL [((1855 : Nat), (10 : Nat))] (rowsOf [AV.sl (2 : Nat) (0 : Nat) (1 : Nat) X.length none] (1 : Nat) q))), (2, .vec 22 1 X.length (fun q => renL [((1855 : Nat), (10 : Nat))] (rowG encU X q))), (10, .box (dbox (0 : Nat) k1))]) (ob := []) rfl (by kernel_rfl) trivial rfl ⟨⟨rfl, rfl, fun _ _ => by first | rfl | exact renL_rowsOf _ _ _ _⟩, ⟨rfl, rfl, rfl, fun _ _ => rfl⟩, ObLe.refl _, trivial⟩ ⟨rfl, closed_rows rfl, rfl, fun _ => rfl, rfl, trivial, trivial⟩ rfl
  all_goals exact ObLe.refl _
end Go.Proofs.Ytbgbjgedjmhcaaa
