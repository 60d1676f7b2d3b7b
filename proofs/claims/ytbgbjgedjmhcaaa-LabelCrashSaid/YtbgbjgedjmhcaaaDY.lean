/- Arrays that are filled with lists of words. No conditions but those of each theorem. -/
import Derived.Test.YtbgbjgedjmhcaaaSyZ
import Derived.KernelRfl
import Derived.Test.YtbgbjgedjmhcaaaDK
import Derived.Test.YtbgbjgedjmhcaaaD5
namespace Go.Proofs.Ytbgbjgedjmhcaaa
open Go.RowKit
open OldD (DA Dk Co Un Wr fp Gr Row Fresh hid hd hs gu nk good ldK ge vu Ar un stF chk3 chk4 rdV wrE wrK flK gu_set)
set_option linter.unusedVariables false
set_option linter.unnecessarySimpa false
set_option linter.unusedSimpArgs false
set_option maxRecDepth 10000
def ldA (k : Dk) (j : Nat) : List (List Int) → Dk
  | [] => k
  | X :: r => ldA (ldK k j X) (j + 1) r
/-- an array whose disks hold these words -/
def dkN (LL : List (List Int)) : Dk := ldA (nk (LL.map fun X => (X.length : Int))) 0 LL
theorem ldA_all : ∀ (r : List (List Int)) (k : Dk) (j : Nat), k.U.length = j + r.length → k.F = [] → (ldA k j r).U.length = k.U.length ∧ (ldA k j r).F = [] ∧ (ldA k j r).bad = k.bad ∧ (ldA k j r).fuse = k.fuse ∧ (ldA k j r).down = k.down ∧ (ldA k j r).wr = k.wr ∧
    ∀ d, gu (ldA k j r).U d = if j ≤ d ∧ d < j + r.length then ⟨r.getD (d - j) [], r.getD (d - j) [], (gu k.U d).mis⟩ else gu k.U d
  | [], k, j, _, hF => ⟨rfl, hF, rfl, rfl, rfl, rfl, fun d => by rw [if_neg (by simp)]; rfl⟩
  | X :: r, k, j, hl, hF => by
    have h1 : (ldK k j X).U.length = (j + 1) + r.length := by simp [ldK]; simp at hl; omega
    have h2 : (ldK k j X).F = [] := by simp [ldK, hF, stF]
    obtain ⟨a1, a2, a3, a4, a5, a6, a7⟩ := ldA_all r (ldK k j X) (j + 1) h1 h2
    refine ⟨a1.trans (by simp [ldK]), a2, a3, a4, a5, a6, fun d => ?_⟩
    have hg : gu (ldK k j X).U d = if d = j then { gu k.U j with now := X, dur := X } else gu k.U d := by
      show gu (k.U.set j _) d = _
      rw [gu_set]
      by_cases e : d = j
      · rw [if_pos ⟨e, by simp at hl; omega⟩, if_pos e]
      · rw [if_neg (fun c => e c.1), if_neg e]
    show gu (ldA (ldK k j X) (j + 1) r).U d = _
    rw [a7, hg]
    by_cases e : d = j
    · subst e
      rw [if_neg (by omega), if_pos rfl, if_pos (by simp)]
      simp
    · rw [if_neg e]
      by_cases c : j + 1 ≤ d ∧ d < j + 1 + r.length
      · rw [if_pos c, if_pos (by simp; omega)]
        rw [show d - j = (d - (j + 1)) + 1 by omega]
        simp
      · rw [if_neg c, if_neg (by simp; omega)]
theorem dkN_all (LL : List (List Int)) : (dkN LL).U.length = LL.length ∧ (dkN LL).F = [] ∧ (∀ x y, (dkN LL).bad x y = false) ∧ (dkN LL).fuse = 0 ∧ (dkN LL).down = false ∧ (dkN LL).wr = 0 ∧
    ∀ d, d < LL.length → gu (dkN LL).U d = ⟨LL.getD d [], LL.getD d [], false⟩ := by
  obtain ⟨a1, a2, a3, a4, a5, a6, a7⟩ := ldA_all LL (nk (LL.map fun X => (X.length : Int))) 0 (by simp [nk]) rfl
  refine ⟨a1.trans (by simp [nk]), a2, fun x y => by show (ldA _ 0 LL).bad x y = false; rw [a3]; rfl, a4, a5, a6, fun d hd => ?_⟩
  show gu (ldA _ 0 LL).U d = _
  rw [a7, if_pos ⟨by omega, by omega⟩]
  have : (gu (nk (LL.map fun X => (X.length : Int))).U d).mis = false := by
    simp [nk, gu, un, List.getElem?_eq_getElem hd]
  rw [this]
  rfl
def szL (LL : List (List Int)) (d : Nat) : Nat := (LL.getD d []).length
theorem dkN_gk (LL : List (List Int)) : Gk (dkN LL) LL.length (szL LL) 0 ∧ (∀ d t, d < LL.length → nw (dkN LL) d t = ge (LL.getD d []) t ∧ du (dkN LL) d t = ge (LL.getD d []) t) := by
  obtain ⟨a1, a2, a3, a4, a5, a6, a7⟩ := dkN_all LL
  have key : ∀ d t, d < LL.length → nw (dkN LL) d t = ge (LL.getD d []) t ∧ du (dkN LL) d t = ge (LL.getD d []) t := fun d t hd => by
    unfold nw du
    rw [a7 d hd]
    exact ⟨rfl, rfl⟩
  refine ⟨⟨a1, (fun d hd => by rw [a7 d hd]; exact ⟨rfl, rfl⟩), (fun d hd => by rw [a7 d hd]), a3, (by rw [a4]; omega), (fun w hw => by rw [a2] at hw; cases hw), (by rw [a2]; simp), (by rw [a6]; omega), fun d t hd ht => ?_⟩, key⟩
  rw [a2, (key d t hd).1, (key d t hd).2]; rfl
theorem new_cat3 (x y z : Int) (hx : 1 ≤ x ∧ x ≤ 65536) (hy : 1 ≤ y ∧ y ≤ 65536) (hz : 1 ≤ z ∧ z ≤ 65536) : CallOK Try.prog 57 [.sl 1 0 1 3 none] [(1, .ro 1 3 (catR 2 (catR 1 (rowsOf [I x] 1) (rowsOf [I y] 1)) (rowsOf [I z] 1)))] (.tup [.ptr 10 0 0 0, I 0]) [(10, some (.box (dbox 0 (nk [x, y, z]))))] := by
  refine (new_c [x, y, z] (by simp) (fun i hi => by
    have : i = 0 ∨ i = 1 ∨ i = 2 := by simp at hi; omega
    rcases this with rfl | rfl | rfl
    · exact hx
    · exact hy
    · exact hz)).sim fun id => ?_
  simp only [find]
  split
  · exact ⟨⟨rfl, rfl, fun q hq => match q, hq with | 0, _ | 1, _ | 2, _ => rfl⟩, ⟨rfl, rfl, fun q hq => match q, hq with | 0, _ | 1, _ | 2, _ => rfl⟩⟩
  · exact OSim.refl _
set_option maxHeartbeats 2000000 in
theorem loadedN3 (X Y Z : List Int) (hx : 1 ≤ X.length ∧ X.length ≤ 1000) (hy : 1 ≤ Y.length ∧ Y.length ≤ 1000) (hz : 1 ≤ Z.length ∧ Z.length ≤ 1000) :
    CallOK Try.prog 21 [.sl 1 0 1 3 none] [(1, .ro 1 3 (rowsOf [.sl 2 0 1 X.length none, .sl 3 0 1 Y.length none, .sl 4 0 1 Z.length none] 1)), (2, .vec 22 1 X.length (rowG encU X)), (3, .vec 22 1 Y.length (rowG encU Y)), (4, .vec 22 1 Z.length (rowG encU Z))] (.ptr 10 0 0 0) [(10, some (.box (dbox 0 (dkN [X, Y, Z]))))] := by
  refine CallOK.intro Try.call21 Try.func21 rfl rfl ⟨rfl, fun q => closed_rows rfl q, rfl, fun _ => rfl, rfl, fun _ => rfl, rfl, fun _ => rfl, trivial⟩ ?_
  obtain ⟨k0, hk0⟩ : ∃ k, k = nk [(X.length : Int), (Y.length : Int), (Z.length : Int)] := ⟨_, rfl⟩
  obtain ⟨k1, hk1⟩ : ∃ k, k = ldK k0 0 X := ⟨_, rfl⟩
  obtain ⟨k2, hk2⟩ : ∃ k, k = ldK k1 1 Y := ⟨_, rfl⟩
  obtain ⟨k3, hk3⟩ : ∃ k, k = ldK k2 2 Z := ⟨_, rfl⟩
  have l0 := load_c k0 0 X (by simp [hk0, nk, ldK]) (by simp [hk0, nk, gu, un, ldK]) hx.1 (by simp [hk0, nk, ldK, stF])
  rw [← hk1] at l0
  have l1 := load_c k1 1 Y (by simp [hk1, hk0, nk, ldK]) (by simp [hk1, hk0, nk, gu, un, ldK]) hy.1 (by simp [hk1, hk0, nk, ldK, stF])
  rw [← hk2] at l1
  have l2 := load_c k2 2 Z (by simp [hk2, hk1, hk0, nk, ldK]) (by simp [hk2, hk1, hk0, nk, gu, un, ldK]) hz.1 (by simp [hk2, hk1, hk0, nk, ldK, stF])
  rw [← hk3] at l2
  have nc := new_cat3 (X.length : Int) (Y.length : Int) (Z.length : Int) (by omega) (by omega) (by omega)
  rw [← hk0] at nc
  have e : dkN [X, Y, Z] = k3 := by rw [hk3, hk2, hk1, hk0]; rfl
  rw [e]
  clear e hk3 hk2 hk1 hk0
  refine Safe.gotoE mixed 108 [⟨1100, []⟩, ⟨1200, []⟩, ⟨1300, []⟩, ⟨1400, []⟩, ⟨1500, []⟩, ⟨1600, []⟩, ⟨1700, []⟩, ⟨1800, []⟩, ⟨1900, []⟩, ⟨2000, []⟩, ⟨2100, []⟩, ⟨2200, []⟩, ⟨2300, []⟩, ⟨2400, [(1, .call [2107] (.tup [.ptr 2455 0 0 0, I 0]) [(2455, some (.box (dbox (0 : Nat) k0)))])]⟩, ⟨2500, []⟩, ⟨2600, []⟩, ⟨2700, []⟩, ⟨2800, [(6, .call [2455, 2] (I 0) [(2455, some (.box (dbox (0 : Nat) k1)))])]⟩, ⟨2900, []⟩, ⟨3000, []⟩, ⟨3100, [(6, .call [2455, 3] (I 0) [(2455, some (.box (dbox (0 : Nat) k2)))])]⟩, ⟨3200, []⟩, ⟨3300, []⟩, ⟨3400, [(6, .call [2455, 4] (I 0) [(2455, some (.box (dbox (0 : Nat) k3)))])]⟩, ⟨3500, []⟩, ⟨3600, []⟩, ⟨3700, []⟩] [2] [1, 2, 3, 4, 2455] (sl := slotsOf 48 [(2, .ptr 2455 0 0 0)]) (hp := [(1, .ro 1 3 (rowsOf [AV.sl (2 : Nat) (0 : Nat) (1 : Nat) X.length none, AV.sl (3 : Nat) (0 : Nat) (1 : Nat) Y.length none, AV.sl (4 : Nat) (0 : Nat) (1 : Nat) Z.length none] (1 : Nat))), (2, .vec 22 1 X.length (rowG encU X)), (3, .vec 22 1 Y.length (rowG encU Y)), (4, .vec 22 1 Z.length (rowG encU Z)), (2455, .box (dbox (0 : Nat) k3))]) (ob := [(0 : Int) ≤ (0 : Int) ∧ (0 : Int) < (↑(3 : Nat) : Int), (0 : Nat) < (3 : Nat), (0 : Nat) + (1 : Nat) ≤ (1 : Nat), (1 : Nat) ≤ (1099511627776 : Nat), inK IntKind.i64 ((0 : Int) + (1 : Int)), (0 : Int) ≤ (0 : Int) + (1 : Int) ∧ (0 : Int) + (1 : Int) < (↑(3 : Nat) : Int), (1 : Nat) < (3 : Nat), (0 : Nat) + (1 : Nat) ≤ (1 : Nat), (1 : Nat) = (1 : Nat), (1 : Nat) + (1 : Nat) ≤ (1099511627776 : Nat), inK IntKind.i64 ((0 : Int) + (1 : Int) + (1 : Int)), (0 : Int) ≤ (0 : Int) + (1 : Int) + (1 : Int) ∧ (0 : Int) + (1 : Int) + (1 : Int) < (↑(3 : Nat) : Int), (2 : Nat) < (3 : Nat), (0 : Nat) + (1 : Nat) ≤ (1 : Nat), (2 : Nat) = (2 : Nat), (2 : Nat) + (1 : Nat) ≤ (1099511627776 : Nat), inK IntKind.i64 ((0 : Int) + (1 : Int) + (1 : Int) + (1 : Int)), CallOK Try.prog (57 : Nat) ([] ++ [AV.sl (2107 : Nat) (0 : Nat) (1 : Nat) (3 : Nat) none] ++ []) [((2107 : Nat), Ob.vec (3 : Nat) (1 : Nat) (3 : Nat) fun q => if q < (1 : Nat) + (1 : Nat) then if q < (0 : Nat) + (1 : Nat) then rowsOf [AV.val (Value.int IntKind.i64 (↑X.length : Int))] (1 : Nat) q else rowsOf [AV.val (Value.int IntKind.i64 (↑Y.length : Int))] (1 : Nat) (q - ((0 : Nat) + (1 : Nat))) else rowsOf [AV.val (Value.int IntKind.i64 (↑Z.length : Int))] (1 : Nat) (q - ((1 : Nat) + (1 : Nat))))] (AV.tup [AV.ptr (2455 : Nat) (0 : Nat) (0 : Nat) (0 : Nat), AV.val (Value.int IntKind.i64 (0 : Int))]) [((2455 : Nat), some (Ob.box (dbox (0 : Nat) k0)))], (0 : Int) ≤ (0 : Int) ∧ (0 : Int) < (↑(3 : Nat) : Int), (0 : Nat) < (3 : Nat), CallOK Try.prog (58 : Nat) ([] ++ [AV.ptr (2455 : Nat) (0 : Nat) (0 : Nat) (0 : Nat), AV.val (Value.int IntKind.i64 (0 : Int)), AV.sl (2 : Nat) (0 : Nat) (1 : Nat) X.length none] ++ []) [((2455 : Nat), Ob.box (dbox (0 : Nat) k0)), ((2 : Nat), Ob.vec (22 : Nat) (1 : Nat) X.length (rowG encU X))] (AV.val (Value.int IntKind.i64 (0 : Int))) [((2455 : Nat), some (Ob.box (dbox (0 : Nat) k1)))], inK IntKind.i64 ((0 : Int) + (1 : Int)), (0 : Int) ≤ (0 : Int) + (1 : Int) ∧ (0 : Int) + (1 : Int) < (↑(3 : Nat) : Int), (1 : Nat) < (3 : Nat), CallOK Try.prog (58 : Nat) ([] ++ [AV.ptr (2455 : Nat) (0 : Nat) (0 : Nat) (0 : Nat), AV.val (Value.int IntKind.i64 ((0 : Int) + (1 : Int))), AV.sl (3 : Nat) (0 : Nat) (1 : Nat) Y.length none] ++ []) [((2455 : Nat), Ob.box (dbox (0 : Nat) k1)), ((3 : Nat), Ob.vec (22 : Nat) (1 : Nat) Y.length (rowG encU Y))] (AV.val (Value.int IntKind.i64 (0 : Int))) [((2455 : Nat), some (Ob.box (dbox (0 : Nat) k2)))], inK IntKind.i64 ((0 : Int) + (1 : Int) + (1 : Int)), (0 : Int) ≤ (0 : Int) + (1 : Int) + (1 : Int) ∧ (0 : Int) + (1 : Int) + (1 : Int) < (↑(3 : Nat) : Int), (2 : Nat) < (3 : Nat), CallOK Try.prog (58 : Nat) ([] ++ [AV.ptr (2455 : Nat) (0 : Nat) (0 : Nat) (0 : Nat), AV.val (Value.int IntKind.i64 ((0 : Int) + (1 : Int) + (1 : Int))), AV.sl (4 : Nat) (0 : Nat) (1 : Nat) Z.length none] ++ []) [((2455 : Nat), Ob.box (dbox (0 : Nat) k2)), ((4 : Nat), Ob.vec (22 : Nat) (1 : Nat) Z.length (rowG encU Z))] (AV.val (Value.int IntKind.i64 (0 : Int))) [((2455 : Nat), some (Ob.box (dbox (0 : Nat) k3)))], inK IntKind.i64 ((0 : Int) + (1 : Int) + (1 : Int) + (1 : Int))]) rfl rfl (by kernel_rfl) ⟨(by first | omega | assumption), (by first | omega | assumption), (by first | omega | assumption), (by first | omega | assumption), (by simp only [inK]; first | omega | assumption), (by first | omega | assumption), (by first | omega | assumption), (by first | omega | assumption), (by first | omega | assumption), (by first | omega | assumption), (by simp only [inK]; first | omega | assumption), (by first | omega | assumption), (by first | omega | assumption), (by first | omega | assumption), (by first | omega | assumption), (by first | omega | assumption), (by simp only [inK]; first | omega | assumption), (CallOK.simR (CallOK.ren (CallOK.own 3 1 (es := (1 : Nat)) (n := (3 : Nat)) (row := catR (2 : Nat) (catR (1 : Nat) (rowsOf [I (↑X.length : Int)] (1 : Nat)) (rowsOf [I (↑Y.length : Int)] (1 : Nat))) (rowsOf [I (↑Z.length : Int)] (1 : Nat))) rfl rfl rfl nc) [(1, 2107), (10, 2455)] [1, 10] rfl rfl rfl rfl ⟨rfl, closed_cat (n := 2) (closed_cat (n := 1) (closed_rows rfl) (closed_rows rfl)) (closed_rows rfl), trivial⟩ rfl ⟨rfl, closed_cat (n := 2) (closed_cat (n := 1) (closed_rows rfl) (closed_rows rfl)) (closed_rows rfl), rfl, trivial, trivial⟩) (HpSim.cons rfl (OSim.nlV (closed_cat (n := 2) (closed_cat (n := 1) (closed_rows rfl) (closed_rows rfl)) (closed_rows rfl))) HpSim.nil)), (by first | omega | assumption), (by first | omega | assumption), (CallOK.ren l0 [(0, 2455), (1, 2)] [0, 1] rfl rfl rfl rfl ⟨rfl, trivial, rfl, fun _ => rfl, trivial⟩ rfl ⟨rfl, trivial, rfl, fun _ => rfl, trivial⟩), (by simp only [inK]; first | omega | assumption), (by first | omega | assumption), (by first | omega | assumption), (CallOK.ren l1 [(0, 2455), (1, 3)] [0, 1] rfl rfl rfl rfl ⟨rfl, trivial, rfl, fun _ => rfl, trivial⟩ rfl ⟨rfl, trivial, rfl, fun _ => rfl, trivial⟩), (by simp only [inK]; first | omega | assumption), (by first | omega | assumption), (by first | omega | assumption), (CallOK.ren l2 [(0, 2455), (1, 4)] [0, 1] rfl rfl rfl rfl ⟨rfl, trivial, rfl, fun _ => rfl, trivial⟩ rfl ⟨rfl, trivial, rfl, fun _ => rfl, trivial⟩), (by simp only [inK]; first | omega | assumption), trivial⟩ rfl ⟨rfl, closed_rows rfl, rfl, fun _ => rfl, rfl, fun _ => rfl, rfl, fun _ => rfl, rfl, trivial, trivial⟩ fun td htd => ?_
  refine Safe.ren [(2455, 10)] rfl rfl rfl rfl ⟨rfl, closed_rows rfl, rfl, fun _ => rfl, rfl, fun _ => rfl, rfl, fun _ => rfl, rfl, trivial, trivial⟩ ?_
  refine Safe.endsT Try.func21 htd (r := .ptr 10 0 0 0) (hp := [(1, .ro 1 3 (fun q => renL [((2455 : Nat), (10 : Nat))] (rowsOf [AV.sl (2 : Nat) (0 : Nat) (1 : Nat) X.length none, AV.sl (3 : Nat) (0 : Nat) (1 : Nat) Y.length none, AV.sl (4 : Nat) (0 : Nat) (1 : Nat) Z.length none] (1 : Nat) q))), (2, .vec 22 1 X.length (fun q => renL [((2455 : Nat), (10 : Nat))] (rowG encU X q))), (3, .vec 22 1 Y.length (fun q => renL [((2455 : Nat), (10 : Nat))] (rowG encU Y q))), (4, .vec 22 1 Z.length (fun q => renL [((2455 : Nat), (10 : Nat))] (rowG encU Z q))), (10, .box (dbox (0 : Nat) k3))]) (ob := []) rfl (by kernel_rfl) trivial rfl ⟨⟨rfl, rfl, fun _ _ => by first | rfl | exact renL_rowsOf _ _ _ _⟩, ⟨rfl, rfl, rfl, fun _ _ => rfl⟩, ⟨rfl, rfl, rfl, fun _ _ => rfl⟩, ⟨rfl, rfl, rfl, fun _ _ => rfl⟩, ObLe.refl _, trivial⟩ ⟨rfl, closed_rows rfl, rfl, fun _ => rfl, rfl, fun _ => rfl, rfl, fun _ => rfl, rfl, trivial, trivial⟩ rfl
  all_goals exact ObLe.refl _
end Go.Proofs.Ytbgbjgedjmhcaaa
