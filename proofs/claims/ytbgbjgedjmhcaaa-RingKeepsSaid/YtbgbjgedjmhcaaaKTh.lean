/- What the law needs, one text behind the other. No conditions but those of each theorem. -/
import Derived.KernelRfl
import Derived.Below
import Derived.WalkKit
import Derived.OpenShut
import Derived.SliceStrings
import Derived.Test.YtbgbjgedjmhcaaaKTg
namespace Go.Proofs.Ytbgbjgedjmhcaaa
open Go.RowKit
open OldD (DA Dk Co fp Gr Row Fresh hid hd hs gu nk good ldK ge vu Ar un stF chk3 chk4 rdV wrE wrK flK)
set_option linter.unusedVariables false
set_option linter.unnecessarySimpa false
set_option linter.unusedSimpArgs false
set_option maxRecDepth 10000
set_option maxHeartbeats 2000000 in
theorem spansG (m n : Nat) (sz : Nat → Nat) (k : Dk) (hn : n ≤ 8) (hU : k.U.length = n) (hz : ∀ i, i < n → szV k (i : Int) = (sz i : Int) ∧ 1 ≤ sz i ∧ sz i ≤ 1000) :
    CallOK Try.prog 22 [.ptr 0 0 0 0] [(0, .box (dbox m k))] (.sl 10 0 1 n none) [(0, some (.box (dbox m k))), (10, some (.vec 43 1 n (rowN encSp 0 (spL sz n))))] := by
  refine CallOK.intro Try.call22 Try.func22 rfl rfl ⟨rfl, trivial, trivial⟩ ?_
  have cc := count_c m k
  rw [hU] at cc
  refine Safe.withLoop (loopAt Try.f22 0) [0, 20] 33 (fun i : Nat => [(0, .ptr 0 0 0 0), (3, .sl 20 0 1 (spL sz i).length none), (4, I i)]) (fun i => [(0, .box (dbox m k)), (20, .vec 43 1 (spL sz i).length (rowN encSp 0 (spL sz i)))]) (fun i => i ≤ n) (fun i => n - i) ?_ ?_
  · intro i hi ih
    have hl := spL_len sz i
    by_cases hlt : i < n
    · have hlt2 : (i : Int) < (n : Int) := by omega
      obtain ⟨z1, z2, z3⟩ := hz i hlt
      have sc := size_c m k i
      rw [z1] at sc
      have sp := span_ok m k i 0 (sz i) (by omega) (by unfold spFit; omega)
      refine Safe.goto mixed 18 [⟨1100, [(2, .call [0] (I ((↑n : Int))) [(0, some (.box (dbox m k)))]), (3, .tt true)]⟩, ⟨1200, [(4, .call [0] (I ((↑(sz i) : Int))) [(0, some (.box (dbox m k)))]), (5, .call [0] (.tup [.ifc 170 (.agg [.ptr 0 0 0 0, I ((↑i : Int)), I 0, I ((↑(sz i) : Int))]), I 0]) [(0, some (.box (dbox m k)))])]⟩, ⟨1300, []⟩, ⟨1400, []⟩, ⟨1500, []⟩] [0, 3, 4] [0, 1403] (todo' := loopAt Try.f22 0) (sl := slotsOf 33 [(0, .ptr 0 0 0 0), (3, .sl 1403 0 1 (addN (spL sz i).length (1 : Nat)) none), (4, I ((↑i : Int) + (1 : Int)))]) (hp := [(0, .box (dbox m k)), (1403, .vec 43 1 (addN (spL sz i).length (1 : Nat)) (catR (spL sz i).length (rowN encSp (0 : Nat) (spL sz i)) (rowsOf [AV.ifc (170 : Nat) (AV.agg [AV.ptr (0 : Nat) (0 : Nat) (0 : Nat) (0 : Nat), AV.val (Value.int IntKind.i64 (↑i : Int)), AV.val (Value.int IntKind.i64 (0 : Int)), AV.val (Value.int IntKind.i64 (↑(sz i) : Int))])] (1 : Nat))))]) (ob := [CallOK Try.prog (59 : Nat) ([] ++ [AV.ptr (0 : Nat) (0 : Nat) (0 : Nat) (0 : Nat)] ++ []) [((0 : Nat), Ob.box (dbox m k))] (AV.val (Value.int IntKind.i64 (↑n : Int))) [((0 : Nat), some (Ob.box (dbox m k)))], decide ((↑i : Int) < (↑n : Int)) = true, CallOK Try.prog (61 : Nat) ([] ++ [AV.ptr (0 : Nat) (0 : Nat) (0 : Nat) (0 : Nat), AV.val (Value.int IntKind.i64 (↑i : Int))] ++ []) [((0 : Nat), Ob.box (dbox m k))] (AV.val (Value.int IntKind.i64 (↑(sz i) : Int))) [((0 : Nat), some (Ob.box (dbox m k)))], CallOK Try.prog (60 : Nat) ([] ++ [AV.ptr (0 : Nat) (0 : Nat) (0 : Nat) (0 : Nat), AV.val (Value.int IntKind.i64 (↑i : Int)), ofV (Value.int IntKind.i64 (0 : Int)), AV.val (Value.int IntKind.i64 (↑(sz i) : Int))] ++ []) [((0 : Nat), Ob.box (dbox m k))] (AV.tup [AV.ifc (170 : Nat) (AV.agg [AV.ptr (0 : Nat) (0 : Nat) (0 : Nat) (0 : Nat), AV.val (Value.int IntKind.i64 (↑i : Int)), AV.val (Value.int IntKind.i64 (0 : Int)), AV.val (Value.int IntKind.i64 (↑(sz i) : Int))]), AV.val (Value.int IntKind.i64 (0 : Int))]) [((0 : Nat), some (Ob.box (dbox m k)))], (0 : Nat) + (1 : Nat) ≤ (1 : Nat), (spL sz i).length = (spL sz i).length, (spL sz i).length + (1 : Nat) ≤ (1099511627776 : Nat), inK IntKind.i64 ((↑i : Int) + (1 : Int))]) rfl rfl (by kernel_rfl) ⟨cc, (decide_eq_true hlt2), sc, sp, (by omega), (by omega), (by omega), (by simp only [inK]; omega), trivial⟩ rfl ⟨rfl, trivial, rfl, closed_cat (fun _ => rfl) (closed_rows rfl), trivial⟩ ?_
      refine Safe.ren [(1403, 20)] rfl rfl rfl rfl ⟨rfl, trivial, rfl, closed_cat (fun _ => rfl) (closed_rows rfl), trivial⟩ ?_
      · skip
        have e2 : addN (spL sz i).length 1 = (spL sz (i + 1)).length := by rw [addN_eq, spL_len, spL_len]
        rw [e2]
        refine Safe.leH (ih (i + 1) (by omega) (by omega)) rfl (SlLe.refl _) ⟨ObLe.refl _, ?_, trivial⟩ rfl ⟨rfl, trivial, rfl, fun _ => rfl, trivial⟩
        rw [spL_succ]
        exact ob_ren_one (encSp 0) (spL sz i) ⟨(i : Int), 0, (sz i : Int)⟩ _ (by simp) (fun _ => rfl) rfl
    · have hn2 : ¬ ((i : Int) < (n : Int)) := by omega
      obtain rfl : i = n := by omega
      refine Safe.gotoE mixed 7 [⟨1100, [(2, .call [0] (I ((↑i : Int))) [(0, some (.box (dbox m k)))]), (3, .tt false)]⟩, ⟨1200, []⟩] [2] [0, 20] (sl := slotsOf 33 [(2, .sl 20 0 1 ((spL sz i).length) none)]) (hp := [(0, .box (dbox m k)), (20, .vec 43 1 ((spL sz i).length) (rowN encSp (0 : Nat) (spL sz i)))]) (ob := [CallOK Try.prog (59 : Nat) ([] ++ [AV.ptr (0 : Nat) (0 : Nat) (0 : Nat) (0 : Nat)] ++ []) [((0 : Nat), Ob.box (dbox m k))] (AV.val (Value.int IntKind.i64 (↑i : Int))) [((0 : Nat), some (Ob.box (dbox m k)))], decide ((↑i : Int) < (↑i : Int)) = false]) rfl rfl (by kernel_rfl) ⟨cc, (decide_eq_false hn2), trivial⟩ rfl ⟨rfl, trivial, rfl, fun _ => rfl, trivial⟩ fun td htd => ?_
      refine Safe.ren [(20, 10)] rfl rfl rfl rfl ⟨rfl, trivial, rfl, fun _ => rfl, trivial⟩ ?_
      refine Safe.endsT Try.func22 htd (r := .sl 10 0 1 ((spL sz i).length) none) (hp := [(0, .box (dbox m k)), (10, .vec 43 1 ((spL sz i).length) (rowN encSp (0 : Nat) (spL sz i)))]) (ob := []) rfl (by kernel_rfl) trivial ?_ ⟨ObLe.refl _, ?_, trivial⟩ ⟨rfl, trivial, rfl, fun _ => rfl, trivial⟩ rfl
      · rw [spL_len]; rfl
      · rw [spL_len]; exact ⟨rfl, rfl, rfl, fun _ _ => rfl⟩
  · intro H
    refine Safe.goto mixed 9 [⟨1100, []⟩, ⟨1200, []⟩, ⟨1300, []⟩] [0, 3, 4] [0] (todo' := loopAt Try.f22 0) (sl := slotsOf 33 [(0, .ptr 0 0 0 0), (3, .val (Value.slice none (0 : Nat) (0 : Nat))), (4, I 0)]) (hp := [(0, .box (dbox m k))]) (ob := []) rfl rfl (by kernel_rfl) trivial rfl ⟨rfl, trivial, trivial⟩ ?_
    · refine Safe.nil 3 20 43 1 (rowN encSp 0 []) rfl rfl ⟨rfl, trivial, trivial⟩ ?_ rfl
      exact Safe.leH (H 0 (Nat.zero_le _)) rfl (SlLe.refl _) ⟨ObLe.refl _, ⟨rfl, rfl, rfl, fun _ _ => rfl⟩, trivial⟩ rfl ⟨rfl, trivial, rfl, fun _ => rfl, trivial⟩
end Go.Proofs.Ytbgbjgedjmhcaaa
namespace Go.Proofs.Ytbgbjgedjmhcaaa
open Go.RowKit
open OldD (DA Dk Co Un Wr fp Gr Row Fresh hid hd hs gu nk good ldK ge vu Ar un stF chk3 chk4 rdV wrE wrK flK gu_set)
set_option linter.unusedVariables false
set_option linter.unnecessarySimpa false
set_option linter.unusedSimpArgs false
set_option maxRecDepth 10000
def ldA (k : Dk) (j : Nat) : List (List Int) → Dk
  | [] => k
  | X :: r => ldA (ldK k j X) (j + 1) r
/-- an array whose disks hold these words -/
def dkN (LL : List (List Int)) : Dk := ldA (nk (LL.map fun X => (X.length : Int))) 0 LL
theorem ldA_all : ∀ (r : List (List Int)) (k : Dk) (j : Nat), k.U.length = j + r.length → k.F = [] → (ldA k j r).U.length = k.U.length ∧ (ldA k j r).F = [] ∧ (ldA k j r).bad = k.bad ∧ (ldA k j r).fuse = k.fuse ∧ (ldA k j r).down = k.down ∧ (ldA k j r).wr = k.wr ∧
    ∀ d, gu (ldA k j r).U d = if j ≤ d ∧ d < j + r.length then ⟨r.getD (d - j) [], r.getD (d - j) [], (gu k.U d).mis⟩ else gu k.U d
  | [], k, j, _, hF => ⟨rfl, hF, rfl, rfl, rfl, rfl, fun d => by rw [if_neg (by simp)]; rfl⟩
  | X :: r, k, j, hl, hF => by
    have h1 : (ldK k j X).U.length = (j + 1) + r.length := by simp [ldK]; simp at hl; omega
    have h2 : (ldK k j X).F = [] := by simp [ldK, hF, stF]
    obtain ⟨a1, a2, a3, a4, a5, a6, a7⟩ := ldA_all r (ldK k j X) (j + 1) h1 h2
    refine ⟨a1.trans (by simp [ldK]), a2, a3, a4, a5, a6, fun d => ?_⟩
    have hg : gu (ldK k j X).U d = if d = j then { gu k.U j with now := X, dur := X } else gu k.U d := by
      show gu (k.U.set j _) d = _
      rw [gu_set]
      by_cases e : d = j
      · rw [if_pos ⟨e, by simp at hl; omega⟩, if_pos e]
      · rw [if_neg (fun c => e c.1), if_neg e]
    show gu (ldA (ldK k j X) (j + 1) r).U d = _
    rw [a7, hg]
    by_cases e : d = j
    · subst e
      rw [if_neg (by omega), if_pos rfl, if_pos (by simp)]
      simp
    · rw [if_neg e]
      by_cases c : j + 1 ≤ d ∧ d < j + 1 + r.length
      · rw [if_pos c, if_pos (by simp; omega)]
        rw [show d - j = (d - (j + 1)) + 1 by omega]
        simp
      · rw [if_neg c, if_neg (by simp; omega)]
theorem dkN_all (LL : List (List Int)) : (dkN LL).U.length = LL.length ∧ (dkN LL).F = [] ∧ (∀ x y, (dkN LL).bad x y = false) ∧ (dkN LL).fuse = 0 ∧ (dkN LL).down = false ∧ (dkN LL).wr = 0 ∧
    ∀ d, d < LL.length → gu (dkN LL).U d = ⟨LL.getD d [], LL.getD d [], false⟩ := by
  obtain ⟨a1, a2, a3, a4, a5, a6, a7⟩ := ldA_all LL (nk (LL.map fun X => (X.length : Int))) 0 (by simp [nk]) rfl
  refine ⟨a1.trans (by simp [nk]), a2, fun x y => by show (ldA _ 0 LL).bad x y = false; rw [a3]; rfl, a4, a5, a6, fun d hd => ?_⟩
  show gu (ldA _ 0 LL).U d = _
  rw [a7, if_pos ⟨by omega, by omega⟩]
  have : (gu (nk (LL.map fun X => (X.length : Int))).U d).mis = false := by
    simp [nk, gu, un, List.getElem?_eq_getElem hd]
  rw [this]
  rfl
def szL (LL : List (List Int)) (d : Nat) : Nat := (LL.getD d []).length
theorem dkN_gk (LL : List (List Int)) : Gk (dkN LL) LL.length (szL LL) 0 ∧ (∀ d t, d < LL.length → nw (dkN LL) d t = ge (LL.getD d []) t ∧ du (dkN LL) d t = ge (LL.getD d []) t) := by
  obtain ⟨a1, a2, a3, a4, a5, a6, a7⟩ := dkN_all LL
  have key : ∀ d t, d < LL.length → nw (dkN LL) d t = ge (LL.getD d []) t ∧ du (dkN LL) d t = ge (LL.getD d []) t := fun d t hd => by
    unfold nw du
    rw [a7 d hd]
    exact ⟨rfl, rfl⟩
  refine ⟨⟨a1, (fun d hd => by rw [a7 d hd]; exact ⟨rfl, rfl⟩), (fun d hd => by rw [a7 d hd]), a3, (by rw [a4]; omega), (fun w hw => by rw [a2] at hw; cases hw), (by rw [a2]; simp), (by rw [a6]; omega), fun d t hd ht => ?_⟩, key⟩
  rw [a2, (key d t hd).1, (key d t hd).2]; rfl
end Go.Proofs.Ytbgbjgedjmhcaaa
namespace Go.Proofs.Ytbgbjgedjmhcaaa
open Go.RowKit
open OldD (DA Dk Co Un Wr fp Gr Row Fresh hid hd hs gu nk good ldK ge vu Ar un stF chk3 chk4 rdV wrE wrK flK gu_set)
set_option linter.unusedVariables false
set_option linter.unnecessarySimpa false
set_option linter.unusedSimpArgs false
set_option maxRecDepth 10000
theorem newc1 (x : Int) (hx : 1 ≤ x ∧ x ≤ 65536) : CallOK Try.prog 57 [.sl 1 0 1 1 none] [(1, .ro 1 1 (rowsOf [I x] 1))] (.tup [.ptr 10 0 0 0, I 0]) [(10, some (.box (dbox 0 (nk [x]))))] := by
  refine (new_c [x] (by simp) (fun i hi => by
    have : i = 0 := by simp at hi; omega
    rcases this with rfl
    · exact hx)).sim fun id => ?_
  simp only [find]
  split
  · exact ⟨⟨rfl, rfl, fun q hq => match q, hq with | 0, _ => rfl⟩, ⟨rfl, rfl, fun q hq => match q, hq with | 0, _ => rfl⟩⟩
  · exact OSim.refl _
set_option maxHeartbeats 2000000 in
theorem loadedN1 (X : List Int) (hx : 1 ≤ X.length ∧ X.length ≤ 1000) :
    CallOK Try.prog 21 [.sl 1 0 1 1 none] [(1, .ro 1 1 (rowsOf [.sl 2 0 1 X.length none] 1)), (2, .vec 22 1 X.length (rowG encU X))] (.ptr 10 0 0 0) [(10, some (.box (dbox 0 (dkN [X]))))] := by
  refine CallOK.intro Try.call21 Try.func21 rfl rfl ⟨rfl, fun q => closed_rows rfl q, rfl, fun _ => rfl, trivial⟩ ?_
  obtain ⟨k0, hk0⟩ : ∃ k, k = nk [(X.length : Int)] := ⟨_, rfl⟩
  obtain ⟨k1, hk1⟩ : ∃ k, k = ldK k0 0 X := ⟨_, rfl⟩
  have l0 := load_c k0 0 X (by simp [hk0, nk, ldK]) (by simp [hk0, nk, gu, un, ldK]) hx.1 (by simp [hk0, nk, ldK, stF])
  rw [← hk1] at l0
  have nc := newc1 (X.length : Int) (by omega)
  rw [← hk0] at nc
  have e : dkN [X] = k1 := by rw [hk1, hk0]; rfl
  rw [e]
  clear e hk1 hk0
  refine Safe.gotoE mixed 58 [⟨1100, []⟩, ⟨1200, []⟩, ⟨1300, []⟩, ⟨1400, []⟩, ⟨1500, []⟩, ⟨1600, []⟩, ⟨1700, []⟩, ⟨1800, [(1, .call [1507] (.tup [.ptr 1855 0 0 0, I 0]) [(1855, some (.box (dbox (0 : Nat) k0)))])]⟩, ⟨1900, []⟩, ⟨2000, []⟩, ⟨2100, []⟩, ⟨2200, [(6, .call [1855, 2] (I 0) [(1855, some (.box (dbox (0 : Nat) k1)))])]⟩, ⟨2300, []⟩, ⟨2400, []⟩, ⟨2500, []⟩] [2] [1, 2, 1855] (sl := slotsOf 48 [(2, .ptr 1855 0 0 0)]) (hp := [(1, .ro 1 1 (rowsOf [AV.sl (2 : Nat) (0 : Nat) (1 : Nat) X.length none] (1 : Nat))), (2, .vec 22 1 X.length (rowG encU X)), (1855, .box (dbox (0 : Nat) k1))]) (ob := [(0 : Int) ≤ (0 : Int) ∧ (0 : Int) < (↑(1 : Nat) : Int), (0 : Nat) < (1 : Nat), (0 : Nat) + (1 : Nat) ≤ (1 : Nat), (1 : Nat) ≤ (1099511627776 : Nat), inK IntKind.i64 ((0 : Int) + (1 : Int)), CallOK Try.prog (57 : Nat) ([] ++ [AV.sl (1507 : Nat) (0 : Nat) (1 : Nat) (1 : Nat) none] ++ []) [((1507 : Nat), Ob.vec (3 : Nat) (1 : Nat) (1 : Nat) (rowsOf [AV.val (Value.int IntKind.i64 (↑X.length : Int))] (1 : Nat)))] (AV.tup [AV.ptr (1855 : Nat) (0 : Nat) (0 : Nat) (0 : Nat), AV.val (Value.int IntKind.i64 (0 : Int))]) [((1855 : Nat), some (Ob.box (dbox (0 : Nat) k0)))], (0 : Int) ≤ (0 : Int) ∧ (0 : Int) < (↑(1 : Nat) : Int), (0 : Nat) < (1 : Nat), CallOK Try.prog (58 : Nat) ([] ++ [AV.ptr (1855 : Nat) (0 : Nat) (0 : Nat) (0 : Nat), AV.val (Value.int IntKind.i64 (0 : Int)), AV.sl (2 : Nat) (0 : Nat) (1 : Nat) X.length none] ++ []) [((1855 : Nat), Ob.box (dbox (0 : Nat) k0)), ((2 : Nat), Ob.vec (22 : Nat) (1 : Nat) X.length (rowG encU X))] (AV.val (Value.int IntKind.i64 (0 : Int))) [((1855 : Nat), some (Ob.box (dbox (0 : Nat) k1)))], inK IntKind.i64 ((0 : Int) + (1 : Int))]) rfl rfl (by kernel_rfl) ⟨(by first | omega | assumption), (by first | omega | assumption), (by first | omega | assumption), (by first | omega | assumption), (by simp only [inK]; first | omega | assumption), (CallOK.simR (CallOK.ren (CallOK.own 3 1 (es := (1 : Nat)) (n := (1 : Nat)) (row := rowsOf [I (↑X.length : Int)] (1 : Nat)) rfl rfl rfl nc) [(1, 1507), (10, 1855)] [1, 10] rfl rfl rfl rfl ⟨rfl, closed_rows rfl, trivial⟩ rfl ⟨rfl, closed_rows rfl, rfl, trivial, trivial⟩) (HpSim.cons rfl (OSim.rowsV rfl) HpSim.nil)), (by first | omega | assumption), (by first | omega | assumption), (CallOK.ren l0 [(0, 1855), (1, 2)] [0, 1] rfl rfl rfl rfl ⟨rfl, trivial, rfl, fun _ => rfl, trivial⟩ rfl ⟨rfl, trivial, rfl, fun _ => rfl, trivial⟩), (by simp only [inK]; first | omega | assumption), trivial⟩ rfl ⟨rfl, closed_rows rfl, rfl, fun _ => rfl, rfl, trivial, trivial⟩ fun td htd => ?_
  refine Safe.ren [(1855, 10)] rfl rfl rfl rfl ⟨rfl, closed_rows rfl, rfl, fun _ => rfl, rfl, trivial, trivial⟩ ?_
  refine Safe.endsT Try.func21 htd (r := .ptr 10 0 0 0) (hp := [(1, .ro 1 1 (fun q => renL [((1855 : Nat), (10 : Nat))] (rowsOf [AV.sl (2 : Nat) (0 : Nat) (1 : Nat) X.length none] (1 : Nat) q))), (2, .vec 22 1 X.length (fun q => renL [((1855 : Nat), (10 : Nat))] (rowG encU X q))), (10, .box (dbox (0 : Nat) k1))]) (ob := []) rfl (by kernel_rfl) trivial rfl ⟨⟨rfl, rfl, fun _ _ => by first | rfl | exact renL_rowsOf _ _ _ _⟩, ⟨rfl, rfl, rfl, fun _ _ => rfl⟩, ObLe.refl _, trivial⟩ ⟨rfl, closed_rows rfl, rfl, fun _ => rfl, rfl, trivial, trivial⟩ rfl
  all_goals exact ObLe.refl _
end Go.Proofs.Ytbgbjgedjmhcaaa
namespace Go.Proofs.Ytbgbjgedjmhcaaa
open Go.RowKit
open OldD (Dk chk3 chk4 rdV wrE wrK flK reK)
set_option linter.unusedVariables false
set_option linter.unnecessarySimpa false
set_option linter.unusedSimpArgs false
set_option maxRecDepth 10000
theorem Gk.szc {k : Dk} {n c : Nat} {sz sz' : Nat → Nat} (h : Gk k n sz c) (e : ∀ d, d < n → sz d = sz' d) : Gk k n sz' c :=
  ⟨h.ul, fun d hd => by rw [← e d hd]; exact h.ln d hd, h.ms, h.bd, h.fz, fun w hw => by have := h.FI w hw; exact ⟨this.1, by rw [← e _ this.1]; exact this.2⟩, h.fl, h.wr, fun d t hd ht => h.ap d t hd (by rw [e d hd]; exact ht)⟩
theorem dk1_q (X : List Int) : Q1 (dkN [X]) X.length 0 (fun t => X.getD t default) (fun t => X.getD t default) 0 (fun _ => False) := by
  obtain ⟨g, key⟩ := dkN_gk [X]
  obtain ⟨a1, a2, a3, a4, a5, a6, a7⟩ := dkN_all [X]
  have g1 : Gk (dkN [X]) 1 (fun _ => X.length) 0 := g.szc (fun d hd => by
    have : d = 0 := by simp at hd; omega
    subst this; rfl)
  exact ⟨g1, a5, a4, fun t ht => (key 0 t (by simp)).1, fun t ht => (key 0 t (by simp)).2, fun x hx => by rw [a2] at hx; cases hx⟩
/-- an array with one disk of zeros, as a fresh slice of words is told -/
theorem ldz (n : Nat) (hn : 1 ≤ n ∧ n ≤ 1000) : CallOK Try.prog 21 [.sl 1 0 1 1 none] [(1, .ro 1 1 (rowsOf [.sl 2 0 1 n none] 1)), (2, .vec 22 1 n (fun _ => List.map AV.val (Value.cells (.int .u64 0)).toList))] (.ptr 10 0 0 0) [(10, some (.box (dbox 0 (dkN [List.replicate n 0]))))] := by
  have ld := loadedN1 (List.replicate n 0) (by rw [List.length_replicate]; exact hn)
  rw [List.length_replicate] at ld
  have hr : ∀ q, q < n → rowG encU (List.replicate n 0) q = List.map AV.val (Value.cells (.int .u64 0)).toList := fun q hq => by
    show [U ((List.replicate n 0).getD q default)] = [U 0]
    rw [List.getD_eq_getElem?_getD, List.getElem?_replicate, if_pos hq]; rfl
  refine ld.sim fun id => ?_
  simp only [find]
  split
  · exact OSim.refl _
  · split
    · exact ⟨⟨rfl, rfl, rfl, fun q hq => hr q hq⟩, ⟨rfl, rfl, rfl, fun q hq => (hr q hq).symm⟩⟩
    · exact OSim.refl _
theorem spans1 (m : Nat) (k : Dk) (N : Nat) {c : Nat} (g : Gk k 1 (fun _ => N) c) (hN : 1 ≤ N ∧ N ≤ 1000) : CallOK Try.prog 22 [.ptr 0 0 0 0] [(0, .box (dbox m k))] (.sl 10 0 1 1 none) [(0, some (.box (dbox m k))), (10, some (.vec 43 1 1 (rowsOf [.ifc 170 (.agg [.ptr 0 0 0 0, I 0, I 0, I N])] 1)))] := by
  have sp := spansG m 1 (fun _ => N) k (by omega) g.ul (fun i hi => ⟨g.sz hi, hN⟩)
  refine sp.simO (OutSim.cons (OSim.refl _) (OutSim.cons ⟨⟨rfl, rfl, rfl, fun q hq => match q, hq with | 0, _ => rfl⟩, ⟨rfl, rfl, rfl, fun q hq => match q, hq with | 0, _ => rfl⟩⟩ OutSim.nil))
end Go.Proofs.Ytbgbjgedjmhcaaa
namespace Go.Proofs.Ytbgbjgedjmhcaaa
open Go.RowKit
open OldD (Dk chk3 chk4 rdV wrE wrK flK reK)
set_option linter.unusedVariables false
set_option linter.unusedSimpArgs false
/-- the text that the descriptor at p names -/
def At (v : Nat → Int) (R p : Nat) : Option (Int × ByteArray) → Prop
  | none => v p = 0
  | some x => ¬ v p = 0 ∧ f0 (v p) = x.1 ∧ Wh v R (v p) x.2
def rdR : Option (Int × ByteArray) → AV
  | none => .tup [cpy false 0 S0, I 12]
  | some x => .tup [cpy true x.1 (S x.2), I 0]
def seqR : Option (Int × ByteArray) → Int
  | none => 0
  | some x => x.1
def lnR : Option (Int × ByteArray) → Nat
  | none => 0
  | some x => ln x.2.size
theorem At.seq {v : Nat → Int} {R p : Nat} {o : Option (Int × ByteArray)} (h : At v R p o) : f0 (v p) = seqR o := by
  cases o with
  | none => have h : v p = 0 := h; rw [h]; rfl
  | some x => exact h.2.1
/-- Read, where the words that count are as they were -/
theorem read_at (m : Nat) (k : Dk) (N R : Nat) {cc : Nat} (g : Gk k 1 (fun _ => N) cc) (hdn : k.down = false) (hN : 4 ≤ N ∧ N ≤ 1000) (hR : R + 2 = N) {v : Nat → Int} (e0 : nw k 0 0 = v 0) (es : ∀ i, i < n2 (v 0) → v (plc R (n1 (v 0)) i) = nw k 0 (plc R (n1 (v 0)) i)) (vr : Vr v R (v 0)) (o : Option (Int × ByteArray)) (h : At v R 0 o) :
    CallOK Try.prog 50 [spn N] [(0, .box (dbox m k))] (rdR o) [(0, some (.box (dbox m k)))] := by
  cases o with
  | none => exact read_none m k N g hdn hN (e0.trans h)
  | some x =>
    obtain ⟨h1, h2, h3⟩ := h
    have hv : Vr (nw k 0) R (nw k 0 0) := by
      rw [e0]
      refine ⟨vr.1, ?_⟩
      rw [← wsP_ext _ es]
      exact vr.2
    have hw : Wh (nw k 0) R (nw k 0 0) x.2 := by
      rw [e0]
      exact h3.ext es
    have := read_ok m k N R g hdn hN hR hv (by rw [e0]; exact h1) x.2 hw
    rw [e0, h2] at this
    exact this
theorem Q1.vw {k : Dk} {N c : Nat} {v w : Nat → Int} {f : Int} {T : Nat → Prop} (q : Q1 k N c v w f T) (h : Vw v N) : Vw (nw k 0) N := fun t ht => by rw [q.nv t ht]; exact h t ht
theorem Q1.at {k : Dk} {N c R p : Nat} {v w : Nat → Int} {f : Int} {T : Nat → Prop} (q : Q1 k N c v w f T) (hR : R + 2 = N) (h1 : 1 ≤ R) (hp : p < N) {o : Option (Int × ByteArray)} (h : At v R p o) : At (nw k 0) R p o := by
  cases o with
  | none => exact (q.nv p hp).trans h
  | some x =>
    obtain ⟨h1', h2, h3⟩ := h
    show ¬ nw k 0 p = 0 ∧ f0 (nw k 0 p) = x.1 ∧ Wh (nw k 0) R (nw k 0 p) x.2
    rw [q.nv p hp]
    refine ⟨h1', h2, h3.ext fun i hi => (q.nv _ ?_).symm⟩
    have := plc_bd R (n1 (v p)) i h1
    omega
theorem read_q (m : Nat) {k : Dk} {N R c : Nat} {v w : Nat → Int} {f : Int} {T : Nat → Prop} (q : Q1 k N c v w f T) (hN : 4 ≤ N ∧ N ≤ 1000) (hR : R + 2 = N) (vw : Vw v N) {o : Option (Int × ByteArray)} (h : At v R 0 o) :
    CallOK Try.prog 50 [spn N] [(0, .box (dbox m k))] (rdR o) [(0, some (.box (dbox m k)))] :=
  read_at m k N R q.g q.dn hN hR (q.nv 0 (by omega)) (fun i hi => by
    have := plc_bd R (n1 (v 0)) i (by omega)
    exact (q.nv _ (by omega)).symm) (vw.vr hR (by omega) (by omega)) o h
theorem seqs_q (m : Nat) {k : Dk} {N R c : Nat} {v w : Nat → Int} {f : Int} {T : Nat → Prop} (q : Q1 k N c v w f T) (hN : 4 ≤ N ∧ N ≤ 1000) (vw : Vw v N) {o p : Option (Int × ByteArray)} (h : At v R 0 o) (hp : At v R 1 p) :
    CallOK Try.prog 52 [spn N] [(0, .box (dbox m k))] (.tup [I (seqR o), I (seqR p), I 0]) [(0, some (.box (dbox m k)))] := by
  have := seqs_ok m k N q.g q.dn hN (q.vw vw)
  rw [q.nv 0 (by omega), q.nv 1 (by omega), h.seq, hp.seq] at this
  exact this
/-- an area that the power has left: whatever is kept, this is read -/
def Dn (k : Dk) (N : Nat) (c : Nat) (os : List (Option (Int × ByteArray))) : Prop :=
  k.F.length ≤ 2 ^ 32 ∧ ∀ kp : Nat → Bool, Gk (reK k kp) 1 (fun _ => N) c ∧ (reK k kp).down = false ∧ ∃ o, o ∈ os ∧ ∀ m, CallOK Try.prog 50 [spn N] [(0, .box (dbox m (reK k kp)))] (rdR o) [(0, some (.box (dbox m (reK k kp))))]
theorem wfT (t : ByteArray) (ht : t.size ≤ 8192) : Wf (textW t) := textP_wf t (by omega) _
/-- Prepare of an area -/
def PrG (m : Nat) (k : Dk) (N R c : Nat) (f : Int) (o : Option (Int × ByteArray)) (sq : Int) (t : ByteArray) : Prop :=
  ∃ (k' : Dk) (e : Int), CallOK Try.prog 53 [spn N, I sq, S t] [(0, .box (dbox m k))] (I e) [(0, some (.box (dbox m k')))] ∧
      ((e = 0 ∧ ∃ v' f', Q1 k' N (c + 1001) v' v' f' (fun _ => False) ∧ Vw v' N ∧ At v' R 0 o ∧ At v' R 1 (some (sq, t)) ∧ (f = 0 → f' = 0)) ∨
       (f ≠ 0 ∧ e = 5 ∧ Dn k' N (c + 1001) [o]))
theorem prep_q (m : Nat) {k : Dk} {N R c : Nat} {v : Nat → Int} {f : Int} (q : Q1 k N c v v f (fun _ => False)) (hc : c ≤ 60000) (hN : 4 ≤ N ∧ N ≤ 1000) (hR : R + 2 = N) (vw : Vw v N) {o : Option (Int × ByteArray)} (h : At v R 0 o) (sq : Int) (hq : 1 ≤ sq ∧ sq ≤ 1048575) (t : ByteArray) (ht : t.size ≤ 8192) (hs : lnR o + ln t.size ≤ R) :
    PrG m k N R c f o sq t := by
  have hl := textW_len t
  have hb := ln_bd t.size
  have hw := wfT t ht
  have key : ∀ (st : Nat) (u : Int), st < R → 0 ≤ u → u + (textW t).length ≤ R → CallOK Try.prog 91 [ara N R] [(0, .box (dbox m k))] (.tup [I st, I u, I 0]) [(0, some (.box (dbox m k)))] → (∀ v' : Nat → Int, v' 0 = v 0 → (∀ p, 2 ≤ p → p < N → ¬ Pl R st (textW t).length p → v' p = v p) → At v' R 0 o ∧ ∀ i, i < n2 (v 0) → v (plc R (n1 (v 0)) i) = v' (plc R (n1 (v 0)) i)) → PrG m k N R c f o sq t := fun st u hst hu hsp bh hold => by
    have pg := prep_gen m k N R st sq u t (textW t) (text_ok t ht) q.bc hc hN hR hq hw hst hu hsp bh
    have at2 := (wsQ_at v (textW t) R st hst (by omega)).2
    have ov2 : ∀ p, ¬ Pl R st (textW t).length p → ovA v (wsQ (textW t) R st) p = v p := at2
    have ov0 : ovA v (wsQ (textW t) R st) 0 = v 0 := ov2 0 fun h => by have := h.two; omega
    have vr := vw.vr hR (by omega) (show 0 < N by omega)
    rcases prep_run q (textW t) R st sq hR (by omega) with ⟨e, f', r, hf⟩ | ⟨hf, e, w, T, r, hw2⟩
    · rw [e] at pg
      refine ⟨_, _, pg, .inl ⟨rfl, _, f', ⟨r.g.mono (by omega), r.dn, r.fu, r.nv, r.dv, r.ft⟩, vw.prV hw (by omega) (by omega) hq, ?_, ?_, hf⟩⟩
      · obtain ⟨p1, p2, p3, p4, p5⟩ := prV_new v t ht R st sq hst (by omega) (by omega) hq
        refine (hold _ p2 fun p hp hpN hpl => ?_).1
        show updV _ 1 _ p = v p
        rw [updV, if_neg (by omega)]
        exact ov2 p hpl
      · obtain ⟨p1, p2, p3, p4, p5⟩ := prV_new v t ht R st sq hst (by omega) (by omega) hq
        exact ⟨p3, p4, p5⟩
    · rw [e] at pg
      refine ⟨_, _, pg, .inr ⟨hf, rfl, ?_, fun kp => ?_⟩⟩
      · have := r.g.fl
        omega
      · obtain ⟨g, dn, hb⟩ := r.back kp
        refine ⟨g.mono (by omega), dn, o, List.mem_singleton.2 rfl, fun m => ?_⟩
        have hh : nw (reK (seqK k (prA (textW t) R st sq)) kp) 0 0 = v 0 ∧ ∀ p, 2 ≤ p → p < N → ¬ Pl R st (textW t).length p → nw (reK (seqK k (prA (textW t) R st sq)) kp) 0 p = v p := by
          rcases hw2 with ⟨rfl, rfl⟩ | ⟨rfl, rfl⟩
          · exact ⟨hb 0 (by omega) fun h => by have := h.two; omega, fun p _ hp hpl => hb p hp hpl⟩
          · exact ⟨(hb 0 (by omega) fun x => x).trans ov0, fun p _ hp hpl => (hb p hp fun x => x).trans (ov2 p hpl)⟩
        obtain ⟨h1, h2⟩ := hold _ hh.1 hh.2
        exact read_at m _ N R g dn hN hR hh.1 h2 vr o h
  cases o with
  | none =>
    have h : v 0 = 0 := h
    have hs : 0 + ln t.size ≤ R := hs
    refine key 0 0 (by omega) (by omega) (by omega) (behind_none m k N R q.g q.dn hN ((q.nv 0 (by omega)).trans h)) fun v' e _ => ⟨e.trans h, fun i hi => ?_⟩
    rw [h] at hi
    exact absurd hi (by unfold n2 f2; simp)
  | some x =>
    have h' := h
    obtain ⟨h1, h2, h3⟩ := h
    have hs : ln x.2.size + ln t.size ≤ R := hs
    have hn2 := h3.len
    have hk := q.at hR (by omega) (show 0 < N by omega) h'
    obtain ⟨k1, k2, k3⟩ := hk
    have bh := behind_ok m k N R q.g q.dn hN hR ((q.vw vw).vr hR (by omega) (by omega)) k1 x.2 k3
    rw [q.nv 0 (by omega)] at bh
    obtain ⟨_, ⟨e1, _⟩, ⟨e2, b2⟩, _⟩ := n_eq (v 0)
    rw [e1, e2, show ((n1 (v 0) : Int) + (n2 (v 0) : Int)) % (R : Int) = (((n1 (v 0) + n2 (v 0)) % R : Nat) : Int) by push_cast; rfl] at bh
    obtain ⟨o1, o2, o3⟩ := prV_old v (textW t) R sq x.2 (by omega) h3
    have hf := h3.1
    have hRp : 0 < R := by have := hf.2.2.1; omega
    have hno : ∀ i, i < n2 (v 0) → ¬ Pl R ((n1 (v 0) + n2 (v 0)) % R) (textW t).length (plc R (n1 (v 0)) i) := fun i hi ⟨j, hj, e⟩ => by
      rw [plc_add] at e
      have := plc_inj hf.2.2.1 (by omega) (by omega) e
      omega
    refine key _ (n2 (v 0)) (Nat.mod_lt _ hRp) (by omega) (by omega) bh fun v' e hv' => ?_
    have es : ∀ i, i < n2 (v 0) → v (plc R (n1 (v 0)) i) = v' (plc R (n1 (v 0)) i) := fun i hi => by
      have := plc_bd R (n1 (v 0)) i hRp
      exact (hv' _ (plc_two _ _ _) (by omega) (hno i hi)).symm
    refine ⟨?_, es⟩
    show ¬ v' 0 = 0 ∧ f0 (v' 0) = x.1 ∧ Wh v' R (v' 0) x.2
    rw [e]
    exact ⟨h1, h2, h3.ext es⟩
/-- Switch of an area -/
theorem switch_q (m : Nat) {k : Dk} {N R c : Nat} {v : Nat → Int} {f : Int} (q : Q1 k N c v v f (fun _ => False)) (hc : c ≤ 70000) (hN : 4 ≤ N ∧ N ≤ 1000) (hR : R + 2 = N) (vw : Vw v N) {o : Option (Int × ByteArray)} (h : At v R 0 o) (x : Int × ByteArray) (hx : At v R 1 (some x)) :
    ∃ (k' : Dk) (e : Int), CallOK Try.prog 54 [spn N] [(0, .box (dbox m k))] (I e) [(0, some (.box (dbox m k')))] ∧
      ((e = 0 ∧ ∃ v' f', Q1 k' N (c + 1) v' v' f' (fun _ => False) ∧ Vw v' N ∧ At v' R 0 (some x) ∧ At v' R 1 (some x) ∧ (f = 0 → f' = 0)) ∨
       (f ≠ 0 ∧ e = 5 ∧ Dn k' N (c + 1) [o, some x])) := by
  obtain ⟨k1, k2, k3⟩ := q.at hR (by omega) (show 1 < N by omega) hx
  have sw := switch_ok m k N R q.g (by omega) q.dn hN hR ((q.vw vw).vr hR (by omega) (by omega)) k1 x.2 k3
  obtain ⟨h1, h2, h3⟩ := hx
  rw [q.nv 1 (by omega)] at sw
  rcases put_run q (by omega) 0 (by omega) (v 1) with ⟨e, f', r, hf⟩ | ⟨hf, e, r⟩
  · have e' : seqE k [some (0, v 1), none] = 0 := e
    rw [e'] at sw
    refine ⟨_, _, sw, .inl ⟨rfl, _, f', r, vw.upd (vw 1 (by omega)), ?_, ?_, hf⟩⟩
    · show ¬ v 1 = 0 ∧ f0 (v 1) = x.1 ∧ Wh (updV v 0 (v 1)) R (v 1) x.2
      exact ⟨h1, h2, upd0_wh _ h3⟩
    · show ¬ v 1 = 0 ∧ f0 (v 1) = x.1 ∧ Wh (updV v 0 (v 1)) R (v 1) x.2
      exact ⟨h1, h2, upd0_wh _ h3⟩
  · have e' : seqE k [some (0, v 1), none] = 5 := e
    rw [e'] at sw
    refine ⟨_, _, sw, .inr ⟨hf, rfl, ?_, fun kp => ?_⟩⟩
    · have := r.g.fl
      have e2 : (seqK k [some (0, v 1), none]).F.length ≤ c + 1 := this
      omega
    · obtain ⟨g, dn, hb⟩ := r.back kp
      have vr := vw.vr hR (by omega) (show 0 < N by omega)
      exact ⟨g, dn, o, by simp, fun m => read_at m _ N R g dn hN hR (hb 0 (by omega) fun x => x) (fun i hi => by
        have := plc_bd R (n1 (v 0)) i (by omega)
        exact (hb _ (by omega) fun x => x).symm) vr o h⟩
end Go.Proofs.Ytbgbjgedjmhcaaa
namespace Go.Proofs.Ytbgbjgedjmhcaaa
open Go.RowKit
open OldD (Dk chk3 chk4 rdV wrE wrK flK reK)
set_option linter.unusedVariables false
set_option linter.unnecessarySimpa false
set_option linter.unusedSimpArgs false
set_option maxRecDepth 10000
abbrev spn10 (N : Nat) : AV := .ifc 170 (.agg [.ptr 10 0 0 0, I 0, I 0, I N])
abbrev spn20 (N : Nat) : AV := .ifc 170 (.agg [.ptr 20 0 0 0, I 0, I 0, I N])
/-- an array with one disk of zeros, and the device over it -/
theorem areaz (n : Nat) (hn : 1 ≤ n ∧ n ≤ 1000) : CallOK Try.prog 48 [.sl 1 0 1 n none] [(1, .vec 22 1 n (fun _ => List.map AV.val (Value.cells (.int .u64 0)).toList))] (.tup [.ptr 10 0 0 0, spn10 n]) [(10, some (.box (dbox 0 (dkN [List.replicate n 0]))))] := by
  have ld := ldz n hn
  have q0 := dk1_q (List.replicate n 0)
  rw [List.length_replicate] at q0
  generalize dkN [List.replicate n 0] = k0 at ld q0 ⊢
  have sp := spans1 0 k0 n q0.g hn
  clear q0
  refine CallOK.intro Try.call48 Try.func48 rfl rfl ⟨rfl, fun _ => rfl, trivial⟩ ?_
  refine Safe.gotoE mixed 18 [⟨1100, []⟩, ⟨1200, [(2, .call [1201, 1] (.ptr 1260 0 0 0) [(1260, some (.box (dbox (0 : Nat) k0)))])]⟩, ⟨1300, []⟩, ⟨1400, [(1, .call [1260] (.sl 1455 0 1 1 none) [(1260, some (.box (dbox (0 : Nat) k0))), (1455, some (.vec 43 1 1 (rowsOf [AV.ifc (170 : Nat) (AV.agg [AV.ptr (1260 : Nat) (0 : Nat) (0 : Nat) (0 : Nat), AV.val (Value.int IntKind.i64 (0 : Int)), AV.val (Value.int IntKind.i64 (0 : Int)), AV.val (Value.int IntKind.i64 (↑n : Int))])] (1 : Nat))))])]⟩, ⟨1500, []⟩, ⟨1600, []⟩] [2, 3] [1, 1260] (sl := slotsOf 20 [(2, .ptr 1260 0 0 0), (3, .ifc 170 (.agg [.ptr 1260 0 0 0, I 0, I 0, I ((↑n : Int))]))]) (hp := [(1, .vec 22 1 n (fun x => List.map AV.val (Value.int IntKind.u64 (0 : Int)).cells.toList)), (1260, .box (dbox (0 : Nat) k0))]) (ob := [CallOK Try.prog (21 : Nat) ([] ++ [AV.sl (1201 : Nat) (0 : Nat) (1 : Nat) (1 : Nat) none] ++ []) [((1201 : Nat), Ob.vec (25 : Nat) (1 : Nat) (1 : Nat) (rowsOf [AV.sl (1 : Nat) (0 : Nat) (1 : Nat) n none] (1 : Nat))), ((1 : Nat), Ob.vec (22 : Nat) (1 : Nat) n fun x => List.map AV.val (Value.int IntKind.u64 (0 : Int)).cells.toList)] (AV.ptr (1260 : Nat) (0 : Nat) (0 : Nat) (0 : Nat)) [((1260 : Nat), some (Ob.box (dbox (0 : Nat) k0)))], CallOK Try.prog (22 : Nat) ([] ++ [AV.ptr (1260 : Nat) (0 : Nat) (0 : Nat) (0 : Nat)] ++ []) [((1260 : Nat), Ob.box (dbox (0 : Nat) k0))] (AV.sl (1455 : Nat) (0 : Nat) (1 : Nat) (1 : Nat) none) [((1260 : Nat), some (Ob.box (dbox (0 : Nat) k0))), ((1455 : Nat), some (Ob.vec (43 : Nat) (1 : Nat) (1 : Nat) (rowsOf [AV.ifc (170 : Nat) (AV.agg [AV.ptr (1260 : Nat) (0 : Nat) (0 : Nat) (0 : Nat), AV.val (Value.int IntKind.i64 (0 : Int)), AV.val (Value.int IntKind.i64 (0 : Int)), AV.val (Value.int IntKind.i64 (↑n : Int))])] (1 : Nat))))], (0 : Int) ≤ (0 : Int) ∧ (0 : Int) < (↑(1 : Nat) : Int), (0 : Nat) < (1 : Nat)]) rfl rfl (by kernel_rfl) ⟨(CallOK.simR (CallOK.ren (CallOK.own 25 1 (es := (1 : Nat)) (n := (1 : Nat)) (row := rowsOf [AV.sl (2 : Nat) (0 : Nat) (1 : Nat) n none] (1 : Nat)) rfl rfl rfl ld) [(1, 1201), (2, 1), (10, 1260)] [1, 2, 10] rfl rfl rfl rfl ⟨rfl, closed_rows rfl, rfl, fun _ => rfl, trivial⟩ rfl ⟨rfl, closed_rows rfl, rfl, fun _ => rfl, rfl, trivial, trivial⟩) (HpSim.cons rfl (OSim.rowsV rfl) (HpSim.cons rfl (OSim.refl _) HpSim.nil))), (CallOK.simO (CallOK.ren sp [(0, 1260), (10, 1455)] [0, 10] rfl rfl rfl rfl ⟨rfl, trivial, trivial⟩ rfl ⟨rfl, trivial, rfl, closed_rows rfl, trivial⟩) (OutSim.cons (OSim.refl _) (OutSim.cons (OSim.rowsV rfl) OutSim.nil))), (by omega), (by omega), trivial⟩ rfl ⟨rfl, fun _ => rfl, rfl, trivial, trivial⟩ fun td htd => ?_
  refine Safe.ren [(1260, 10)] rfl rfl rfl rfl ⟨rfl, fun _ => rfl, rfl, trivial, trivial⟩ ?_
  refine Safe.endsT Try.func48 htd (r := .tup [.ptr 10 0 0 0, .ifc 170 (.agg [.ptr 10 0 0 0, I 0, I 0, I ((↑n : Int))])]) (hp := [(1, .vec 22 1 n (fun q => renL [((1260 : Nat), (10 : Nat))] (List.map AV.val (Value.int IntKind.u64 (0 : Int)).cells.toList))), (10, .box (dbox (0 : Nat) k0))]) (ob := []) rfl (by kernel_rfl) trivial rfl ⟨⟨rfl, rfl, rfl, fun _ _ => rfl⟩, ObLe.refl _, trivial⟩ ⟨rfl, fun _ => rfl, rfl, trivial, trivial⟩ rfl
theorem q_zero (n : Nat) : Q1 (dkN [List.replicate n 0]) n 0 (fun _ => 0) (fun _ => 0) 0 (fun _ => False) := by
  have q0 := dk1_q (List.replicate n 0)
  rw [List.length_replicate] at q0
  have e : ∀ t, (List.replicate n (0 : Int)).getD t default = 0 := fun t => by
    rw [List.getD_eq_getElem?_getD, List.getElem?_replicate]
    split <;> rfl
  exact ⟨q0.g, q0.dn, q0.fu, fun t ht => (q0.nv t ht).trans (e t), fun t ht => (q0.dv t ht).trans (e t), q0.ft⟩
theorem vw_zero (N : Nat) : Vw (fun _ => 0) N := fun t _ => ⟨by show (0 : Int) ≤ 0; decide, by show (0 : Int) ≤ 18446744073709551615; decide⟩
/-- as the sanity check uses it -/
theorem prep_q0 (m : Nat) {k : Dk} {N R c : Nat} {v : Nat → Int} (q : Q1 k N c v v 0 (fun _ => False)) (hc : c ≤ 60000) (hN : 4 ≤ N ∧ N ≤ 1000) (hR : R + 2 = N) (vw : Vw v N) {o : Option (Int × ByteArray)} (h : At v R 0 o) (sq : Int) (hq : 1 ≤ sq ∧ sq ≤ 1048575) (t : ByteArray) (ht : t.size ≤ 8192) (hs : lnR o + ln t.size ≤ R) :
    ∃ (k' : Dk) (v' : Nat → Int), CallOK Try.prog 53 [spn N, I sq, S t] [(0, .box (dbox m k))] (I 0) [(0, some (.box (dbox m k')))] ∧ Q1 k' N (c + 1001) v' v' 0 (fun _ => False) ∧ Vw v' N ∧ At v' R 0 o ∧ At v' R 1 (some (sq, t)) := by
  obtain ⟨k', e, ct, h⟩ := prep_q m q hc hN hR vw h sq hq t ht hs
  rcases h with ⟨rfl, v', f', q', vw', h0, h1, hf⟩ | ⟨hf, _⟩
  · rw [hf rfl] at q'
    exact ⟨k', v', ct, q', vw', h0, h1⟩
  · exact absurd rfl hf
theorem switch_q0 (m : Nat) {k : Dk} {N R c : Nat} {v : Nat → Int} (q : Q1 k N c v v 0 (fun _ => False)) (hc : c ≤ 70000) (hN : 4 ≤ N ∧ N ≤ 1000) (hR : R + 2 = N) (vw : Vw v N) {o : Option (Int × ByteArray)} (h : At v R 0 o) (x : Int × ByteArray) (hx : At v R 1 (some x)) :
    ∃ (k' : Dk) (v' : Nat → Int), CallOK Try.prog 54 [spn N] [(0, .box (dbox m k))] (I 0) [(0, some (.box (dbox m k')))] ∧ Q1 k' N (c + 1) v' v' 0 (fun _ => False) ∧ Vw v' N ∧ At v' R 0 (some x) ∧ At v' R 1 (some x) := by
  obtain ⟨k', e, ct, h⟩ := switch_q m q hc hN hR vw h x hx
  rcases h with ⟨rfl, v', f', q', vw', h0, h1, hf⟩ | ⟨hf, _⟩
  · rw [hf rfl] at q'
    exact ⟨k', v', ct, q', vw', h0, h1⟩
  · exact absurd rfl hf
def sText : ByteArray := ⟨#[115, 111, 109, 101, 32, 116, 101, 120, 116]⟩
set_option maxHeartbeats 4000000 in
theorem rawake_any : CallOK Try.prog 41 [] [] (B true) [] := by
  have ar := areaz 12 (by omega)
  have q0 := q_zero 12
  generalize dkN [List.replicate 12 0] = k0 at ar q0
  have vw0 := vw_zero 12
  have h0 : At (fun _ => (0 : Int)) 10 0 none := rfl
  obtain ⟨k1, v1, c1, q1, vw1, a1, b1⟩ := prep_q0 0 q0 (by omega) (by omega) (show 10 + 2 = 12 by omega) vw0 h0 5 (by omega) sText (by decide) (by decide)
  have r1 := read_q 0 q1 (by omega) (show 10 + 2 = 12 by omega) vw1 a1
  obtain ⟨k2, v2, c2, q2, vw2, a2, b2⟩ := switch_q0 0 q1 (by omega) (by omega) (show 10 + 2 = 12 by omega) vw1 a1 _ b1
  have r2 := read_q 0 q2 (by omega) (show 10 + 2 = 12 by omega) vw2 a2
  clear q0 q1 q2 vw0 vw1 vw2 a1 b1 a2 b2 h0
  refine CallOK.intro Try.call41 Try.func41 rfl rfl trivial ?_
  refine Safe.ends mixed Try.func41 17 [⟨100, []⟩, ⟨200, [(1, .call [200] (.tup [.ptr 255 0 0 0, .ifc 170 (.agg [.ptr 255 0 0 0, I 0, I 0, I ((↑(12 : Nat) : Int))])]) [(255, some (.box (dbox (0 : Nat) k0)))])]⟩, ⟨300, [(4, .call [255] (I 0) [(255, some (.box (dbox (0 : Nat) k1)))])]⟩, ⟨400, [(1, .call [255] (.tup [.agg [B false, I 0, S (ByteArray.mk #[])], I 12]) [(255, some (.box (dbox (0 : Nat) k1)))])]⟩, ⟨500, [(1, .call [255] (I 0) [(255, some (.box (dbox (0 : Nat) k2)))])]⟩, ⟨600, [(1, .call [255] (.tup [.agg [B true, I (((5 : Int), sText).fst), S (((5 : Int), sText).snd)], I 0]) [(255, some (.box (dbox (0 : Nat) k2)))])]⟩, ⟨700, []⟩] (r := B true) (hp := []) (ob := [(0 : Int) ≤ (12 : Int) ∧ (12 : Int) ≤ (12 : Int) ∧ (12 : Int) ≤ (1099511627776 : Int), CallOK Try.prog (48 : Nat) ([] ++ [AV.sl (200 : Nat) (0 : Nat) (1 : Nat) (12 : Nat) none] ++ []) [((200 : Nat), Ob.vec (22 : Nat) (1 : Nat) (12 : Nat) fun x => List.map AV.val (Value.int IntKind.u64 (0 : Int)).cells.toList)] (AV.tup [AV.ptr (255 : Nat) (0 : Nat) (0 : Nat) (0 : Nat), AV.ifc (170 : Nat) (AV.agg [AV.ptr (255 : Nat) (0 : Nat) (0 : Nat) (0 : Nat), AV.val (Value.int IntKind.i64 (0 : Int)), AV.val (Value.int IntKind.i64 (0 : Int)), AV.val (Value.int IntKind.i64 (↑(12 : Nat) : Int))])]) [((255 : Nat), some (Ob.box (dbox (0 : Nat) k0)))], CallOK Try.prog (53 : Nat) ([] ++ [AV.ifc (170 : Nat) (AV.agg [AV.ptr (255 : Nat) (0 : Nat) (0 : Nat) (0 : Nat), AV.val (Value.int IntKind.i64 (0 : Int)), AV.val (Value.int IntKind.i64 (0 : Int)), AV.val (Value.int IntKind.i64 (↑(12 : Nat) : Int))]), ofV (Value.int IntKind.i64 (5 : Int)), ofV (Value.string (ByteArray.mk #[(115 : UInt8), (111 : UInt8), (109 : UInt8), (101 : UInt8), (32 : UInt8), (116 : UInt8), (101 : UInt8), (120 : UInt8), (116 : UInt8)]))] ++ []) [((255 : Nat), Ob.box (dbox (0 : Nat) k0))] (AV.val (Value.int IntKind.i64 (0 : Int))) [((255 : Nat), some (Ob.box (dbox (0 : Nat) k1)))], CallOK Try.prog (50 : Nat) ([] ++ [AV.ifc (170 : Nat) (AV.agg [AV.ptr (255 : Nat) (0 : Nat) (0 : Nat) (0 : Nat), AV.val (Value.int IntKind.i64 (0 : Int)), AV.val (Value.int IntKind.i64 (0 : Int)), AV.val (Value.int IntKind.i64 (↑(12 : Nat) : Int))])] ++ []) [((255 : Nat), Ob.box (dbox (0 : Nat) k1))] (AV.tup [AV.agg [AV.val (Value.bool false), AV.val (Value.int IntKind.i64 (0 : Int)), AV.val (Value.string (ByteArray.mk #[]))], AV.val (Value.int IntKind.i64 (12 : Int))]) [((255 : Nat), some (Ob.box (dbox (0 : Nat) k1)))], CallOK Try.prog (54 : Nat) ([] ++ [AV.ifc (170 : Nat) (AV.agg [AV.ptr (255 : Nat) (0 : Nat) (0 : Nat) (0 : Nat), AV.val (Value.int IntKind.i64 (0 : Int)), AV.val (Value.int IntKind.i64 (0 : Int)), AV.val (Value.int IntKind.i64 (↑(12 : Nat) : Int))])] ++ []) [((255 : Nat), Ob.box (dbox (0 : Nat) k1))] (AV.val (Value.int IntKind.i64 (0 : Int))) [((255 : Nat), some (Ob.box (dbox (0 : Nat) k2)))], CallOK Try.prog (50 : Nat) ([] ++ [AV.ifc (170 : Nat) (AV.agg [AV.ptr (255 : Nat) (0 : Nat) (0 : Nat) (0 : Nat), AV.val (Value.int IntKind.i64 (0 : Int)), AV.val (Value.int IntKind.i64 (0 : Int)), AV.val (Value.int IntKind.i64 (↑(12 : Nat) : Int))])] ++ []) [((255 : Nat), Ob.box (dbox (0 : Nat) k2))] (AV.tup [AV.agg [AV.val (Value.bool true), AV.val (Value.int IntKind.i64 ((5 : Int), sText).fst), AV.val (Value.string ((5 : Int), sText).snd)], AV.val (Value.int IntKind.i64 (0 : Int))]) [((255 : Nat), some (Ob.box (dbox (0 : Nat) k2)))]]) rfl (by kernel_rfl) ⟨(by omega), (CallOK.ren ar [(1, 200), (10, 255)] [1, 10] rfl rfl rfl rfl ⟨rfl, fun _ => rfl, trivial⟩ rfl ⟨rfl, fun _ => rfl, rfl, trivial, trivial⟩), (CallOK.ren c1 [(0, 255)] [0] rfl rfl rfl rfl ⟨rfl, trivial, trivial⟩ rfl ⟨rfl, trivial, trivial⟩), (CallOK.ren r1 [(0, 255)] [0] rfl rfl rfl rfl ⟨rfl, trivial, trivial⟩ rfl ⟨rfl, trivial, trivial⟩), (CallOK.ren c2 [(0, 255)] [0] rfl rfl rfl rfl ⟨rfl, trivial, trivial⟩ rfl ⟨rfl, trivial, trivial⟩), (CallOK.ren r2 [(0, 255)] [0] rfl rfl rfl rfl ⟨rfl, trivial, trivial⟩ rfl ⟨rfl, trivial, trivial⟩), trivial⟩ rfl trivial trivial rfl
end Go.Proofs.Ytbgbjgedjmhcaaa
namespace Go.Proofs.Ytbgbjgedjmhcaaa
open Go.RowKit
set_option linter.unusedVariables false
set_option linter.unusedSimpArgs false
/-- the bytes that are there behind i rounds -/
def gbl (g : Nat → Int) (N i : Nat) : List Int := (List.range N).map fun q => if q < i then g q else 0
theorem gbl_len (g : Nat → Int) (N i : Nat) : (gbl g N i).length = N := by simp [gbl]
theorem gbl_set (g : Nat → Int) (N i : Nat) (hi : i < N) : (gbl g N i).set i (g i) = gbl g N (i + 1) := by
  refine List.ext_getElem (by simp [gbl_len]) fun q h1 h2 => ?_
  simp only [gbl, List.getElem_set, List.getElem_map, List.getElem_range]
  by_cases e : i = q
  · subst e; simp
  · rw [if_neg e]
    by_cases h : q < i
    · rw [if_pos h, if_pos (by omega)]
    · rw [if_neg h, if_neg (by omega)]
def gbT (g : Nat → Int) (n : Nat) : ByteArray := ⟨((List.range n).map fun q => UInt8.ofNat (g q).toNat).toArray⟩
theorem gbT_size (g : Nat → Int) (n : Nat) : (gbT g n).size = n := by simp [gbT, ByteArray.size]
theorem gbT_at (g : Nat → Int) (hg : ∀ q, 0 ≤ g q ∧ g q < 256) (n q : Nat) (h : q < n) : byteAt (gbT g n) q = g q := by
  unfold byteAt gbT
  have hb := hg q
  have : (g q).toNat % 256 = (g q).toNat := Nat.mod_eq_of_lt (by omega)
  simp only [List.getElem?_map, List.getElem?_range h, Option.map_some, Option.getD_some, UInt8.toNat_ofNat', this]
  omega
theorem gbl_row (g : Nat → Int) (N i q : Nat) (hq : q < N) (hi : q < i) : rowG encB8 (gbl g N i) q = [U8 (g q)] := by
  unfold rowG encB8 gbl
  rw [List.getD_eq_getElem?_getD, List.getElem?_map, List.getElem?_range hq]
  simp [hi]
theorem gbl_str (g : Nat → Int) (hg : ∀ q, 0 ≤ g q ∧ g q < 256) (N : Nat) : RowStr (gbT g N) N (rowG encB8 (gbl g N N)) :=
  ⟨gbT_size g N, fun q hq => by
    rw [gbl_row g N N q hq hq]
    unfold strRow
    rw [gbT_at g hg N q hq]⟩
theorem gbl_zero {ty : Nat} {N : Nat} {σ : List (Nat × Nat)} (g : Nat → Int) : ObLe (.vec ty 1 N (fun q => renL σ ((fun _ => [U8 0]) q))) (.vec ty 1 N (rowG encB8 (gbl g N 0))) := by
  refine ⟨rfl, rfl, rfl, fun q hq => ?_⟩
  unfold rowG encB8 gbl
  rw [List.getD_eq_getElem?_getD, List.getElem?_map, List.getElem?_range hq]
  rfl
/-- a letter -/
def ltr (i q : Nat) : Int := 97 + ((i : Int) + (q : Int)) % 26
theorem ltr_bd (i q : Nat) : 0 ≤ ltr i q ∧ ltr i q < 256 := by unfold ltr; omega
/-- an area between two turns -/
structure Tn where
  i : Nat
  k : OldD.Dk
  v : Nat → Int
  c : Nat
  o : Option (Int × ByteArray)
structure TnOK (N R n len : Nat) (s : Tn) : Prop where
  hi : s.i ≤ n
  q : Q1 s.k N s.c s.v s.v 0 (fun _ => False)
  hc : s.c ≤ 1002 * s.i
  vw : Vw s.v N
  at' : At s.v R 0 s.o
  ln : lnR s.o ≤ len
end Go.Proofs.Ytbgbjgedjmhcaaa
namespace Go.Proofs.Ytbgbjgedjmhcaaa
open Go.RowKit
open OldD (DA Dk Co fp Gr Row Fresh hid hd hs gu nk good ldK ge vu Ar un stF chk3 chk4 rdV wrE wrK flK)
set_option linter.unusedVariables false
set_option linter.unnecessarySimpa false
set_option linter.unusedSimpArgs false
set_option maxRecDepth 10000
def enc8 (z : Int) : List AV := [.val (.int .u8 z)]
theorem IsRow.factsB {W : World} {a : Option Addr} {len cap : Nat} {z : List Int} (h : IsRow .u8 W a len cap z) : len ≤ cap ∧ (z.take len).length = len ∧ len ≤ 9223372036854775807 ∧ ∀ x ∈ z.take len, 0 ≤ x ∧ x ≤ 255 := by
  rcases h with ⟨rfl, rfl, rfl, rfl⟩ | ⟨x, rfl, hl, hm, hz, hcell, hwz⟩
  · exact ⟨Nat.le_refl _, rfl, by omega, fun x hx => by simp at hx⟩
  · refine ⟨hl, ?_, ?_, fun n hn => ?_⟩
    · rw [List.length_take]; omega
    · unfold maxLen at hm; omega
    · have := hwz n (List.mem_of_mem_take hn)
      simp [Lit.wf, IntKind.min, IntKind.max, IntKind.signed, IntKind.bits] at this
      omega
theorem IsRow.roB {W : World} {a : Option Addr} {len cap : Nat} {z : List Int} {E : Env} {id : Nat} (h : IsRow .u8 W a len cap z) (hE : E id = some (inE a cap)) : Holds E W id (.ro 1 (z.take len).length (rowG enc8 (z.take len))) ∧ RV E (.sl id 0 1 (z.take len).length none) (.slice a len cap) := by
  obtain ⟨hlc, hlen, _, _⟩ := h.factsB
  rcases h with ⟨rfl, rfl, rfl, rfl⟩ | ⟨x, rfl, hl, hm, hz, hcell, hwz⟩
  · refine ⟨⟨none, 0, [], hE, rfl, .inl ⟨rfl, rfl, rfl⟩, (fun u hu => by cases hu), fun q hq => by simp at hq⟩, none, 0, hE, ?_⟩
    exact ⟨none, rfl, rfl, rfl⟩
  · rw [hlen]
    by_cases h0 : cap = 0
    · subst h0
      obtain rfl : len = 0 := by omega
      have hE' : E id = some (none, 0) := hE
      refine ⟨⟨none, 0, [], hE', rfl, .inl ⟨rfl, rfl, rfl⟩, (fun u hu => by cases hu), fun q hq => by omega⟩, none, 0, hE', ?_⟩
      exact ⟨_, rfl, rfl, rfl⟩
    · have hE' : E id = some (some x, cap) := by rw [hE, inE, if_neg h0]
      have hspot : x.spot = none := by
        have hc := hcell 0 (by omega)
        obtain ⟨b, off, spot⟩ := x
        simpa [Addr.add] using World.cell?_spot hc
      have hb : x.block < W.heap.size := by
        have hc := hcell 0 (by omega)
        rw [addr_plus, if_pos rfl] at hc
        exact block_lt_of_cell hc
      obtain ⟨b, off, spot⟩ := x
      dsimp only at hspot hb
      subst hspot
      have ht : ∀ q, q < len → (z.take len).getD q default = z.getD q 0 := fun q hq => by
        rw [List.getD_eq_getElem?_getD, List.getElem?_take, if_pos hq, List.getD_eq_getElem?_getD]
        rfl
      refine ⟨⟨some ⟨b, off, none⟩, cap, (z.take len).map (fun n => Value.int .u8 n), hE', by rw [List.length_map, hlen, Nat.mul_one], .inr ⟨_, rfl, hb, hl, fun j u hu => ?_⟩, fun u hu => ?_, fun q hq => ?_⟩, some ⟨b, off, none⟩, cap, hE', ⟨off, cap, rfl, hl, by omega, fun _ => by simp, by simp⟩⟩
      · rw [List.getElem?_map] at hu
        cases hz' : (z.take len)[j]? with
        | none => rw [hz'] at hu; simp at hu
        | some n =>
          rw [hz'] at hu
          simp only [Option.map_some, Option.some.injEq] at hu
          subst hu
          have hj : j < len := by
            have := (List.getElem?_eq_some_iff.1 hz').1
            omega
          have hc := hcell j (by omega)
          have e : z.getD j 0 = n := by rw [← ht j hj, List.getD_eq_getElem?_getD, hz']; rfl
          rw [e, addr_plus] at hc
          by_cases e0 : j = 0
          · subst e0; simpa using hc
          · rw [if_neg e0] at hc; exact hc
      · obtain ⟨n, _, rfl⟩ := List.mem_map.1 hu
        rfl
      · unfold cellsAt rowG enc8
        have hq' : q < (z.take len).length := by omega
        rw [Nat.mul_one, List.drop_eq_getElem_cons (by simpa using hq')]
        have : (z.take len).getD q default = (z.take len)[q] := by rw [List.getD_eq_getElem?_getD, List.getElem?_eq_getElem hq']; rfl
        rw [this]
        simp [RVs, RV]
theorem one_rowB {W : World} {a : Option Addr} {len cap : Nat} {z : List Int} (h : IsRow .u8 W a len cap z) (k : Nat) :
    ∃ E : Env, RH E [(k, .ro 1 (z.take len).length (rowG enc8 (z.take len)))] W ∧ RV E (.sl k 0 1 (z.take len).length none) (.slice a len cap) := by
  have key := h.roB (E := fun id => if id = k then some (inE a cap) else none) (id := k) (by simp)
  refine ⟨_, RH.ros (fun id o ho => ?_) (fun id o ho => ?_), key.2⟩
  · obtain ⟨rfl, rfl⟩ := find_one ho; exact key.1
  · obtain ⟨rfl, rfl⟩ := find_one ho; rfl
end Go.Proofs.Ytbgbjgedjmhcaaa
namespace Go.Proofs.Ytbgbjgedjmhcaaa
open Go.RowKit
open OldD (Dk)
set_option linter.unusedVariables false
set_option linter.unnecessarySimpa false
set_option linter.unusedSimpArgs false
set_option maxRecDepth 10000
set_option maxHeartbeats 4000000 in
theorem turn_in (X : List Int) (i n : Nat) (hi : i < X.length) (hX : X.length ≤ 30) (hn : n ≤ 72) (k k1 k2 : Dk)
    (c1 : CallOK Try.prog 53 [spn 22, I ((i : Int) + 1), S (gbT (ltr i) n)] [(0, .box (dbox 0 k))] (I 0) [(0, some (.box (dbox 0 k1)))])
    (c2 : CallOK Try.prog 54 [spn 22] [(0, .box (dbox 0 k1))] (I 0) [(0, some (.box (dbox 0 k2)))])
    (c3 : CallOK Try.prog 50 [spn 22] [(0, .box (dbox 0 k2))] (.tup [cpy true ((i : Int) + 1) (S (gbT (ltr i) n)), I 0]) [(0, some (.box (dbox 0 k2)))])
    (ih : Safe Try.prog 11 [(1, .ro 1 X.length (rowG enc8 X))] (B true) [] (loopAt Try.f11 0) ⟨slotsOf 77 [(0, .sl 1 0 1 X.length none), (4, spn20 22), (5, I ((i : Int) + 1))], [(1, .ro 1 X.length (rowG enc8 X)), (20, .box (dbox 0 k2))]⟩ [1, 20]) :
    Safe Try.prog 11 [(1, .ro 1 X.length (rowG enc8 X))] (B true) [] (loopAt Try.f11 1) ⟨slotsOf 77 [(0, .sl 1 0 1 X.length none), (4, spn20 22), (5, I i), (6, .sl 21 0 1 n none), (7, I 0)], [(1, .ro 1 X.length (rowG enc8 X)), (20, .box (dbox 0 k)), (21, .vec 5 1 n (rowG encB8 (gbl (ltr i) n 0)))]⟩ [1, 20, 21] := by
  refine Safe.withLoop (loopAt Try.f11 1) [1, 20, 21] 77 (fun j : Nat => [(0, .sl 1 0 1 X.length none), (4, spn20 22), (5, I i), (6, .sl 21 0 1 n none), (7, I j)]) (fun j => [(1, .ro 1 X.length (rowG enc8 X)), (20, .box (dbox 0 k)), (21, .vec 5 1 n (rowG encB8 (gbl (ltr i) n j)))]) (fun j => j ≤ n) (fun j => n - j) ?_ ?_
  · intro j hj ihj
    have hl := gbl_len (ltr i) n j
    by_cases hlt : j < n
    · have h1 : (j : Int) < (n : Int) := by omega
      have hset : ObLe (.vec 5 1 n (setRow (rowG encB8 (gbl (ltr i) n j)) j [U8 (ltr i j)])) (.vec 5 1 n (rowG encB8 (gbl (ltr i) n (j + 1)))) := by
        rw [← gbl_set (ltr i) n j hlt]
        exact ob_setB _ _ _ hl.symm rfl
      unfold ltr at hset
      refine Safe.goto mixed 11 [⟨1100, [(3, .tt true)]⟩, ⟨1200, []⟩, ⟨1300, []⟩] [0, 4, 5, 6, 7] [1, 20, 21] (todo' := loopAt Try.f11 1) (sl := slotsOf 77 [(0, .sl 1 0 1 X.length none), (4, .ifc 170 (.agg [.ptr 20 0 0 0, I 0, I 0, I ((↑(22 : Nat) : Int))])), (5, I ((↑i : Int))), (6, .sl 21 0 1 n none), (7, I ((↑j : Int) + (1 : Int)))]) (hp := [(1, .ro 1 X.length (rowG enc8 X)), (20, .box (dbox (0 : Nat) k)), (21, .vec 5 1 n (setRow (rowG encB8 (gbl (ltr i) n j)) j [AV.val (Value.int IntKind.u8 ((97 : Int) + ((↑i : Int) + (↑j : Int)) % (26 : Int)))]))]) (ob := [decide ((↑j : Int) < (↑n : Int)) = true, inK IntKind.i64 ((↑i : Int) + (↑j : Int)), (0 : Int) ≤ (↑i : Int) + (↑j : Int) ∧ (0 : Int) < (26 : Int), inK IntKind.i64 ((97 : Int) + ((↑i : Int) + (↑j : Int)) % (26 : Int)), inK IntKind.u8 ((97 : Int) + ((↑i : Int) + (↑j : Int)) % (26 : Int)), (0 : Int) ≤ (↑j : Int) ∧ (↑j : Int) < (↑n : Int), j < n, inK IntKind.i64 ((↑j : Int) + (1 : Int))]) rfl rfl (by kernel_rfl) ⟨(decide_eq_true h1), (by simp only [inK]; omega), (by omega), (by simp only [inK]; omega), (by simp only [inK]; omega), (by omega), (by omega), (by simp only [inK]; omega), trivial⟩ rfl ⟨rfl, fun _ => rfl, rfl, trivial, rfl, closed_set (fun _ => rfl) rfl, trivial⟩ ?_
      · skip
        exact Safe.leH (ihj (j + 1) (by omega) (by omega)) rfl (SlLe.refl _) ⟨ObLe.refl _, ObLe.refl _, hset, trivial⟩ rfl ⟨rfl, fun _ => rfl, rfl, trivial, rfl, fun _ => rfl, trivial⟩
    · have hn2 : ¬ (j : Int) < (n : Int) := by omega
      obtain rfl : j = n := by omega
      have rs := gbl_str (ltr i) (ltr_bd i) j
      refine (Classical.em ((!(true == true && (decide ((↑i : Int) + (1 : Int) = (↑i : Int) + (1 : Int)) && (decide (gbT (ltr i) j = gbT (ltr i) j) && true)))) = true)).elim (fun hc1 => ?ga0) (fun hc1 => ?gb0)
      case' gb0 =>
        refine Safe.goto mixed 19 [⟨1100, [(3, .tt false)]⟩, ⟨1200, [(4, .is (S (gbT (ltr i) j))), (5, .call [20] (I 0) [(20, some (.box (dbox (0 : Nat) k1)))]), (9, .call [20] (I 0) [(20, some (.box (dbox (0 : Nat) k2)))])]⟩, ⟨1300, [(1, .call [20] (.tup [.agg [B true, I ((↑i : Int) + (1 : Int)), S (gbT (ltr i) j)], I 0]) [(20, some (.box (dbox (0 : Nat) k2)))])]⟩, ⟨1400, [(7, .is (S (gbT (ltr i) j))), (9, .tt false)]⟩, ⟨1500, []⟩] [0, 4, 5] [1, 20] (todo' := loopAt Try.f11 0) (sl := slotsOf 77 [(0, .sl 1 0 1 X.length none), (4, .ifc 170 (.agg [.ptr 20 0 0 0, I 0, I 0, I ((↑(22 : Nat) : Int))])), (5, I ((↑i : Int) + (1 : Int)))]) (hp := [(1, .ro 1 X.length (rowG enc8 X)), (20, .box (dbox (0 : Nat) k2))]) (ob := [decide ((↑j : Int) < (↑j : Int)) = false, inK IntKind.i64 ((↑i : Int) + (1 : Int)), (0 : Nat) + j ≤ j, RowStr (gbT (ltr i) j) j (rowG encB8 (gbl (ltr i) j j)), AV.val (Value.string (gbT (ltr i) j)) = AV.val (Value.string (gbT (ltr i) j)), CallOK Try.prog (53 : Nat) ([] ++ [AV.ifc (170 : Nat) (AV.agg [AV.ptr (20 : Nat) (0 : Nat) (0 : Nat) (0 : Nat), AV.val (Value.int IntKind.i64 (0 : Int)), AV.val (Value.int IntKind.i64 (0 : Int)), AV.val (Value.int IntKind.i64 (↑(22 : Nat) : Int))]), AV.val (Value.int IntKind.i64 ((↑i : Int) + (1 : Int))), AV.val (Value.string (gbT (ltr i) j))] ++ []) [((20 : Nat), Ob.box (dbox (0 : Nat) k))] (AV.val (Value.int IntKind.i64 (0 : Int))) [((20 : Nat), some (Ob.box (dbox (0 : Nat) k1)))], CallOK Try.prog (54 : Nat) ([] ++ [AV.ifc (170 : Nat) (AV.agg [AV.ptr (20 : Nat) (0 : Nat) (0 : Nat) (0 : Nat), AV.val (Value.int IntKind.i64 (0 : Int)), AV.val (Value.int IntKind.i64 (0 : Int)), AV.val (Value.int IntKind.i64 (↑(22 : Nat) : Int))])] ++ []) [((20 : Nat), Ob.box (dbox (0 : Nat) k1))] (AV.val (Value.int IntKind.i64 (0 : Int))) [((20 : Nat), some (Ob.box (dbox (0 : Nat) k2)))], CallOK Try.prog (50 : Nat) ([] ++ [AV.ifc (170 : Nat) (AV.agg [AV.ptr (20 : Nat) (0 : Nat) (0 : Nat) (0 : Nat), AV.val (Value.int IntKind.i64 (0 : Int)), AV.val (Value.int IntKind.i64 (0 : Int)), AV.val (Value.int IntKind.i64 (↑(22 : Nat) : Int))])] ++ []) [((20 : Nat), Ob.box (dbox (0 : Nat) k2))] (AV.tup [AV.agg [AV.val (Value.bool true), AV.val (Value.int IntKind.i64 ((↑i : Int) + (1 : Int))), AV.val (Value.string (gbT (ltr i) j))], AV.val (Value.int IntKind.i64 (0 : Int))]) [((20 : Nat), some (Ob.box (dbox (0 : Nat) k2)))], inK IntKind.i64 ((↑i : Int) + (1 : Int)), (0 : Nat) + j ≤ j, RowStr (gbT (ltr i) j) j (rowG encB8 (gbl (ltr i) j j)), AV.val (Value.string (gbT (ltr i) j)) = AV.val (Value.string (gbT (ltr i) j)), (!(true == true && (decide ((↑i : Int) + (1 : Int) = (↑i : Int) + (1 : Int)) && (decide (gbT (ltr i) j = gbT (ltr i) j) && true)))) = false, inK IntKind.i64 ((↑i : Int) + (1 : Int))]) rfl rfl (by kernel_rfl) ⟨(decide_eq_false hn2), (by simp only [inK]; first | omega | assumption | rfl), (by first | omega | assumption | rfl), (by first | omega | assumption | rfl), (by first | omega | assumption | rfl), (CallOK.ren c1 [(0, 20)] [0] rfl rfl rfl rfl ⟨rfl, trivial, trivial⟩ rfl ⟨rfl, trivial, trivial⟩), (CallOK.ren c2 [(0, 20)] [0] rfl rfl rfl rfl ⟨rfl, trivial, trivial⟩ rfl ⟨rfl, trivial, trivial⟩), (CallOK.ren c3 [(0, 20)] [0] rfl rfl rfl rfl ⟨rfl, trivial, trivial⟩ rfl ⟨rfl, trivial, trivial⟩), (by simp only [inK]; first | omega | assumption | rfl), (by first | omega | assumption | rfl), (by first | omega | assumption | rfl), (by first | omega | assumption | rfl), (by simpa using hc1), (by simp only [inK]; first | omega | assumption | rfl), trivial⟩ rfl ⟨rfl, fun _ => rfl, rfl, trivial, trivial⟩ ?_
      case' ga0 =>
        refine Safe.ends mixed Try.func11 17 [⟨1100, [(3, .tt false)]⟩, ⟨1200, [(4, .is (S (gbT (ltr i) j))), (5, .call [20] (I 0) [(20, some (.box (dbox (0 : Nat) k1)))]), (9, .call [20] (I 0) [(20, some (.box (dbox (0 : Nat) k2)))])]⟩, ⟨1300, [(1, .call [20] (.tup [.agg [B true, I ((↑i : Int) + (1 : Int)), S (gbT (ltr i) j)], I 0]) [(20, some (.box (dbox (0 : Nat) k2)))])]⟩, ⟨1400, [(7, .is (S (gbT (ltr i) j))), (9, .tt true)]⟩, ⟨1500, []⟩] (r := B false) (hp := [(1, .ro 1 X.length (rowG enc8 X))]) (ob := [decide ((↑j : Int) < (↑j : Int)) = false, inK IntKind.i64 ((↑i : Int) + (1 : Int)), (0 : Nat) + j ≤ j, RowStr (gbT (ltr i) j) j (rowG encB8 (gbl (ltr i) j j)), AV.val (Value.string (gbT (ltr i) j)) = AV.val (Value.string (gbT (ltr i) j)), CallOK Try.prog (53 : Nat) ([] ++ [AV.ifc (170 : Nat) (AV.agg [AV.ptr (20 : Nat) (0 : Nat) (0 : Nat) (0 : Nat), AV.val (Value.int IntKind.i64 (0 : Int)), AV.val (Value.int IntKind.i64 (0 : Int)), AV.val (Value.int IntKind.i64 (↑(22 : Nat) : Int))]), AV.val (Value.int IntKind.i64 ((↑i : Int) + (1 : Int))), AV.val (Value.string (gbT (ltr i) j))] ++ []) [((20 : Nat), Ob.box (dbox (0 : Nat) k))] (AV.val (Value.int IntKind.i64 (0 : Int))) [((20 : Nat), some (Ob.box (dbox (0 : Nat) k1)))], CallOK Try.prog (54 : Nat) ([] ++ [AV.ifc (170 : Nat) (AV.agg [AV.ptr (20 : Nat) (0 : Nat) (0 : Nat) (0 : Nat), AV.val (Value.int IntKind.i64 (0 : Int)), AV.val (Value.int IntKind.i64 (0 : Int)), AV.val (Value.int IntKind.i64 (↑(22 : Nat) : Int))])] ++ []) [((20 : Nat), Ob.box (dbox (0 : Nat) k1))] (AV.val (Value.int IntKind.i64 (0 : Int))) [((20 : Nat), some (Ob.box (dbox (0 : Nat) k2)))], CallOK Try.prog (50 : Nat) ([] ++ [AV.ifc (170 : Nat) (AV.agg [AV.ptr (20 : Nat) (0 : Nat) (0 : Nat) (0 : Nat), AV.val (Value.int IntKind.i64 (0 : Int)), AV.val (Value.int IntKind.i64 (0 : Int)), AV.val (Value.int IntKind.i64 (↑(22 : Nat) : Int))])] ++ []) [((20 : Nat), Ob.box (dbox (0 : Nat) k2))] (AV.tup [AV.agg [AV.val (Value.bool true), AV.val (Value.int IntKind.i64 ((↑i : Int) + (1 : Int))), AV.val (Value.string (gbT (ltr i) j))], AV.val (Value.int IntKind.i64 (0 : Int))]) [((20 : Nat), some (Ob.box (dbox (0 : Nat) k2)))], inK IntKind.i64 ((↑i : Int) + (1 : Int)), (0 : Nat) + j ≤ j, RowStr (gbT (ltr i) j) j (rowG encB8 (gbl (ltr i) j j)), AV.val (Value.string (gbT (ltr i) j)) = AV.val (Value.string (gbT (ltr i) j)), (!(true == true && (decide ((↑i : Int) + (1 : Int) = (↑i : Int) + (1 : Int)) && (decide (gbT (ltr i) j = gbT (ltr i) j) && true)))) = true]) rfl (by kernel_rfl) ⟨(decide_eq_false hn2), (by simp only [inK]; first | omega | assumption | rfl), (by first | omega | assumption | rfl), (by first | omega | assumption | rfl), (by first | omega | assumption | rfl), (CallOK.ren c1 [(0, 20)] [0] rfl rfl rfl rfl ⟨rfl, trivial, trivial⟩ rfl ⟨rfl, trivial, trivial⟩), (CallOK.ren c2 [(0, 20)] [0] rfl rfl rfl rfl ⟨rfl, trivial, trivial⟩ rfl ⟨rfl, trivial, trivial⟩), (CallOK.ren c3 [(0, 20)] [0] rfl rfl rfl rfl ⟨rfl, trivial, trivial⟩ rfl ⟨rfl, trivial, trivial⟩), (by simp only [inK]; first | omega | assumption | rfl), (by first | omega | assumption | rfl), (by first | omega | assumption | rfl), (by first | omega | assumption | rfl), hc1, trivial⟩ ?_ ⟨ObLe.refl _, trivial⟩ ⟨rfl, fun _ => rfl, trivial⟩ rfl
      · exact absurd hc1 (by simp)
      · exact ih
  · intro H
    exact H 0 (Nat.zero_le _)
set_option maxHeartbeats 4000000 in
theorem turns_any (X : List Int) (hS : ∀ x ∈ X, 0 ≤ x ∧ x ≤ 255) (hm : X.length ≤ 9223372036854775807) : CallOK Try.prog 11 [.sl 1 0 1 X.length none] [(1, .ro 1 X.length (rowG enc8 X))] (B true) [] := by
  have aw := rawake_any
  refine CallOK.intro Try.call11 Try.func11 rfl rfl ⟨rfl, fun _ => rfl, trivial⟩ ?_
  by_cases hx : X.length ≤ 30
  · have qL : ¬ (X.length : Int) > 30 := by omega
    have ar := areaz 22 (by omega)
    have q0 := q_zero 22
    generalize dkN [List.replicate 22 0] = k0 at ar q0
    have ok0 : TnOK 22 20 X.length 10 ⟨0, k0, fun _ => 0, 0, none⟩ := ⟨Nat.zero_le _, q0, Nat.zero_le _, vw_zero 22, rfl, Nat.zero_le _⟩
    refine Safe.withLoop (loopAt Try.f11 0) [1, 20] 77 (fun s : Tn => [(0, .sl 1 0 1 X.length none), (4, spn20 22), (5, I (s.i : Int))]) (fun s => [(1, .ro 1 X.length (rowG enc8 X)), (20, .box (dbox 0 s.k))]) (TnOK 22 20 X.length 10) (fun s => X.length - s.i) ?_ ?_
    · rintro ⟨i, k, v, c, o⟩ ⟨hi, q, hc, vw, h0, hl⟩ ih
      dsimp only at hi q hc vw h0 hl
      by_cases hlt : i < X.length
      · have h1 : (i : Int) < (X.length : Int) := by omega
        have e8 : rowG enc8 X i = [.val (.int .u8 (X.getD i default))] := rfl
        have hx8 := hS (X.getD i default) (by rw [List.getD_eq_getElem?_getD, List.getElem?_eq_getElem hlt]; exact List.getElem_mem _)
        obtain ⟨n, hn⟩ : ∃ n : Nat, (X.getD i default % 73).toNat = n := ⟨_, rfl⟩
        have hn2 : n ≤ 72 := by omega
        have hnz : X.getD i default % 73 = (n : Int) := by omega
        have hsz := gbT_size (ltr i) n
        have hln : ln n ≤ 10 := by unfold ln; omega
        obtain ⟨k1, v1, c1, q1, vw1, a1, b1⟩ := prep_q0 0 q (by omega) (by omega) (show 20 + 2 = 22 by omega) vw h0 ((i : Int) + 1) (by omega) (gbT (ltr i) n) (by omega) (by rw [hsz]; omega)
        obtain ⟨k2, v2, c2, q2, vw2, a2, b2⟩ := switch_q0 0 q1 (by omega) (by omega) (show 20 + 2 = 22 by omega) vw1 a1 _ b1
        have c3 := read_q 0 q2 (by omega) (show 20 + 2 = 22 by omega) vw2 a2
        have ihn := ih ⟨i + 1, k2, v2, c + 1001 + 1, some ((i : Int) + 1, gbT (ltr i) n)⟩ ⟨hlt, q2, by show c + 1001 + 1 ≤ 1002 * (i + 1); omega, vw2, a2, by show ln _ ≤ 10; rw [hsz]; exact hln⟩ (by show X.length - (i + 1) < X.length - i; omega)
        dsimp only at ihn
        have tn := turn_in X i n hlt hx hn2 k k1 k2 c1 c2 c3 ihn
        clear q q1 q2 vw vw1 vw2 h0 a1 a2 b1 b2 c1 c2 c3 ih ihn
        dsimp only
        rw [← hn] at tn
        have hgz : ∀ (σ : List (Nat × Nat)), ObLe (.vec 5 1 (X.getD i default % 73).toNat (fun q => renL σ ((fun _ => [U8 0]) q))) (.vec 5 1 (X.getD i default % 73).toNat (rowG encB8 (gbl (ltr i) (X.getD i default % 73).toNat 0))) := fun σ => gbl_zero (ltr i)
        clear hn hnz
        refine Safe.goto mixed 14 [⟨1100, [(3, .tt true)]⟩, ⟨1200, []⟩, ⟨1300, []⟩] [0, 4, 5, 6, 7] [1, 20, 1205] (todo' := loopAt Try.f11 1) (sl := slotsOf 77 [(0, .sl 1 0 1 X.length none), (4, .ifc 170 (.agg [.ptr 20 0 0 0, I 0, I 0, I ((↑(22 : Nat) : Int))])), (5, I ((↑i : Int))), (6, .sl 1205 0 1 ((X.getD i default % (73 : Int)).toNat) none), (7, I 0)]) (hp := [(1, .ro 1 X.length (rowG enc8 X)), (20, .box (dbox (0 : Nat) k)), (1205, .vec 5 1 ((X.getD i default % (73 : Int)).toNat) (fun x => List.map AV.val (Value.int IntKind.u8 (0 : Int)).cells.toList))]) (ob := [decide ((↑i : Int) < (↑X.length : Int)) = true, (0 : Int) ≤ (↑i : Int) ∧ (↑i : Int) < (↑X.length : Int), i < X.length, (0 : Int) ≤ X.getD i default ∧ (0 : Int) < (73 : Int), (0 : Int) ≤ X.getD i default % (73 : Int) ∧ X.getD i default % (73 : Int) ≤ X.getD i default % (73 : Int) ∧ X.getD i default % (73 : Int) ≤ (1099511627776 : Int)]) rfl rfl (by kernel_rfl) ⟨(decide_eq_true h1), (by omega), (by omega), (by omega), (by omega), trivial⟩ rfl ⟨rfl, fun _ => rfl, rfl, trivial, rfl, fun _ => rfl, trivial⟩ ?_
        refine Safe.ren [(1205, 21)] rfl rfl rfl rfl ⟨rfl, fun _ => rfl, rfl, trivial, rfl, fun _ => rfl, trivial⟩ ?_
        · exact Safe.leH tn rfl (SlLe.refl _) ⟨ObLe.refl _, ObLe.refl _, hgz _, trivial⟩ rfl ⟨rfl, fun _ => rfl, rfl, trivial, rfl, fun _ => rfl, trivial⟩
      · dsimp only
        have h1 : ¬ (i : Int) < (X.length : Int) := by omega
        refine Safe.ends mixed Try.func11 7 [⟨1100, [(3, .tt false)]⟩, ⟨1200, [(0, .call [] (B true) [])]⟩] (r := B true) (hp := [(1, .ro 1 X.length (rowG enc8 X))]) (ob := [decide ((↑i : Int) < (↑X.length : Int)) = false, CallOK Try.prog (41 : Nat) ([] ++ [] ++ []) [] (AV.val (Value.bool true)) []]) rfl (by kernel_rfl) ⟨(decide_eq_false h1), aw, trivial⟩ rfl ⟨ObLe.refl _, trivial⟩ ⟨rfl, fun _ => rfl, trivial⟩ rfl
    · intro H
      have H0 := H _ ok0
      dsimp only at H0
      refine Safe.goto mixed 19 [⟨1100, []⟩, ⟨1200, [(2, .tt false)]⟩, ⟨1300, [(1, .call [1300] (.tup [.ptr 1355 0 0 0, .ifc 170 (.agg [.ptr 1355 0 0 0, I 0, I 0, I ((↑(22 : Nat) : Int))])]) [(1355, some (.box (dbox (0 : Nat) k0)))])]⟩, ⟨1400, []⟩, ⟨1500, []⟩] [0, 4, 5] [1, 1355] (todo' := loopAt Try.f11 0) (sl := slotsOf 77 [(0, .sl 1 0 1 X.length none), (4, .ifc 170 (.agg [.ptr 1355 0 0 0, I 0, I 0, I ((↑(22 : Nat) : Int))])), (5, I 0)]) (hp := [(1, .ro 1 X.length (rowG enc8 X)), (1355, .box (dbox (0 : Nat) k0))]) (ob := [decide ((↑X.length : Int) > (30 : Int)) = false, (0 : Int) ≤ (22 : Int) ∧ (22 : Int) ≤ (22 : Int) ∧ (22 : Int) ≤ (1099511627776 : Int), CallOK Try.prog (48 : Nat) ([] ++ [AV.sl (1300 : Nat) (0 : Nat) (1 : Nat) (22 : Nat) none] ++ []) [((1300 : Nat), Ob.vec (22 : Nat) (1 : Nat) (22 : Nat) fun x => List.map AV.val (Value.int IntKind.u64 (0 : Int)).cells.toList)] (AV.tup [AV.ptr (1355 : Nat) (0 : Nat) (0 : Nat) (0 : Nat), AV.ifc (170 : Nat) (AV.agg [AV.ptr (1355 : Nat) (0 : Nat) (0 : Nat) (0 : Nat), AV.val (Value.int IntKind.i64 (0 : Int)), AV.val (Value.int IntKind.i64 (0 : Int)), AV.val (Value.int IntKind.i64 (↑(22 : Nat) : Int))])]) [((1355 : Nat), some (Ob.box (dbox (0 : Nat) k0)))]]) rfl rfl (by kernel_rfl) ⟨(decide_eq_false qL), (by omega), (CallOK.ren ar [(1, 1300), (10, 1355)] [1, 10] rfl rfl rfl rfl ⟨rfl, fun _ => rfl, trivial⟩ rfl ⟨rfl, fun _ => rfl, rfl, trivial, trivial⟩), trivial⟩ rfl ⟨rfl, fun _ => rfl, rfl, trivial, trivial⟩ ?_
      refine Safe.ren [(1355, 20)] rfl rfl rfl rfl ⟨rfl, fun _ => rfl, rfl, trivial, trivial⟩ ?_
      · exact H0
  · have qL : (X.length : Int) > 30 := by omega
    refine Safe.ends mixed Try.func11 8 [⟨1100, []⟩, ⟨1200, [(2, .tt true)]⟩, ⟨1300, [(0, .call [] (B true) [])]⟩] (r := B true) (hp := [(1, .ro 1 X.length (rowG enc8 X))]) (ob := [decide ((↑X.length : Int) > (30 : Int)) = true, CallOK Try.prog (41 : Nat) ([] ++ [] ++ []) [] (AV.val (Value.bool true)) []]) rfl (by kernel_rfl) ⟨(decide_eq_true qL), aw, trivial⟩ rfl ⟨ObLe.refl _, trivial⟩ ⟨rfl, fun _ => rfl, trivial⟩ rfl
end Go.Proofs.Ytbgbjgedjmhcaaa
namespace Go.Proofs.Ytbgbjgedjmhcaaa
open Go.RowKit Go.ChangeShapes Go.WideShapes
open OldD (Dk)
set_option linter.unusedVariables false
set_option linter.unnecessarySimpa false
set_option linter.unusedSimpArgs false
set_option maxRecDepth 10000
def encS (t : ByteArray) : List AV := [S t]
/-- strings that came in -/
def Ss (W : World) (a : Option Addr) (cap : Nat) (L : List ByteArray) : Prop := L.length ≤ cap ∧ (cap = 0 ∨ ∃ b o, a = some ⟨b, o, none⟩ ∧ b < W.heap.size ∧ ∀ i, i < L.length → W.cell? ⟨b, o + i, none⟩ = some (.string (L.getD i default)))
set_option maxRecDepth 100000 in
theorem open_strs {H : Type} {enc : TypeId × Value → H} {W : World} {base : Nat} {v : Value} {d : DataW H} {p : List MemPlace} (ok : Value.okWide Try.prog W .any base 83 v) (k : DataW.Trod enc Try.prog W 0 (fun _ => true) true 83 v d p) :
    ∃ (a : Option Addr) (cap : Nat) (L : List ByteArray), v = .slice a L.length cap ∧ L.length ≤ 9223372036854775807 ∧ (∀ t ∈ L, t.size ≤ 9223372036854775807) ∧ Ss W a cap L := by
  obtain ⟨a, len, cap, rfl⟩ := okWide_slice Try.underlying83 ok
  obtain ⟨fuel, hfu⟩ := k
  rcases open_strings Try.underlying83 Try.underlying9 (by kernel_rfl) hfu with ⟨hcs, _⟩ | ⟨x, l, c, ss, hcs, hb, hl, hm, hz, hx, hcell, hsz⟩
  · simp [Value.cells] at hcs
    obtain ⟨rfl, rfl, rfl⟩ := hcs
    exact ⟨none, 0, [], rfl, by simp, by simp, Nat.le_refl _, .inl rfl⟩
  · simp [Value.cells] at hcs
    obtain ⟨rfl, rfl, rfl⟩ := hcs
    simp only [if_true] at hz
    have hlen : (ss.take len).length = len := by rw [List.length_take]; omega
    unfold maxLen at hm hsz
    refine ⟨some x, cap, ss.take len, by rw [hlen], by omega, fun t ht => by have := hsz t (List.mem_of_mem_take ht); omega, by omega, ?_⟩
    by_cases h0 : cap = 0
    · exact .inl h0
    · refine .inr ?_
      have hc0 := hcell 0 (by omega)
      have hspot : x.spot = none := by
        obtain ⟨b, off, spot⟩ := x
        simpa [Addr.add] using World.cell?_spot hc0
      have hbk : x.block < W.heap.size := by
        rw [addr_plus, if_pos rfl] at hc0
        exact block_lt_of_cell hc0
      obtain ⟨b, off, spot⟩ := x
      dsimp only at hspot hbk
      subst hspot
      refine ⟨b, off, rfl, hbk, fun i hi => ?_⟩
      have hc := hcell i (by omega)
      rw [addr_plus] at hc
      have e : (ss.take len).getD i default = ss.getD i ByteArray.empty := by
        rw [List.getD_eq_getElem?_getD, List.getElem?_take, if_pos (by omega), List.getD_eq_getElem?_getD, List.getElem?_eq_getElem (by omega)]
        rfl
      rw [e, ← hc]
      by_cases e0 : i = 0
      · subst e0; rfl
      · rw [if_neg e0]
theorem Ss.row {W : World} {a : Option Addr} {cap : Nat} {L : List ByteArray} (h : Ss W a cap L) (hm : L.length ≤ 9223372036854775807) (id : Nat) :
    ∃ E : Env, RH E [(id, .ro 1 L.length (rowG encS L))] W ∧ RV E (.sl id 0 1 L.length none) (.slice a L.length cap) := by
  obtain ⟨hlc, h⟩ := h
  have key : ∃ E : Env, Holds E W id (.ro 1 L.length (rowG encS L)) ∧ RV E (.sl id 0 1 L.length none) (.slice a L.length cap) := by
    rcases h with rfl | ⟨b, off, rfl, hb, hcell⟩
    · have hl0 : L.length = 0 := by omega
      have hE : (fun i => if i = id then some ((none : Option Addr), 0) else none : Env) id = some (none, 0) := by simp
      rw [hl0]
      exact ⟨fun i => if i = id then some ((none : Option Addr), 0) else none, ⟨none, 0, [], hE, rfl, .inl ⟨rfl, rfl, rfl⟩, (fun u hu => by cases hu), fun q hq => by omega⟩, none, 0, hE, ⟨_, rfl, rfl, rfl⟩⟩
    · by_cases h0 : cap = 0
      · subst h0
        have hl0 : L.length = 0 := by omega
        have hE : (fun i => if i = id then some ((none : Option Addr), 0) else none : Env) id = some (none, 0) := by simp
        rw [hl0]
        exact ⟨fun i => if i = id then some ((none : Option Addr), 0) else none, ⟨none, 0, [], hE, rfl, .inl ⟨rfl, rfl, rfl⟩, (fun u hu => by cases hu), fun q hq => by omega⟩, none, 0, hE, ⟨_, rfl, rfl, rfl⟩⟩
      · have hE : (fun i => if i = id then some (some (⟨b, off, none⟩ : Addr), cap) else none : Env) id = some (some ⟨b, off, none⟩, cap) := by simp
        refine ⟨fun i => if i = id then some (some (⟨b, off, none⟩ : Addr), cap) else none, ⟨some ⟨b, off, none⟩, cap, L.map Value.string, hE, by rw [List.length_map, Nat.mul_one], .inr ⟨_, rfl, hb, hlc, fun j u hu => ?_⟩, fun u hu => ?_, fun q hq => ?_⟩, some ⟨b, off, none⟩, cap, hE, ⟨off, cap, rfl, hlc, by omega, fun _ => by simp, by simp⟩⟩
        · rw [List.getElem?_map] at hu
          cases hz' : L[j]? with
          | none => rw [hz'] at hu; simp at hu
          | some n =>
            rw [hz'] at hu
            simp only [Option.map_some, Option.some.injEq] at hu
            subst hu
            have hj : j < L.length := (List.getElem?_eq_some_iff.1 hz').1
            have hc := hcell j hj
            rw [List.getD_eq_getElem?_getD, hz'] at hc
            exact hc
        · obtain ⟨n, _, rfl⟩ := List.mem_map.1 hu
          rfl
        · unfold cellsAt rowG encS
          rw [Nat.mul_one, List.drop_eq_getElem_cons (by simpa using hq)]
          have : L.getD q default = L[q] := by rw [List.getD_eq_getElem?_getD, List.getElem?_eq_getElem hq]; rfl
          rw [this]
          simp [RVs, RV]
  obtain ⟨E, k1, k2⟩ := key
  refine ⟨E, RH.ros (fun id o ho => ?_) (fun id o ho => ?_), k2⟩
  · obtain ⟨rfl, rfl⟩ := find_one ho; exact k1
  · obtain ⟨rfl, rfl⟩ := find_one ho; rfl
def kept : ByteArray := ⟨#[107, 101, 112, 116]⟩
/-- an area with a text that is kept, and a prepared one -/
structure Kp where
  i : Nat
  k : OldD.Dk
  v : Nat → Int
  c : Nat
  l : ByteArray
structure KpOK (n : Nat) (s : Kp) : Prop where
  hi : s.i ≤ n
  q : Q1 s.k 30 s.c s.v s.v 0 (fun _ => False)
  hc : s.c ≤ 1002 * (s.i + 2)
  vw : Vw s.v 30
  a0 : At s.v 28 0 (some (1, kept))
  a1 : At s.v 28 1 (some ((s.i : Int) + 1, s.l))
set_option maxHeartbeats 4000000 in
theorem keeps_any (T : List ByteArray) (hS : ∀ t ∈ T, t.size ≤ 9223372036854775807) (hm : T.length ≤ 9223372036854775807) : CallOK Try.prog 12 [.sl 1 0 1 T.length none] [(1, .ro 1 T.length (rowG encS T))] (B true) [] := by
  have aw := rawake_any
  refine CallOK.intro Try.call12 Try.func12 rfl rfl ⟨rfl, fun _ => rfl, trivial⟩ ?_
  by_cases hx : T.length ≤ 12
  · have qL : ¬ (T.length : Int) > 12 := by omega
    have ar := areaz 30 (by omega)
    have q0 := q_zero 30
    generalize dkN [List.replicate 30 0] = k0 at ar q0
    obtain ⟨k1, v1, c1, q1, vw1, a1, b1⟩ := prep_q0 0 q0 (by omega) (by omega) (show 28 + 2 = 30 by omega) (vw_zero 30) (show At (fun _ => (0 : Int)) 28 0 none from rfl) 1 (by omega) kept (by decide) (by decide)
    obtain ⟨k2, v2, c2, q2, vw2, a2, b2⟩ := switch_q0 0 q1 (by omega) (by omega) (show 28 + 2 = 30 by omega) vw1 a1 _ b1
    have ok0 : KpOK T.length ⟨0, k2, v2, 0 + 1001 + 1, kept⟩ := ⟨Nat.zero_le _, q2, by show 0 + 1001 + 1 ≤ 1002 * 2; omega, vw2, a2, b2⟩
    clear q0 q1 q2 vw1 vw2 a1 a2 b1 b2
    refine Safe.withLoop (loopAt Try.f12 0) [1, 20] 112 (fun s : Kp => [(0, .sl 1 0 1 T.length none), (4, spn20 30), (5, S s.l), (6, I ((s.i : Int) + 1)), (7, I (s.i : Int))]) (fun s => [(1, .ro 1 T.length (rowG encS T)), (20, .box (dbox 0 s.k))]) (KpOK T.length) (fun s => T.length - s.i) ?_ ?_
    · rintro ⟨i, k, v, c, l⟩ ⟨hi, q, hc, vw, a0, a1⟩ ih
      dsimp only at hi q hc vw a0 a1 ⊢
      by_cases hlt : i < T.length
      · have h1 : (i : Int) < (T.length : Int) := by omega
        have e8 : rowG encS T i = [S (T.getD i default)] := rfl
        have hx8 := hS (T.getD i default) (by rw [List.getD_eq_getElem?_getD, List.getElem?_eq_getElem hlt]; exact List.getElem_mem _)
        have key : ∀ t : ByteArray, t.size ≤ 100 → ∃ k' : Dk,
            CallOK Try.prog 53 [spn 30, I ((i : Int) + 2), S t] [(0, .box (dbox 0 k))] (I 0) [(0, some (.box (dbox 0 k')))] ∧
            CallOK Try.prog 50 [spn 30] [(0, .box (dbox 0 k'))] (.tup [cpy true 1 (S kept), I 0]) [(0, some (.box (dbox 0 k')))] ∧
            CallOK Try.prog 52 [spn 30] [(0, .box (dbox 0 k'))] (.tup [I 1, I ((i : Int) + 2), I 0]) [(0, some (.box (dbox 0 k')))] ∧
            Safe Try.prog 12 [(1, .ro 1 T.length (rowG encS T))] (B true) [] (loopAt Try.f12 0) ⟨slotsOf 112 [(0, .sl 1 0 1 T.length none), (4, spn20 30), (5, S t), (6, I ((i : Int) + 2)), (7, I ((i : Int) + 1))], [(1, .ro 1 T.length (rowG encS T)), (20, .box (dbox 0 k'))]⟩ [1, 20] := fun t ht => by
          have hln : ln t.size ≤ 14 := by unfold ln; omega
          have hkl : ln kept.size = 2 := by decide
          obtain ⟨k1, v1, c1, q1, vw1, a1', b1⟩ := prep_q0 0 q (by omega) (by omega) (show 28 + 2 = 30 by omega) vw a0 ((i : Int) + 2) (by omega) t (by omega) (by show ln kept.size + ln t.size ≤ 28; omega)
          have ihn := ih ⟨i + 1, k1, v1, c + 1001, t⟩ ⟨hlt, q1, by show c + 1001 ≤ 1002 * (i + 1 + 2); omega, vw1, a1', by show At v1 28 1 (some (((i + 1 : Nat) : Int) + 1, t)); rw [show (((i + 1 : Nat) : Int) + 1) = (i : Int) + 2 by omega]; exact b1⟩ (by show T.length - (i + 1) < T.length - i; omega)
          dsimp only at ihn
          rw [show (((i + 1 : Nat) : Int) + 1) = (i : Int) + 2 by omega, show ((i + 1 : Nat) : Int) = (i : Int) + 1 by omega] at ihn
          exact ⟨k1, c1, read_q 0 q1 (by omega) (show 28 + 2 = 30 by omega) vw1 a1', seqs_q 0 q1 (by omega) vw1 a1' b1, ihn⟩
        clear q vw a0 a1 ih aw ar c1 c2 ok0
        by_cases hb : (T.getD i default).size ≤ 100
        · have h2 : ¬ ((T.getD i default).size : Int) > 100 := by omega
          obtain ⟨k', c1, c2, c3, ihn⟩ := key (T.getD i default) hb
          refine (Classical.em (¬(↑i : Int) + (2 : Int) = (↑i : Int) + (2 : Int))).elim (fun hc1 => ?ga0) (fun hc1 => ?gb0)
          case' gb0 =>
            refine Safe.goto mixed 32 [⟨1100, [(3, .tt true)]⟩, ⟨1200, []⟩, ⟨1300, [(2, .tt false)]⟩, ⟨1400, [(4, .call [20] (I 0) [(20, some (.box (dbox (0 : Nat) k')))])]⟩, ⟨1500, []⟩, ⟨1600, [(1, .call [20] (.tup [.agg [B true, I 1, S kept], I 0]) [(20, some (.box (dbox (0 : Nat) k')))])]⟩, ⟨1700, [(1, .call [20] (.tup [I 1, I ((↑i : Int) + (2 : Int)), I 0]) [(20, some (.box (dbox (0 : Nat) k')))])]⟩, ⟨1800, [(18, .tt false)]⟩, ⟨1900, []⟩] [0, 4, 5, 6, 7] [1, 20] (todo' := loopAt Try.f12 0) (sl := slotsOf 112 [(0, .sl 1 0 1 T.length none), (4, .ifc 170 (.agg [.ptr 20 0 0 0, I 0, I 0, I ((↑(30 : Nat) : Int))])), (5, S (T.getD i default)), (6, I ((↑i : Int) + (2 : Int))), (7, I ((↑i : Int) + (1 : Int)))]) (hp := [(1, .ro 1 T.length (rowG encS T)), (20, .box (dbox (0 : Nat) k'))]) (ob := [decide ((↑i : Int) < (↑T.length : Int)) = true, (0 : Int) ≤ (↑i : Int) ∧ (↑i : Int) < (↑T.length : Int), i < T.length, decide ((↑(T.getD i default).size : Int) > (100 : Int)) = false, inK IntKind.i64 ((↑i : Int) + (2 : Int)), CallOK Try.prog (53 : Nat) ([] ++ [AV.ifc (170 : Nat) (AV.agg [AV.ptr (20 : Nat) (0 : Nat) (0 : Nat) (0 : Nat), AV.val (Value.int IntKind.i64 (0 : Int)), AV.val (Value.int IntKind.i64 (0 : Int)), AV.val (Value.int IntKind.i64 (↑(30 : Nat) : Int))]), AV.val (Value.int IntKind.i64 ((↑i : Int) + (2 : Int))), AV.val (Value.string (T.getD i default))] ++ []) [((20 : Nat), Ob.box (dbox (0 : Nat) k))] (AV.val (Value.int IntKind.i64 (0 : Int))) [((20 : Nat), some (Ob.box (dbox (0 : Nat) k')))], inK IntKind.i64 ((↑i : Int) + (2 : Int)), CallOK Try.prog (50 : Nat) ([] ++ [AV.ifc (170 : Nat) (AV.agg [AV.ptr (20 : Nat) (0 : Nat) (0 : Nat) (0 : Nat), AV.val (Value.int IntKind.i64 (0 : Int)), AV.val (Value.int IntKind.i64 (0 : Int)), AV.val (Value.int IntKind.i64 (↑(30 : Nat) : Int))])] ++ []) [((20 : Nat), Ob.box (dbox (0 : Nat) k'))] (AV.tup [AV.agg [AV.val (Value.bool true), AV.val (Value.int IntKind.i64 (1 : Int)), AV.val (Value.string kept)], AV.val (Value.int IntKind.i64 (0 : Int))]) [((20 : Nat), some (Ob.box (dbox (0 : Nat) k')))], CallOK Try.prog (52 : Nat) ([] ++ [AV.ifc (170 : Nat) (AV.agg [AV.ptr (20 : Nat) (0 : Nat) (0 : Nat) (0 : Nat), AV.val (Value.int IntKind.i64 (0 : Int)), AV.val (Value.int IntKind.i64 (0 : Int)), AV.val (Value.int IntKind.i64 (↑(30 : Nat) : Int))])] ++ []) [((20 : Nat), Ob.box (dbox (0 : Nat) k'))] (AV.tup [AV.val (Value.int IntKind.i64 (1 : Int)), AV.val (Value.int IntKind.i64 ((↑i : Int) + (2 : Int))), AV.val (Value.int IntKind.i64 (0 : Int))]) [((20 : Nat), some (Ob.box (dbox (0 : Nat) k')))], (decide ¬(↑i : Int) + (2 : Int) = (↑i : Int) + (2 : Int)) = false, inK IntKind.i64 ((↑i : Int) + (1 : Int))]) rfl rfl (by kernel_rfl) ⟨(decide_eq_true h1), (by omega), (by omega), (decide_eq_false h2), (by simp only [inK]; omega), (CallOK.ren c1 [(0, 20)] [0] rfl rfl rfl rfl ⟨rfl, trivial, trivial⟩ rfl ⟨rfl, trivial, trivial⟩), (by simp only [inK]; omega), (CallOK.ren c2 [(0, 20)] [0] rfl rfl rfl rfl ⟨rfl, trivial, trivial⟩ rfl ⟨rfl, trivial, trivial⟩), (CallOK.ren c3 [(0, 20)] [0] rfl rfl rfl rfl ⟨rfl, trivial, trivial⟩ rfl ⟨rfl, trivial, trivial⟩), (decide_eq_false hc1), (by simp only [inK]; omega), trivial⟩ rfl ⟨rfl, fun _ => rfl, rfl, trivial, trivial⟩ ?_
          case' ga0 =>
            refine Safe.ends mixed Try.func12 30 [⟨1100, [(3, .tt true)]⟩, ⟨1200, []⟩, ⟨1300, [(2, .tt false)]⟩, ⟨1400, [(4, .call [20] (I 0) [(20, some (.box (dbox (0 : Nat) k')))])]⟩, ⟨1500, []⟩, ⟨1600, [(1, .call [20] (.tup [.agg [B true, I 1, S kept], I 0]) [(20, some (.box (dbox (0 : Nat) k')))])]⟩, ⟨1700, [(1, .call [20] (.tup [I 1, I ((↑i : Int) + (2 : Int)), I 0]) [(20, some (.box (dbox (0 : Nat) k')))])]⟩, ⟨1800, [(18, .tt true)]⟩, ⟨1900, []⟩] (r := B false) (hp := [(1, .ro 1 T.length (rowG encS T))]) (ob := [decide ((↑i : Int) < (↑T.length : Int)) = true, (0 : Int) ≤ (↑i : Int) ∧ (↑i : Int) < (↑T.length : Int), i < T.length, decide ((↑(T.getD i default).size : Int) > (100 : Int)) = false, inK IntKind.i64 ((↑i : Int) + (2 : Int)), CallOK Try.prog (53 : Nat) ([] ++ [AV.ifc (170 : Nat) (AV.agg [AV.ptr (20 : Nat) (0 : Nat) (0 : Nat) (0 : Nat), AV.val (Value.int IntKind.i64 (0 : Int)), AV.val (Value.int IntKind.i64 (0 : Int)), AV.val (Value.int IntKind.i64 (↑(30 : Nat) : Int))]), AV.val (Value.int IntKind.i64 ((↑i : Int) + (2 : Int))), AV.val (Value.string (T.getD i default))] ++ []) [((20 : Nat), Ob.box (dbox (0 : Nat) k))] (AV.val (Value.int IntKind.i64 (0 : Int))) [((20 : Nat), some (Ob.box (dbox (0 : Nat) k')))], inK IntKind.i64 ((↑i : Int) + (2 : Int)), CallOK Try.prog (50 : Nat) ([] ++ [AV.ifc (170 : Nat) (AV.agg [AV.ptr (20 : Nat) (0 : Nat) (0 : Nat) (0 : Nat), AV.val (Value.int IntKind.i64 (0 : Int)), AV.val (Value.int IntKind.i64 (0 : Int)), AV.val (Value.int IntKind.i64 (↑(30 : Nat) : Int))])] ++ []) [((20 : Nat), Ob.box (dbox (0 : Nat) k'))] (AV.tup [AV.agg [AV.val (Value.bool true), AV.val (Value.int IntKind.i64 (1 : Int)), AV.val (Value.string kept)], AV.val (Value.int IntKind.i64 (0 : Int))]) [((20 : Nat), some (Ob.box (dbox (0 : Nat) k')))], CallOK Try.prog (52 : Nat) ([] ++ [AV.ifc (170 : Nat) (AV.agg [AV.ptr (20 : Nat) (0 : Nat) (0 : Nat) (0 : Nat), AV.val (Value.int IntKind.i64 (0 : Int)), AV.val (Value.int IntKind.i64 (0 : Int)), AV.val (Value.int IntKind.i64 (↑(30 : Nat) : Int))])] ++ []) [((20 : Nat), Ob.box (dbox (0 : Nat) k'))] (AV.tup [AV.val (Value.int IntKind.i64 (1 : Int)), AV.val (Value.int IntKind.i64 ((↑i : Int) + (2 : Int))), AV.val (Value.int IntKind.i64 (0 : Int))]) [((20 : Nat), some (Ob.box (dbox (0 : Nat) k')))], (decide ¬(↑i : Int) + (2 : Int) = (↑i : Int) + (2 : Int)) = true]) rfl (by kernel_rfl) ⟨(decide_eq_true h1), (by omega), (by omega), (decide_eq_false h2), (by simp only [inK]; omega), (CallOK.ren c1 [(0, 20)] [0] rfl rfl rfl rfl ⟨rfl, trivial, trivial⟩ rfl ⟨rfl, trivial, trivial⟩), (by simp only [inK]; omega), (CallOK.ren c2 [(0, 20)] [0] rfl rfl rfl rfl ⟨rfl, trivial, trivial⟩ rfl ⟨rfl, trivial, trivial⟩), (CallOK.ren c3 [(0, 20)] [0] rfl rfl rfl rfl ⟨rfl, trivial, trivial⟩ rfl ⟨rfl, trivial, trivial⟩), (decide_eq_true hc1), trivial⟩ ?_ ⟨ObLe.refl _, trivial⟩ ⟨rfl, fun _ => rfl, trivial⟩ rfl
          · exact absurd rfl hc1
          · exact ihn
        · have h2 : ((T.getD i default).size : Int) > 100 := by omega
          obtain ⟨k', c1, c2, c3, ihn⟩ := key ((T.getD i default).extract 0 100) (by rw [ByteArray.size_extract]; omega)
          refine (Classical.em (¬(↑i : Int) + (2 : Int) = (↑i : Int) + (2 : Int))).elim (fun hc1 => ?ga1) (fun hc1 => ?gb1)
          case' gb1 =>
            refine Safe.goto mixed 32 [⟨1100, [(3, .tt true)]⟩, ⟨1200, []⟩, ⟨1300, [(2, .tt true)]⟩, ⟨1400, []⟩, ⟨1500, [(4, .call [20] (I 0) [(20, some (.box (dbox (0 : Nat) k')))])]⟩, ⟨1600, []⟩, ⟨1700, [(1, .call [20] (.tup [.agg [B true, I 1, S kept], I 0]) [(20, some (.box (dbox (0 : Nat) k')))])]⟩, ⟨1800, [(1, .call [20] (.tup [I 1, I ((↑i : Int) + (2 : Int)), I 0]) [(20, some (.box (dbox (0 : Nat) k')))])]⟩, ⟨1900, [(18, .tt false)]⟩, ⟨2000, []⟩] [0, 4, 5, 6, 7] [1, 20] (todo' := loopAt Try.f12 0) (sl := slotsOf 112 [(0, .sl 1 0 1 T.length none), (4, .ifc 170 (.agg [.ptr 20 0 0 0, I 0, I 0, I ((↑(30 : Nat) : Int))])), (5, S ((T.getD i default).extract (0 : Nat) (100 : Nat))), (6, I ((↑i : Int) + (2 : Int))), (7, I ((↑i : Int) + (1 : Int)))]) (hp := [(1, .ro 1 T.length (rowG encS T)), (20, .box (dbox (0 : Nat) k'))]) (ob := [decide ((↑i : Int) < (↑T.length : Int)) = true, (0 : Int) ≤ (↑i : Int) ∧ (↑i : Int) < (↑T.length : Int), i < T.length, decide ((↑(T.getD i default).size : Int) > (100 : Int)) = true, (0 : Int) ≤ (100 : Int) ∧ (100 : Int) ≤ (↑(T.getD i default).size : Int), inK IntKind.i64 ((↑i : Int) + (2 : Int)), CallOK Try.prog (53 : Nat) ([] ++ [AV.ifc (170 : Nat) (AV.agg [AV.ptr (20 : Nat) (0 : Nat) (0 : Nat) (0 : Nat), AV.val (Value.int IntKind.i64 (0 : Int)), AV.val (Value.int IntKind.i64 (0 : Int)), AV.val (Value.int IntKind.i64 (↑(30 : Nat) : Int))]), AV.val (Value.int IntKind.i64 ((↑i : Int) + (2 : Int))), AV.val (Value.string ((T.getD i default).extract (0 : Nat) (100 : Nat)))] ++ []) [((20 : Nat), Ob.box (dbox (0 : Nat) k))] (AV.val (Value.int IntKind.i64 (0 : Int))) [((20 : Nat), some (Ob.box (dbox (0 : Nat) k')))], inK IntKind.i64 ((↑i : Int) + (2 : Int)), CallOK Try.prog (50 : Nat) ([] ++ [AV.ifc (170 : Nat) (AV.agg [AV.ptr (20 : Nat) (0 : Nat) (0 : Nat) (0 : Nat), AV.val (Value.int IntKind.i64 (0 : Int)), AV.val (Value.int IntKind.i64 (0 : Int)), AV.val (Value.int IntKind.i64 (↑(30 : Nat) : Int))])] ++ []) [((20 : Nat), Ob.box (dbox (0 : Nat) k'))] (AV.tup [AV.agg [AV.val (Value.bool true), AV.val (Value.int IntKind.i64 (1 : Int)), AV.val (Value.string kept)], AV.val (Value.int IntKind.i64 (0 : Int))]) [((20 : Nat), some (Ob.box (dbox (0 : Nat) k')))], CallOK Try.prog (52 : Nat) ([] ++ [AV.ifc (170 : Nat) (AV.agg [AV.ptr (20 : Nat) (0 : Nat) (0 : Nat) (0 : Nat), AV.val (Value.int IntKind.i64 (0 : Int)), AV.val (Value.int IntKind.i64 (0 : Int)), AV.val (Value.int IntKind.i64 (↑(30 : Nat) : Int))])] ++ []) [((20 : Nat), Ob.box (dbox (0 : Nat) k'))] (AV.tup [AV.val (Value.int IntKind.i64 (1 : Int)), AV.val (Value.int IntKind.i64 ((↑i : Int) + (2 : Int))), AV.val (Value.int IntKind.i64 (0 : Int))]) [((20 : Nat), some (Ob.box (dbox (0 : Nat) k')))], (decide ¬(↑i : Int) + (2 : Int) = (↑i : Int) + (2 : Int)) = false, inK IntKind.i64 ((↑i : Int) + (1 : Int))]) rfl rfl (by kernel_rfl) ⟨(decide_eq_true h1), (by omega), (by omega), (decide_eq_true h2), (by omega), (by simp only [inK]; omega), (CallOK.ren c1 [(0, 20)] [0] rfl rfl rfl rfl ⟨rfl, trivial, trivial⟩ rfl ⟨rfl, trivial, trivial⟩), (by simp only [inK]; omega), (CallOK.ren c2 [(0, 20)] [0] rfl rfl rfl rfl ⟨rfl, trivial, trivial⟩ rfl ⟨rfl, trivial, trivial⟩), (CallOK.ren c3 [(0, 20)] [0] rfl rfl rfl rfl ⟨rfl, trivial, trivial⟩ rfl ⟨rfl, trivial, trivial⟩), (decide_eq_false hc1), (by simp only [inK]; omega), trivial⟩ rfl ⟨rfl, fun _ => rfl, rfl, trivial, trivial⟩ ?_
          case' ga1 =>
            refine Safe.ends mixed Try.func12 30 [⟨1100, [(3, .tt true)]⟩, ⟨1200, []⟩, ⟨1300, [(2, .tt true)]⟩, ⟨1400, []⟩, ⟨1500, [(4, .call [20] (I 0) [(20, some (.box (dbox (0 : Nat) k')))])]⟩, ⟨1600, []⟩, ⟨1700, [(1, .call [20] (.tup [.agg [B true, I 1, S kept], I 0]) [(20, some (.box (dbox (0 : Nat) k')))])]⟩, ⟨1800, [(1, .call [20] (.tup [I 1, I ((↑i : Int) + (2 : Int)), I 0]) [(20, some (.box (dbox (0 : Nat) k')))])]⟩, ⟨1900, [(18, .tt true)]⟩, ⟨2000, []⟩] (r := B false) (hp := [(1, .ro 1 T.length (rowG encS T))]) (ob := [decide ((↑i : Int) < (↑T.length : Int)) = true, (0 : Int) ≤ (↑i : Int) ∧ (↑i : Int) < (↑T.length : Int), i < T.length, decide ((↑(T.getD i default).size : Int) > (100 : Int)) = true, (0 : Int) ≤ (100 : Int) ∧ (100 : Int) ≤ (↑(T.getD i default).size : Int), inK IntKind.i64 ((↑i : Int) + (2 : Int)), CallOK Try.prog (53 : Nat) ([] ++ [AV.ifc (170 : Nat) (AV.agg [AV.ptr (20 : Nat) (0 : Nat) (0 : Nat) (0 : Nat), AV.val (Value.int IntKind.i64 (0 : Int)), AV.val (Value.int IntKind.i64 (0 : Int)), AV.val (Value.int IntKind.i64 (↑(30 : Nat) : Int))]), AV.val (Value.int IntKind.i64 ((↑i : Int) + (2 : Int))), AV.val (Value.string ((T.getD i default).extract (0 : Nat) (100 : Nat)))] ++ []) [((20 : Nat), Ob.box (dbox (0 : Nat) k))] (AV.val (Value.int IntKind.i64 (0 : Int))) [((20 : Nat), some (Ob.box (dbox (0 : Nat) k')))], inK IntKind.i64 ((↑i : Int) + (2 : Int)), CallOK Try.prog (50 : Nat) ([] ++ [AV.ifc (170 : Nat) (AV.agg [AV.ptr (20 : Nat) (0 : Nat) (0 : Nat) (0 : Nat), AV.val (Value.int IntKind.i64 (0 : Int)), AV.val (Value.int IntKind.i64 (0 : Int)), AV.val (Value.int IntKind.i64 (↑(30 : Nat) : Int))])] ++ []) [((20 : Nat), Ob.box (dbox (0 : Nat) k'))] (AV.tup [AV.agg [AV.val (Value.bool true), AV.val (Value.int IntKind.i64 (1 : Int)), AV.val (Value.string kept)], AV.val (Value.int IntKind.i64 (0 : Int))]) [((20 : Nat), some (Ob.box (dbox (0 : Nat) k')))], CallOK Try.prog (52 : Nat) ([] ++ [AV.ifc (170 : Nat) (AV.agg [AV.ptr (20 : Nat) (0 : Nat) (0 : Nat) (0 : Nat), AV.val (Value.int IntKind.i64 (0 : Int)), AV.val (Value.int IntKind.i64 (0 : Int)), AV.val (Value.int IntKind.i64 (↑(30 : Nat) : Int))])] ++ []) [((20 : Nat), Ob.box (dbox (0 : Nat) k'))] (AV.tup [AV.val (Value.int IntKind.i64 (1 : Int)), AV.val (Value.int IntKind.i64 ((↑i : Int) + (2 : Int))), AV.val (Value.int IntKind.i64 (0 : Int))]) [((20 : Nat), some (Ob.box (dbox (0 : Nat) k')))], (decide ¬(↑i : Int) + (2 : Int) = (↑i : Int) + (2 : Int)) = true]) rfl (by kernel_rfl) ⟨(decide_eq_true h1), (by omega), (by omega), (decide_eq_true h2), (by omega), (by simp only [inK]; omega), (CallOK.ren c1 [(0, 20)] [0] rfl rfl rfl rfl ⟨rfl, trivial, trivial⟩ rfl ⟨rfl, trivial, trivial⟩), (by simp only [inK]; omega), (CallOK.ren c2 [(0, 20)] [0] rfl rfl rfl rfl ⟨rfl, trivial, trivial⟩ rfl ⟨rfl, trivial, trivial⟩), (CallOK.ren c3 [(0, 20)] [0] rfl rfl rfl rfl ⟨rfl, trivial, trivial⟩ rfl ⟨rfl, trivial, trivial⟩), (decide_eq_true hc1), trivial⟩ ?_ ⟨ObLe.refl _, trivial⟩ ⟨rfl, fun _ => rfl, trivial⟩ rfl
          · exact absurd rfl hc1
          · exact ihn
      · have h1 : ¬ (i : Int) < (T.length : Int) := by omega
        obtain ⟨k1, v1, c1, q1, vw1, a1', b1⟩ := switch_q0 0 q (by omega) (by omega) (show 28 + 2 = 30 by omega) vw a0 _ a1
        have c3 : CallOK Try.prog 50 [spn 30] [(0, .box (dbox 0 k1))] (.tup [cpy true ((i : Int) + 1) (S l), I 0]) [(0, some (.box (dbox 0 k1)))] := read_q 0 q1 (by omega) (show 28 + 2 = 30 by omega) vw1 a1'
        clear q vw a0 a1 ih ar c2 ok0 q1 vw1 a1' b1
        refine (Classical.em ((true == true && (decide ((↑i : Int) + (1 : Int) = (↑i : Int) + (1 : Int)) && (decide (l = l) && true))) = true)).elim (fun hc1 => ?ga2) (fun hc1 => ?gb2)
        case' gb2 =>
          refine Safe.ends mixed Try.func12 14 [⟨1100, [(3, .tt false)]⟩, ⟨1200, [(1, .call [20] (I 0) [(20, some (.box (dbox (0 : Nat) k1)))])]⟩, ⟨1300, [(1, .call [20] (.tup [.agg [B true, I ((↑i : Int) + (1 : Int)), S l], I 0]) [(20, some (.box (dbox (0 : Nat) k1)))])]⟩, ⟨1400, [(7, .tt false)]⟩] (r := B false) (hp := [(1, .ro 1 T.length (rowG encS T))]) (ob := [decide ((↑i : Int) < (↑T.length : Int)) = false, CallOK Try.prog (54 : Nat) ([] ++ [AV.ifc (170 : Nat) (AV.agg [AV.ptr (20 : Nat) (0 : Nat) (0 : Nat) (0 : Nat), AV.val (Value.int IntKind.i64 (0 : Int)), AV.val (Value.int IntKind.i64 (0 : Int)), AV.val (Value.int IntKind.i64 (↑(30 : Nat) : Int))])] ++ []) [((20 : Nat), Ob.box (dbox (0 : Nat) k))] (AV.val (Value.int IntKind.i64 (0 : Int))) [((20 : Nat), some (Ob.box (dbox (0 : Nat) k1)))], CallOK Try.prog (50 : Nat) ([] ++ [AV.ifc (170 : Nat) (AV.agg [AV.ptr (20 : Nat) (0 : Nat) (0 : Nat) (0 : Nat), AV.val (Value.int IntKind.i64 (0 : Int)), AV.val (Value.int IntKind.i64 (0 : Int)), AV.val (Value.int IntKind.i64 (↑(30 : Nat) : Int))])] ++ []) [((20 : Nat), Ob.box (dbox (0 : Nat) k1))] (AV.tup [AV.agg [AV.val (Value.bool true), AV.val (Value.int IntKind.i64 ((↑i : Int) + (1 : Int))), AV.val (Value.string l)], AV.val (Value.int IntKind.i64 (0 : Int))]) [((20 : Nat), some (Ob.box (dbox (0 : Nat) k1)))], (true == true && (decide ((↑i : Int) + (1 : Int) = (↑i : Int) + (1 : Int)) && (decide (l = l) && true))) = false]) rfl (by kernel_rfl) ⟨(decide_eq_false h1), (CallOK.ren c1 [(0, 20)] [0] rfl rfl rfl rfl ⟨rfl, trivial, trivial⟩ rfl ⟨rfl, trivial, trivial⟩), (CallOK.ren c3 [(0, 20)] [0] rfl rfl rfl rfl ⟨rfl, trivial, trivial⟩ rfl ⟨rfl, trivial, trivial⟩), (by simpa using hc1), trivial⟩ ?_ ⟨ObLe.refl _, trivial⟩ ⟨rfl, fun _ => rfl, trivial⟩ rfl
        case' ga2 =>
          refine Safe.ends mixed Try.func12 14 [⟨1100, [(3, .tt false)]⟩, ⟨1200, [(1, .call [20] (I 0) [(20, some (.box (dbox (0 : Nat) k1)))])]⟩, ⟨1300, [(1, .call [20] (.tup [.agg [B true, I ((↑i : Int) + (1 : Int)), S l], I 0]) [(20, some (.box (dbox (0 : Nat) k1)))])]⟩, ⟨1400, [(7, .tt true), (10, .call [] (B true) [])]⟩] (r := B true) (hp := [(1, .ro 1 T.length (rowG encS T))]) (ob := [decide ((↑i : Int) < (↑T.length : Int)) = false, CallOK Try.prog (54 : Nat) ([] ++ [AV.ifc (170 : Nat) (AV.agg [AV.ptr (20 : Nat) (0 : Nat) (0 : Nat) (0 : Nat), AV.val (Value.int IntKind.i64 (0 : Int)), AV.val (Value.int IntKind.i64 (0 : Int)), AV.val (Value.int IntKind.i64 (↑(30 : Nat) : Int))])] ++ []) [((20 : Nat), Ob.box (dbox (0 : Nat) k))] (AV.val (Value.int IntKind.i64 (0 : Int))) [((20 : Nat), some (Ob.box (dbox (0 : Nat) k1)))], CallOK Try.prog (50 : Nat) ([] ++ [AV.ifc (170 : Nat) (AV.agg [AV.ptr (20 : Nat) (0 : Nat) (0 : Nat) (0 : Nat), AV.val (Value.int IntKind.i64 (0 : Int)), AV.val (Value.int IntKind.i64 (0 : Int)), AV.val (Value.int IntKind.i64 (↑(30 : Nat) : Int))])] ++ []) [((20 : Nat), Ob.box (dbox (0 : Nat) k1))] (AV.tup [AV.agg [AV.val (Value.bool true), AV.val (Value.int IntKind.i64 ((↑i : Int) + (1 : Int))), AV.val (Value.string l)], AV.val (Value.int IntKind.i64 (0 : Int))]) [((20 : Nat), some (Ob.box (dbox (0 : Nat) k1)))], (true == true && (decide ((↑i : Int) + (1 : Int) = (↑i : Int) + (1 : Int)) && (decide (l = l) && true))) = true, CallOK Try.prog (41 : Nat) ([] ++ [] ++ []) [] (AV.val (Value.bool true)) []]) rfl (by kernel_rfl) ⟨(decide_eq_false h1), (CallOK.ren c1 [(0, 20)] [0] rfl rfl rfl rfl ⟨rfl, trivial, trivial⟩ rfl ⟨rfl, trivial, trivial⟩), (CallOK.ren c3 [(0, 20)] [0] rfl rfl rfl rfl ⟨rfl, trivial, trivial⟩ rfl ⟨rfl, trivial, trivial⟩), hc1, aw, trivial⟩ rfl ⟨ObLe.refl _, trivial⟩ ⟨rfl, fun _ => rfl, trivial⟩ rfl
        all_goals exact absurd (by simp) hc1
    · intro H
      have H0 := H _ ok0
      dsimp only at H0
      clear ok0 H
      refine Safe.goto mixed 21 [⟨1100, []⟩, ⟨1200, [(2, .tt false)]⟩, ⟨1300, [(1, .call [1300] (.tup [.ptr 1355 0 0 0, .ifc 170 (.agg [.ptr 1355 0 0 0, I 0, I 0, I ((↑(30 : Nat) : Int))])]) [(1355, some (.box (dbox (0 : Nat) k0)))])]⟩, ⟨1400, [(4, .call [1355] (I 0) [(1355, some (.box (dbox (0 : Nat) k1)))]), (9, .call [1355] (I 0) [(1355, some (.box (dbox (0 : Nat) k2)))])]⟩, ⟨1500, []⟩, ⟨1600, []⟩] [0, 4, 5, 6, 7] [1, 1355] (todo' := loopAt Try.f12 0) (sl := slotsOf 112 [(0, .sl 1 0 1 T.length none), (4, .ifc 170 (.agg [.ptr 1355 0 0 0, I 0, I 0, I ((↑(30 : Nat) : Int))])), (5, S (ByteArray.mk #[(107 : UInt8), (101 : UInt8), (112 : UInt8), (116 : UInt8)])), (6, I 1), (7, I 0)]) (hp := [(1, .ro 1 T.length (rowG encS T)), (1355, .box (dbox (0 : Nat) k2))]) (ob := [decide ((↑T.length : Int) > (12 : Int)) = false, (0 : Int) ≤ (30 : Int) ∧ (30 : Int) ≤ (30 : Int) ∧ (30 : Int) ≤ (1099511627776 : Int), CallOK Try.prog (48 : Nat) ([] ++ [AV.sl (1300 : Nat) (0 : Nat) (1 : Nat) (30 : Nat) none] ++ []) [((1300 : Nat), Ob.vec (22 : Nat) (1 : Nat) (30 : Nat) fun x => List.map AV.val (Value.int IntKind.u64 (0 : Int)).cells.toList)] (AV.tup [AV.ptr (1355 : Nat) (0 : Nat) (0 : Nat) (0 : Nat), AV.ifc (170 : Nat) (AV.agg [AV.ptr (1355 : Nat) (0 : Nat) (0 : Nat) (0 : Nat), AV.val (Value.int IntKind.i64 (0 : Int)), AV.val (Value.int IntKind.i64 (0 : Int)), AV.val (Value.int IntKind.i64 (↑(30 : Nat) : Int))])]) [((1355 : Nat), some (Ob.box (dbox (0 : Nat) k0)))], CallOK Try.prog (53 : Nat) ([] ++ [AV.ifc (170 : Nat) (AV.agg [AV.ptr (1355 : Nat) (0 : Nat) (0 : Nat) (0 : Nat), AV.val (Value.int IntKind.i64 (0 : Int)), AV.val (Value.int IntKind.i64 (0 : Int)), AV.val (Value.int IntKind.i64 (↑(30 : Nat) : Int))]), ofV (Value.int IntKind.i64 (1 : Int)), ofV (Value.string (ByteArray.mk #[(107 : UInt8), (101 : UInt8), (112 : UInt8), (116 : UInt8)]))] ++ []) [((1355 : Nat), Ob.box (dbox (0 : Nat) k0))] (AV.val (Value.int IntKind.i64 (0 : Int))) [((1355 : Nat), some (Ob.box (dbox (0 : Nat) k1)))], CallOK Try.prog (54 : Nat) ([] ++ [AV.ifc (170 : Nat) (AV.agg [AV.ptr (1355 : Nat) (0 : Nat) (0 : Nat) (0 : Nat), AV.val (Value.int IntKind.i64 (0 : Int)), AV.val (Value.int IntKind.i64 (0 : Int)), AV.val (Value.int IntKind.i64 (↑(30 : Nat) : Int))])] ++ []) [((1355 : Nat), Ob.box (dbox (0 : Nat) k1))] (AV.val (Value.int IntKind.i64 (0 : Int))) [((1355 : Nat), some (Ob.box (dbox (0 : Nat) k2)))]]) rfl rfl (by kernel_rfl) ⟨(decide_eq_false qL), (by omega), (CallOK.ren ar [(1, 1300), (10, 1355)] [1, 10] rfl rfl rfl rfl ⟨rfl, fun _ => rfl, trivial⟩ rfl ⟨rfl, fun _ => rfl, rfl, trivial, trivial⟩), (CallOK.ren c1 [(0, 1355)] [0] rfl rfl rfl rfl ⟨rfl, trivial, trivial⟩ rfl ⟨rfl, trivial, trivial⟩), (CallOK.ren c2 [(0, 1355)] [0] rfl rfl rfl rfl ⟨rfl, trivial, trivial⟩ rfl ⟨rfl, trivial, trivial⟩), trivial⟩ rfl ⟨rfl, fun _ => rfl, rfl, trivial, trivial⟩ ?_
      refine Safe.ren [(1355, 20)] rfl rfl rfl rfl ⟨rfl, fun _ => rfl, rfl, trivial, trivial⟩ ?_
      all_goals exact H0
  · have qL : (T.length : Int) > 12 := by omega
    refine Safe.ends mixed Try.func12 8 [⟨1100, []⟩, ⟨1200, [(2, .tt true)]⟩, ⟨1300, [(0, .call [] (B true) [])]⟩] (r := B true) (hp := [(1, .ro 1 T.length (rowG encS T))]) (ob := [decide ((↑T.length : Int) > (12 : Int)) = true, CallOK Try.prog (41 : Nat) ([] ++ [] ++ []) [] (AV.val (Value.bool true)) []]) rfl (by kernel_rfl) ⟨(decide_eq_true qL), aw, trivial⟩ rfl ⟨ObLe.refl _, trivial⟩ ⟨rfl, fun _ => rfl, trivial⟩ rfl
end Go.Proofs.Ytbgbjgedjmhcaaa
