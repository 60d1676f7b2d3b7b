/- Tables: targets as data; the end of a table. -/
import Derived.Test.YtcomimabihbfgaaSyU
import Derived.KernelRfl
import Derived.Test.YtcomimabihbfgaaProg
namespace Go.Proofs.Ytcomimabihbfgaa
open Go.RowKit
set_option linter.unusedVariables false
/-- a target -/
structure Tg where
  start : Int
  length : Int
  on : ByteArray
  offset : Int
  fail : Bool
def encT (t : Tg) : List AV := [I t.start, I t.length, S t.on, I t.offset, B t.fail]
instance : Inhabited Tg := ⟨⟨0, 0, ByteArray.empty, 0, false⟩⟩
def getT (L : List Tg) (q : Nat) : Tg := L.getD q default
def rowT (L : List Tg) : Nat → List AV := fun q => encT (getT L q)
def endF (L : List Tg) : Int := if L.length = 0 then 0 else (getT L (L.length - 1)).start + (getT L (L.length - 1)).length
theorem mixed : Try.prog.follows .mixedOrders = true := by kernel_rfl
theorem getT_mem (L : List Tg) (q : Nat) (h : q < L.length) : getT L q ∈ L := by
  unfold getT
  rw [List.getD_eq_getElem?_getD, List.getElem?_eq_getElem h]
  exact List.getElem_mem h
set_option maxRecDepth 10000 in
theorem end_any (L : List Tg) (hb : ∀ t ∈ L, 0 ≤ t.start ∧ t.start ≤ 2000000000 ∧ 0 ≤ t.length ∧ t.length ≤ 2000000000) (hl : L.length ≤ 1000) : CallOK Try.prog 36 [.sl 0 0 5 L.length none] [(0, .ro 5 L.length (rowT L))] (I (endF L)) [] := by
  refine CallOK.intro Try.call36 Try.func36 rfl rfl ⟨rfl, fun _ => rfl, trivial⟩ ?_
  have hg : L.length ≠ 0 → 0 ≤ (getT L ((L.length : Int) - 1).toNat).start ∧ (getT L ((L.length : Int) - 1).toNat).start ≤ 2000000000 ∧ 0 ≤ (getT L ((L.length : Int) - 1).toNat).length ∧ (getT L ((L.length : Int) - 1).toNat).length ≤ 2000000000 := fun h => hb _ (getT_mem L _ (by omega))
  refine (Classical.em ((↑L.length : Int) = (0 : Int))).elim (fun hc1 => ?ga0) (fun hc1 => ?gb0)
  case' gb0 =>
    refine Safe.ends mixed Go.Proofs.Try.func36 11 [⟨1100, []⟩, ⟨1200, [(2, .tt false)]⟩, ⟨1300, []⟩, ⟨1400, []⟩] (r := I ((getT L ((↑L.length : Int) - (1 : Int)).toNat).start + (getT L ((↑L.length : Int) - (1 : Int)).toNat).length)) (hp := [(0, .ro ((5 : Nat)) (L.length) (rowT L))]) (ob := [decide ((↑L.length : Int) = (0 : Int)) = false, inK IntKind.i64 ((↑L.length : Int) - (1 : Int)), (0 : Int) ≤ (↑L.length : Int) - (1 : Int) ∧ (↑L.length : Int) - (1 : Int) < (↑L.length : Int), ((↑L.length : Int) - (1 : Int)).toNat < L.length, inK IntKind.i64 ((getT L ((↑L.length : Int) - (1 : Int)).toNat).start + (getT L ((↑L.length : Int) - (1 : Int)).toNat).length)]) rfl (by kernel_rfl) ⟨(decide_eq_false hc1), (by simp only [inK]; omega), (by omega), (by omega), (by simp only [inK]; omega), trivial⟩ ?_ ⟨ObLe.refl _, trivial⟩ ⟨rfl, fun _ => rfl, trivial⟩ rfl
  case' ga0 =>
    refine Safe.ends mixed Go.Proofs.Try.func36 8 [⟨1100, []⟩, ⟨1200, [(2, .tt true)]⟩, ⟨1300, []⟩] (r := I ((0 : Int))) (hp := [(0, .ro ((5 : Nat)) (L.length) (rowT L))]) (ob := [decide ((↑L.length : Int) = (0 : Int)) = true]) rfl (by kernel_rfl) ⟨(decide_eq_true hc1), trivial⟩ ?_ ⟨ObLe.refl _, trivial⟩ ⟨rfl, fun _ => rfl, trivial⟩ rfl
  · unfold endF; rw [if_pos (by omega)]; rfl
  · unfold endF
    rw [if_neg (by omega), show ((L.length : Int) - 1).toNat = L.length - 1 by omega]; rfl
end Go.Proofs.Ytcomimabihbfgaa
