/- Space maps in memory: two rows of counts behind a block. No conditions but those of each theorem. -/
import Derived.Test.YtablogkafbajaaaRows
import Derived.WalkKit
import Derived.ProofKit
import Derived.OpenShut
import Derived.LoopTactic
import Derived.Outline
import Derived.Below
import Derived.WalkLawsBesides
import Derived.WalkSpells
import Derived.Deep.QuietTactic
import Derived.BigQuiet
import Derived.Laws.BitsAllLaws
import Derived.Laws.OwnMore
import Derived.Laws.AppendOwn
import Derived.Laws.CopyOwn
import Derived.OwnWalk
import Derived.Lib.SmallJoins
import Derived.StillTailTactics
import Derived.Lib.Slices
import Derived.Lib.Walk
namespace Go.Proofs.Ytablogkafbajaaa
open Go.ChangeShapes Go.WideShapes Go.ChangeAt Go.RowKit
set_option linter.unusedVariables false
set_option linter.unusedSimpArgs false

theorem hid {p : Prop} (h : p) : Hid p := h
theorem bt {W a b : World} (h : Below W.heap.size W a) (k : Below a.heap.size a b) : Below W.heap.size W b := h.trans (k.mono h.size)
theorem bdn (k : Nat) (w : World) (n : Nat) : Below k w (w.drewN n) := ⟨rfl, rfl, rfl, Nat.le_refl _, fun _ _ => rfl⟩
theorem grown_drewN (W : World) (n : Nat) (row : Option Nat) : W.grownBy (W.drewN n) row := ⟨rfl, rfl, rfl, Nat.le_refl _, fun _ _ _ => rfl⟩
theorem grown_trans {A B C : World} {row : Option Nat} (h : A.grownBy B row) (k : B.grownBy C row) : A.grownBy C row :=
  ⟨k.os.trans h.os, k.tape.trans h.tape, k.output.trans h.output, Nat.le_trans h.size k.size, fun i hi hne => (k.block i (Nat.lt_of_lt_of_le hi h.size) hne).trans (h.block i hi hne)⟩
theorem grown_cell (W : World) (B off : Nat) (v : Value) : W.grownBy (W.setCell ⟨B, off, none⟩ v) (some B) :=
  ⟨rfl, rfl, rfl, by simp, fun i _ hne => heap_setCell_other _ _ _ _ (fun e => hne (by rw [e]))⟩
theorem grown_row {A B : World} (h : A.grownBy B none) (row : Option Nat) : A.grownBy B row :=
  ⟨h.os, h.tape, h.output, h.size, fun i hi hne => h.block i hi (fun e => by cases e)⟩
theorem grown_below {A B : World} (h : Below A.heap.size A B) : A.grownBy B none :=
  ⟨h.os, h.tape, h.output, h.size, fun i hi _ => h.block i hi⟩
theorem below_grown {A B : World} (h : A.grownBy B none) : Below A.heap.size A B :=
  ⟨h.os, h.tape, h.output, h.size, fun i hi => h.block i hi (fun e => by cases e)⟩

/-- element j, or 0 -/
def ge (X : List Int) (j : Nat) : Int := X[j]?.getD 0
/-- integers as cells -/
def vi (X : List Int) : List Value := X.map (.int .i64)
theorem vi_len (X : List Int) : (vi X).length = X.length := by simp [vi]
theorem vi_at (X : List Int) (j : Nat) (h : j < X.length) : (vi X)[j]? = some (.int .i64 (ge X j)) := by
  simp [vi, ge, List.getElem?_eq_getElem h]
theorem vi_set (X : List Int) (j : Nat) (x : Int) : (vi X).set j (.int .i64 x) = vi (X.set j x) := by
  simp [vi, List.map_set]
theorem one_vi (X : List Int) : ∀ u ∈ vi X, u.oneCell' = true := by
  intro u hu
  obtain ⟨x, _, rfl⟩ := List.mem_map.1 hu
  rfl
/-- a row of integers of the call's own, at the head of block g -/
def Row (w : World) (g cap : Nat) (X : List Int) : Prop := w.ownsRow 0 3 1 (.slice (some ⟨g, 0, none⟩) X.length cap) X.length (vi X)
theorem Row.lt {w : World} {g cap : Nat} {X : List Int} (h : Row w g cap X) : g < w.heap.size := (World.ownsRow.lt h g rfl).2
theorem Row.at {w : World} {g cap : Nat} {X : List Int} (h : Row w g cap X) (j : Nat) (hj : j < X.length) : w.cell? ⟨g, j, none⟩ = some (.int .i64 (ge X j)) := by
  rw [World.ownsRow.cellAt h j (by omega), vi_at X j hj]
theorem Row.frozen {w : World} {g cap : Nat} {X : List Int} (h : Row w g cap X) (j : Nat) : w.frozen? ⟨g, j, none⟩ = false := World.ownsRow.frozenAt h j
theorem Row.set {w : World} {g cap : Nat} {X : List Int} (h : Row w g cap X) (j : Nat) (x : Int) : Row (w.setCell ⟨g, j, none⟩ (.int .i64 x)) g cap (X.set j x) := by
  have h1 := (World.ownsRow.stored h j (.int .i64 x)).1
  unfold Row
  rw [List.length_set, ← vi_set]
  exact h1
theorem Row.kept {w w' : World} {g cap : Nat} {X : List Int} {row : Option Nat} (h : Row w g cap X) (hg : w.grownBy w' row) (hne : some g ≠ row) : Row w' g cap X :=
  World.ownsRow.kept h hg (.inr hne)

/-- counts of blocks: so many, and from 0 to 65535 -/
structure Cnt (X : List Int) : Prop where
  pos : 1 ≤ X.length
  big : X.length ≤ 16384
  val : ∀ j, j < X.length → 0 ≤ ge X j ∧ ge X j ≤ 65535
theorem Cnt.set {X : List Int} (h : Cnt X) (k : Nat) (x : Int) (h0 : 0 ≤ x) (h1 : x ≤ 65535) : Cnt (X.set k x) := by
  refine ⟨by simpa using h.pos, by simpa using h.big, fun j hj => ?_⟩
  have hj' : j < X.length := by simpa using hj
  have := h.val j hj'
  unfold ge at *
  rw [List.getElem?_set]
  by_cases e : k = j
  · subst e; rw [if_pos rfl, if_pos hj']; exact ⟨h0, h1⟩
  · rw [if_neg e]; exact this
/-- a space map: block M holds the slices of two rows -/
structure SM (ty : TypeId) (W : World) (M a ca b cb : Nat) (X Y : List Int) : Prop where
  blk : W.heap[M]? = some (.cells #[.slice (some ⟨a, 0, none⟩) X.length ca, .slice (some ⟨b, 0, none⟩) Y.length cb] ty (0, 0))
  ra : Row W a ca X
  rb : Row W b cb Y
  cx : Cnt X
  cy : Cnt Y
  len : Y.length = X.length
  na : M ≠ a
  nb : M ≠ b
  ab : a ≠ b
theorem SM.c0 {ty : TypeId} {W : World} {M a ca b cb : Nat} {X Y : List Int} (h : SM ty W M a ca b cb X Y) : W.cell? ⟨M, 0, none⟩ = some (.slice (some ⟨a, 0, none⟩) X.length ca) := by
  rw [cell_of_row _ _ _ _ _ _ h.blk]; rfl
theorem SM.c1 {ty : TypeId} {W : World} {M a ca b cb : Nat} {X Y : List Int} (h : SM ty W M a ca b cb X Y) : W.cell? ⟨M, 1, none⟩ = some (.slice (some ⟨b, 0, none⟩) X.length cb) := by
  rw [cell_of_row _ _ _ _ _ _ h.blk, ← h.len]; rfl
theorem SM.lt {ty : TypeId} {W : World} {M a ca b cb : Nat} {X Y : List Int} (h : SM ty W M a ca b cb X Y) : M < W.heap.size := (Array.getElem?_eq_some_iff.1 h.blk).1
theorem SM.kept {ty : TypeId} {W W' : World} {M a ca b cb : Nat} {X Y : List Int} {row : Option Nat} (h : SM ty W M a ca b cb X Y) (hg : W.grownBy W' row) (h1 : some M ≠ row) (h2 : some a ≠ row) (h3 : some b ≠ row) : SM ty W' M a ca b cb X Y :=
  ⟨(hg.block M h.lt h1).trans h.blk, h.ra.kept hg h2, h.rb.kept hg h3, h.cx, h.cy, h.len, h.na, h.nb, h.ab⟩
/-- a store into the first row -/
theorem SM.set {ty : TypeId} {W : World} {M a ca b cb : Nat} {X Y : List Int} (h : SM ty W M a ca b cb X Y) (j : Nat) (x : Int) (h0 : 0 ≤ x) (h1 : x ≤ 65535) : SM ty (W.setCell ⟨a, j, none⟩ (.int .i64 x)) M a ca b cb (X.set j x) Y := by
  have hg := grown_cell W a j (.int .i64 x)
  refine ⟨?_, h.ra.set j x, h.rb.kept hg (fun e => h.ab (Option.some.inj e).symm), h.cx.set j x h0 h1, h.cy, by rw [List.length_set]; exact h.len, h.na, h.nb, h.ab⟩
  rw [List.length_set]
  exact (hg.block M h.lt (fun e => h.na (Option.some.inj e))).trans h.blk

/-- a count, or 0 -/
def gt (X : List Int) (b : Int) : Int := if 0 ≤ b ∧ b < (X.length : Int) then ge X b.toNat else 0
set_option maxHeartbeats 4000000 in
theorem has_ok (M k a ca n : Nat) (b : Int) (W : World) (hn : n ≤ 16384) (hc : W.cell? ⟨M, k, none⟩ = some (.slice (some ⟨a, 0, none⟩) n ca)) :
    Calls Try.prog 47 #[.pointer (some ⟨M, k, none⟩), .int .i64 b] W fun e W' => e = .returned (.bool (decide (0 ≤ b) && decide (b < (n : Int)))) ∧ Below W.heap.size W W' := by
  by_cases h0 : 0 ≤ b
  · by_cases h1 : b < (n : Int)
    · rw [decide_eq_true h0, decide_eq_true h1]
      go_enter Try.func47, Try.ntmps47
      go_wp2_with fail
      go_ret
      exact ⟨rfl, Below.refl _ _⟩
    · rw [decide_eq_true h0, decide_eq_false h1]
      go_enter Try.func47, Try.ntmps47
      go_wp2_with fail
      go_ret
      exact ⟨rfl, Below.refl _ _⟩
  · rw [decide_eq_false h0]
    go_enter Try.func47, Try.ntmps47
    go_wp2_with fail
    go_ret
    exact ⟨rfl, Below.refl _ _⟩
set_option maxHeartbeats 4000000 in
theorem get_ok (M k a ca : Nat) (X : List Int) (b : Int) (W : World) (hn : X.length ≤ 16384) (hc : W.cell? ⟨M, k, none⟩ = some (.slice (some ⟨a, 0, none⟩) X.length ca)) (hR : Row W a ca X) :
    Calls Try.prog 43 #[.pointer (some ⟨M, k, none⟩), .int .i64 b] W fun e W' => e = .returned (.int .i64 (gt X b)) ∧ Below W.heap.size W W' := by
  have HH := hid (has_ok M k a ca X.length b W hn hc)
  have HC := hid hc
  have HL := hid (block_lt_of_cell hc)
  have HR := hid hR
  clear hc hR
  by_cases h : 0 ≤ b ∧ b < (X.length : Int)
  · obtain ⟨j, rfl⟩ : ∃ j : Nat, b = j := ⟨b.toNat, by omega⟩
    have hj : j < X.length := by omega
    have HG := hid (show gt X (j : Int) = ge X j by unfold gt; rw [if_pos h]; rfl)
    rw [decide_eq_true h.1, decide_eq_true h.2] at HH
    generalize gt X (j : Int) = res at *
    go_enter Try.func43, Try.ntmps43
    go_wp2_with fail
    refine HH.out.mono ?_
    rintro e w1 ⟨rfl, hb1⟩
    have HB1 := hid hb1
    have c0 := (hb1.cell (p := ⟨M, k, none⟩) HL.out).trans HC.out
    have c1 := (hb1.cell (p := ⟨a, j, none⟩) HR.out.lt).trans (HR.out.at j hj)
    clear hb1
    go_wp2_with fail
    go_ret
    exact ⟨by rw [HG.out]; rfl, HB1.out⟩
  · have HG := hid (show gt X b = 0 by unfold gt; rw [if_neg h])
    have hd : (decide (0 ≤ b) && decide (b < (X.length : Int))) = false := by
      rw [Bool.and_eq_false_iff]
      by_cases h0 : 0 ≤ b
      · right; exact decide_eq_false (fun h1 => h ⟨h0, h1⟩)
      · left; exact decide_eq_false h0
    rw [hd] at HH
    generalize gt X b = res at *
    go_enter Try.func43, Try.ntmps43
    go_wp2_with fail
    refine HH.out.mono ?_
    rintro e w1 ⟨rfl, hb1⟩
    have HB1 := hid hb1
    clear hb1
    go_wp2_with fail
    go_ret
    exact ⟨by rw [HG.out]; rfl, HB1.out⟩
end Go.Proofs.Ytablogkafbajaaa
