/- built as a pure function. -/
import Derived.Test.YtcomimabihbfgaaSyV
import Derived.KernelRfl
import Derived.Test.YtcomimabihbfgaaSyV
import Derived.Test.YtcomimabihbfgaaTr
namespace Go.Proofs.Ytcomimabihbfgaa
open Go.RowKit
set_option linter.unusedVariables false
set_option linter.unnecessarySimpa false
def s0B (p : Nat) : BS := ⟨p, 0, 0, []⟩
theorem rounds_bd (z : List Int) (m p : Nat) (hp : p ≤ m) : ∀ k, (roundsB z m (s0B p) k).p ≤ m ∧ 0 ≤ (roundsB z m (s0B p) k).st ∧ (roundsB z m (s0B p) k).st ≤ 5 * k ∧ 0 ≤ (roundsB z m (s0B p) k).en ∧ (roundsB z m (s0B p) k).en ≤ 13 + 5 * k ∧ (roundsB z m (s0B p) k).acc.length = k
  | 0 => ⟨hp, by simp [roundsB, s0B], by simp [roundsB, s0B], by simp [roundsB, s0B], by simp [roundsB, s0B], rfl⟩
  | k + 1 => by
    obtain ⟨h1, h2, h3, h4, h5, h6⟩ := rounds_bd z m p hp k
    simp only [roundsB]
    generalize roundsB z m (s0B p) k = s at *
    have b1 := nV_bd z m s.p 5 (by omega)
    have c1 := nA_bd m s.p 5 h1
    have c2 := nA_bd m (nA m s.p 5) 5 c1.2
    have c3 := nA_bd m (nA m (nA m s.p 5) 5) 3 c2.2
    have c4 := nA_bd m (nA m (nA m (nA m s.p 5) 5) 3) 9 c3.2
    have c5 := nA_bd m (nA m (nA m (nA m (nA m s.p 5) 5) 3) 9) 2 c4.2
    have b2 := nV_bd z m (nA m (nA m (nA m s.p 5) 5) 3) 9 (by omega)
    unfold stepB
    dsimp only
    split
    · refine ⟨c2.2, ?_, ?_, ?_, ?_, by simp [h6]⟩ <;> dsimp only <;> omega
    · split
      · refine ⟨c2.2, ?_, ?_, ?_, ?_, by simp [h6]⟩ <;> dsimp only <;> omega
      · split
        · refine ⟨c5.2, ?_, ?_, ?_, ?_, by simp [h6]⟩ <;> dsimp only <;> omega
        · refine ⟨c5.2, ?_, ?_, ?_, ?_, by simp [h6]⟩ <;> dsimp only <;> omega
/-- the change of a target -/
def chgT (z : List Int) (m p : Nat) (t : Tg) (c : Int) : Tg :=
  if c = 0 then ⟨t.start + 1, t.length, t.on, t.offset, t.fail⟩
  else if c = 1 then ⟨t.start, picks1.getD (nV z m p 4).toNat default, t.on, t.offset, t.fail⟩
  else if c = 2 then ⟨t.start, t.length, t.on, t.offset, !t.fail⟩
  else if c = 3 then ⟨t.start, t.length, t.on, picks2.getD (nV z m p 4).toNat default, t.fail⟩
  else if c = 4 then ⟨t.start, t.length, { data := #[] }, t.offset, t.fail⟩
  else t
def chgP (m p : Nat) (c : Int) : Nat := if c = 1 ∨ c = 3 then nA m p 4 else p
def endB (z : List Int) (m : Nat) (s : BS) : List Tg × Nat :=
  if s.acc.length = 0 then (s.acc, s.p)
  else if nV z m s.p 6 ≠ 0 then (s.acc, nA m s.p 6)
  else
    let p1 := nA m s.p 6
    let i := (nV z m p1 s.acc.length).toNat
    let p2 := nA m p1 s.acc.length
    let p3 := nA m p2 5
    (s.acc.set i (chgT z m p3 (getT s.acc i) (nV z m p2 5)), chgP m p3 (nV z m p2 5))
def builtF (z : List Int) (m p : Nat) : List Tg × Nat := endB z m (roundsB z m (s0B (nA m p 8)) (nV z m p 8).toNat)
end Go.Proofs.Ytcomimabihbfgaa
