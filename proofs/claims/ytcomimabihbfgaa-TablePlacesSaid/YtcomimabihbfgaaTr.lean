/- Src: built (in work). -/
import Derived.Test.YtcomimabihbfgaaSyV
import Derived.KernelRfl
import Derived.Test.YtcomimabihbfgaaSyV
import Derived.Test.YtcomimabihbfgaaTq
namespace Go.Proofs.Ytcomimabihbfgaa
open Go.RowKit
set_option linter.unusedVariables false
set_option linter.unnecessarySimpa false
def wordsB : List ByteArray := [{ data := #[97] }, { data := #[97] }, { data := #[98] }]
theorem word_lit (z : List Int) (m p : Nat) (hm : m ≤ 1000) (hz : m ≤ z.length) (hp : p ≤ m) : CallOK Try.prog 34 [.ptr 0 0 0 0, .sl 2 0 1 3 none] [(0, .blk 57 [.sl 1 0 1 m none, I p]), (1, .ro 1 z.length (rowG encI z)), (2, .ro 1 3 (rowsOf [S { data := #[97] }, S { data := #[97] }, S { data := #[98] }] 1))] (S (wordsB.getD (nV z m p 3).toNat default)) [(0, some (.blk 57 [.sl 1 0 1 m none, I (nA m p 3)]))] := by
  refine (word_any z m p wordsB hm hz hp (by decide)).sim fun id => ?_
  simp only [find]
  split
  · exact OSim.refl _
  · split
    · exact OSim.refl _
    · split
      · exact ob_lit (fun s => S s) wordsB
      · exact OSim.refl _
/-- a table in the making: the place of the reader, where the next target starts, where the last named one ends, the targets -/
structure BS where
  p : Nat
  st : Int
  en : Int
  acc : List Tg
/-- a round of built -/
def stepB (z : List Int) (m : Nat) (s : BS) : BS :=
  let len := 1 + nV z m s.p 5
  let p1 := nA m s.p 5
  let p2 := nA m p1 5
  let p3 := nA m p2 3
  let p4 := nA m p3 9
  if nV z m p1 5 = 0 then ⟨p2, s.st + len, s.en, s.acc ++ [⟨s.st, len, { data := #[] }, 0, true⟩]⟩
  else if nV z m p1 5 = 1 then ⟨p2, s.st + len, s.en, s.acc ++ [⟨s.st, len, { data := #[] }, 0, false⟩]⟩
  else if nV z m p4 2 = 0 then ⟨nA m p4 2, s.st + len, s.en + len, s.acc ++ [⟨s.st, len, wordsB.getD (nV z m p2 3).toNat default, s.en, false⟩]⟩
  else ⟨nA m p4 2, s.st + len, nV z m p3 9 + len, s.acc ++ [⟨s.st, len, wordsB.getD (nV z m p2 3).toNat default, nV z m p3 9, false⟩]⟩
def roundsB (z : List Int) (m : Nat) (s : BS) : Nat → BS
  | 0 => s
  | k + 1 => stepB z m (roundsB z m s k)
def picks1 : List Int := [0, -1, 16777216, 16777217]
def picks2 : List Int := [-1, 16777216, 16777213, 16777217]
theorem pick_lit1 (z : List Int) (m p : Nat) (hm : m ≤ 1000) (hz : m ≤ z.length) (hp : p ≤ m) : CallOK Try.prog 35 [.ptr 0 0 0 0, .sl 2 0 1 4 none] [(0, .blk 57 [.sl 1 0 1 m none, I p]), (1, .ro 1 z.length (rowG encI z)), (2, .ro 1 4 (rowsOf [I 0, I (-1), I 16777216, I 16777217] 1))] (I (picks1.getD (nV z m p 4).toNat default)) [(0, some (.blk 57 [.sl 1 0 1 m none, I (nA m p 4)]))] := by
  refine (pick_any z m p picks1 hm hz hp (by decide)).sim fun id => ?_
  simp only [find]
  split
  · exact OSim.refl _
  · split
    · exact OSim.refl _
    · split
      · exact ob_lit (fun x => I x) picks1
      · exact OSim.refl _
theorem pick_lit2 (z : List Int) (m p : Nat) (hm : m ≤ 1000) (hz : m ≤ z.length) (hp : p ≤ m) : CallOK Try.prog 35 [.ptr 0 0 0 0, .sl 2 0 1 4 none] [(0, .blk 57 [.sl 1 0 1 m none, I p]), (1, .ro 1 z.length (rowG encI z)), (2, .ro 1 4 (rowsOf [I (-1), I 16777216, I 16777213, I 16777217] 1))] (I (picks2.getD (nV z m p 4).toNat default)) [(0, some (.blk 57 [.sl 1 0 1 m none, I (nA m p 4)]))] := by
  refine (pick_any z m p picks2 hm hz hp (by decide)).sim fun id => ?_
  simp only [find]
  split
  · exact OSim.refl _
  · split
    · exact OSim.refl _
    · split
      · exact ob_lit (fun x => I x) picks2
      · exact OSim.refl _
end Go.Proofs.Ytcomimabihbfgaa
