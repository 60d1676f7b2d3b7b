/-
  No cell of these rows narrows 'for every input' (looked for: loops, veiled, ifaces, maps, wideKeys, modest, calm, conditions, laid).
  DERIVED. THE GIVEN ROWS OF THIS SEAT. 7 by the template 'for every input the law returns true; each argument reads behind the call as it read before'; 0 by the template 'total and deterministic' (their statements: YtgfdmeaganhpiaaTotals.lean).
  GIVEN WITH THE SEED: the statements are not yours to turn. If you find one false, say at which input.
  Laid BY PROGRAM, IN A SANDBOX (cutbox-rows.mjs): the forced cells as the released guide's own fill.sh prints them over the translation d0b61aff8a7c6280… (all of the seat's roots in one cut). By AI agents, Wed Nov 11 2026. No macro, syntax, notation, axiom, sorry.
-/
import Derived.Test.YtgfdmeaganhpiaaChecked
import GoSem.Claim
import GoSem.ClaimJoined
import GoSem.ClaimMapViews
import Derived.JoinedTies
import Derived.KernelRfl
namespace Go.Proofs.Ytgfdmeaganhpiaa
/- THE CELL 'sum', in the pinned program and in every row, IS THE sha256 OF THE DUMP (.gsa) THAT YtgfdmeaganhpiaaProg.lean LOADS. Nothing in Lean hashes anything: it is a label: what it is worth is what the hold of that sum in a sandbox is worth. -/
noncomputable def Try.pinned : Pinned := { name := "ytgfdmeaganhpiaa", sum := "d0b61aff8a7c6280183ac0d808b3a78a7fd28fb8146766cd5951f45eaf38dd33", checked := Try.checked }
namespace Rows
def none {H : Type} : Left H := { results := [], args := [] }

/-- 'volumegrouplaw03.RangesSets': WHATEVER THE INPUT: true; the input reads as it did. -/
def rangesSetsSpec : ChangeSpec := { name := "rangesSets", fn := fun _ => fun
  | [d1, d2] => { results := [.lit (.bool true)], args := [d1, d2] }
  | _ => none }
def rangesSetsRow : OpenClaim := { program := "ytgfdmeaganhpiaa", sum := "d0b61aff8a7c6280183ac0d808b3a78a7fd28fb8146766cd5951f45eaf38dd33", func := "volumegroup/volumegrouplaw03.RangesSets", spec := "rangesSets", unfollowed := true, recurses := true, apart := false }
def RangesSetsSaid : Prop := rangesSetsRow.holds Try.pinned (OpenSpec.ofChange rangesSetsSpec)

/-- ITS FALSE NEIGHBOUR: 'it returns false'. Refute it at one input. -/
def rangesSetsWrong : ChangeSpec := { name := "rangesSets", fn := fun _ => fun
  | [d1, d2] => { results := [.lit (.bool false)], args := [d1, d2] }
  | _ => none }
def RangesSetsWrongFalsely : Prop := rangesSetsRow.holds Try.pinned (OpenSpec.ofChange rangesSetsWrong)

/-- 'volumegrouplaw03.RangesAsk': WHATEVER THE INPUT: true; the input reads as it did. -/
def rangesAskSpec : ChangeSpec := { name := "rangesAsk", fn := fun _ => fun
  | [d1, d2] => { results := [.lit (.bool true)], args := [d1, d2] }
  | _ => none }
def rangesAskRow : OpenClaim := { program := "ytgfdmeaganhpiaa", sum := "d0b61aff8a7c6280183ac0d808b3a78a7fd28fb8146766cd5951f45eaf38dd33", func := "volumegroup/volumegrouplaw03.RangesAsk", spec := "rangesAsk", unfollowed := true, recurses := true, apart := false }
def RangesAskSaid : Prop := rangesAskRow.holds Try.pinned (OpenSpec.ofChange rangesAskSpec)

/-- ITS FALSE NEIGHBOUR: 'it returns false'. Refute it at one input. -/
def rangesAskWrong : ChangeSpec := { name := "rangesAsk", fn := fun _ => fun
  | [d1, d2] => { results := [.lit (.bool false)], args := [d1, d2] }
  | _ => none }
def RangesAskWrongFalsely : Prop := rangesAskRow.holds Try.pinned (OpenSpec.ofChange rangesAskWrong)

/-- 'volumegrouplaw03.RangesMembers': WHATEVER THE INPUT: true; the input reads as it did. -/
def rangesMembersSpec : ChangeSpec := { name := "rangesMembers", fn := fun _ => fun
  | [d1, d2, d3] => { results := [.lit (.bool true)], args := [d1, d2, d3] }
  | _ => none }
def rangesMembersRow : OpenClaim := { program := "ytgfdmeaganhpiaa", sum := "d0b61aff8a7c6280183ac0d808b3a78a7fd28fb8146766cd5951f45eaf38dd33", func := "volumegroup/volumegrouplaw03.RangesMembers", spec := "rangesMembers", unfollowed := true, recurses := true, apart := false }
def RangesMembersSaid : Prop := rangesMembersRow.holds Try.pinned (OpenSpec.ofChange rangesMembersSpec)

/-- ITS FALSE NEIGHBOUR: 'it returns false'. Refute it at one input. -/
def rangesMembersWrong : ChangeSpec := { name := "rangesMembers", fn := fun _ => fun
  | [d1, d2, d3] => { results := [.lit (.bool false)], args := [d1, d2, d3] }
  | _ => none }
def RangesMembersWrongFalsely : Prop := rangesMembersRow.holds Try.pinned (OpenSpec.ofChange rangesMembersWrong)

/-- 'volumegrouplaw03.RangesLaws': WHATEVER THE INPUT: true; the input reads as it did. -/
def rangesLawsSpec : ChangeSpec := { name := "rangesLaws", fn := fun _ => fun
  | [d1, d2, d3] => { results := [.lit (.bool true)], args := [d1, d2, d3] }
  | _ => none }
def rangesLawsRow : OpenClaim := { program := "ytgfdmeaganhpiaa", sum := "d0b61aff8a7c6280183ac0d808b3a78a7fd28fb8146766cd5951f45eaf38dd33", func := "volumegroup/volumegrouplaw03.RangesLaws", spec := "rangesLaws", unfollowed := true, recurses := true, apart := false }
def RangesLawsSaid : Prop := rangesLawsRow.holds Try.pinned (OpenSpec.ofChange rangesLawsSpec)

/-- ITS FALSE NEIGHBOUR: 'it returns false'. Refute it at one input. -/
def rangesLawsWrong : ChangeSpec := { name := "rangesLaws", fn := fun _ => fun
  | [d1, d2, d3] => { results := [.lit (.bool false)], args := [d1, d2, d3] }
  | _ => none }
def RangesLawsWrongFalsely : Prop := rangesLawsRow.holds Try.pinned (OpenSpec.ofChange rangesLawsWrong)

/-- 'volumegrouplaw03.RangesTakes': WHATEVER THE INPUT: true; the input reads as it did. -/
def rangesTakesSpec : ChangeSpec := { name := "rangesTakes", fn := fun _ => fun
  | [d1, d2] => { results := [.lit (.bool true)], args := [d1, d2] }
  | _ => none }
def rangesTakesRow : OpenClaim := { program := "ytgfdmeaganhpiaa", sum := "d0b61aff8a7c6280183ac0d808b3a78a7fd28fb8146766cd5951f45eaf38dd33", func := "volumegroup/volumegrouplaw03.RangesTakes", spec := "rangesTakes", unfollowed := true, recurses := true, apart := false }
def RangesTakesSaid : Prop := rangesTakesRow.holds Try.pinned (OpenSpec.ofChange rangesTakesSpec)

/-- ITS FALSE NEIGHBOUR: 'it returns false'. Refute it at one input. -/
def rangesTakesWrong : ChangeSpec := { name := "rangesTakes", fn := fun _ => fun
  | [d1, d2] => { results := [.lit (.bool false)], args := [d1, d2] }
  | _ => none }
def RangesTakesWrongFalsely : Prop := rangesTakesRow.holds Try.pinned (OpenSpec.ofChange rangesTakesWrong)

/-- 'volumegrouplaw03.RangesNormal': WHATEVER THE INPUT: true; the input reads as it did. -/
def rangesNormalSpec : ChangeSpec := { name := "rangesNormal", fn := fun _ => fun
  | [d1, d2] => { results := [.lit (.bool true)], args := [d1, d2] }
  | _ => none }
def rangesNormalRow : OpenClaim := { program := "ytgfdmeaganhpiaa", sum := "d0b61aff8a7c6280183ac0d808b3a78a7fd28fb8146766cd5951f45eaf38dd33", func := "volumegroup/volumegrouplaw03.RangesNormal", spec := "rangesNormal", unfollowed := true, recurses := true, apart := false }
def RangesNormalSaid : Prop := rangesNormalRow.holds Try.pinned (OpenSpec.ofChange rangesNormalSpec)

/-- ITS FALSE NEIGHBOUR: 'it returns false'. Refute it at one input. -/
def rangesNormalWrong : ChangeSpec := { name := "rangesNormal", fn := fun _ => fun
  | [d1, d2] => { results := [.lit (.bool false)], args := [d1, d2] }
  | _ => none }
def RangesNormalWrongFalsely : Prop := rangesNormalRow.holds Try.pinned (OpenSpec.ofChange rangesNormalWrong)

/-- 'volumegrouplaw03.RangesFirst': WHATEVER THE INPUT: true; the input reads as it did. -/
def rangesFirstSpec : ChangeSpec := { name := "rangesFirst", fn := fun _ => fun
  | [d1, d2] => { results := [.lit (.bool true)], args := [d1, d2] }
  | _ => none }
def rangesFirstRow : OpenClaim := { program := "ytgfdmeaganhpiaa", sum := "d0b61aff8a7c6280183ac0d808b3a78a7fd28fb8146766cd5951f45eaf38dd33", func := "volumegroup/volumegrouplaw03.RangesFirst", spec := "rangesFirst", unfollowed := true, recurses := true, apart := false }
def RangesFirstSaid : Prop := rangesFirstRow.holds Try.pinned (OpenSpec.ofChange rangesFirstSpec)

/-- ITS FALSE NEIGHBOUR: 'it returns false'. Refute it at one input. -/
def rangesFirstWrong : ChangeSpec := { name := "rangesFirst", fn := fun _ => fun
  | [d1, d2] => { results := [.lit (.bool false)], args := [d1, d2] }
  | _ => none }
def RangesFirstWrongFalsely : Prop := rangesFirstRow.holds Try.pinned (OpenSpec.ofChange rangesFirstWrong)

/- THE SECOND FORM. 'bulk': how many values and letters a reading holds, each counted each time it is reached (what is shared counts as often as it is met; a slice's spare places count too). A statement '..UptoSaid' is the law's where the arguments, and the package variables that the reading takes, are together of bulk at most 1048576: NARROWER than '..Said'. Prove '..Said' where nothing that the law and all that it calls make is longer than what came in: it says more and counts as full. Else prove '..UptoSaid'. A law counts once. -/
mutual
def uptoBulk {H : Type} : DataW H → Nat
  | .lit (.string bytes) => bytes.length + 1
  | .lit _ => 1
  | .nil => 1
  | .ptr d => uptoBulk d + 1
  | .slice elems spare => uptoBulkAll elems + uptoBulkAll spare + 1
  | .agg parts => uptoBulkAll parts + 1
  | .iface _ d => uptoBulk d + 1
  | .map entries => uptoBulkEntries entries + 1
  | .held _ => 1
def uptoBulkAll {H : Type} : List (DataW H) → Nat
  | [] => 0
  | d :: r => uptoBulk d + uptoBulkAll r
def uptoBulkEntries {H : Type} : List (Lit × DataW H) → Nat
  | [] => 0
  | x :: r => uptoBulkEntry x + uptoBulkEntries r
def uptoBulkEntry {H : Type} : Lit × DataW H → Nat
  | (.string bytes, d) => bytes.length + uptoBulk d + 1
  | (_, d) => uptoBulk d + 1
 end
def uptoSmall : (H : Type) → List (DataW H) → Bool := fun _ ds => decide (uptoBulkAll ds ≤ 1048576)
def OpenSpec.upto (s : _root_.Go.ChangeSpec) : _root_.Go.OpenSpec := { _root_.Go.OpenSpec.ofChange s with cond := some uptoSmall }

/-- 'volumegrouplaw03.RangesSets', WHERE WHAT IT READS IS OF BULK AT MOST 1048576: true; the input reads as it did. -/
def rangesSetsUptoRow : OpenClaim := { program := "ytgfdmeaganhpiaa", sum := "d0b61aff8a7c6280183ac0d808b3a78a7fd28fb8146766cd5951f45eaf38dd33", func := "volumegroup/volumegrouplaw03.RangesSets", spec := "rangesSets", unfollowed := true, recurses := true, apart := false, narrowed := true }
def RangesSetsUptoSaid : Prop := rangesSetsUptoRow.holds Try.pinned (OpenSpec.upto rangesSetsSpec)

/-- 'volumegrouplaw03.RangesAsk', WHERE WHAT IT READS IS OF BULK AT MOST 1048576: true; the input reads as it did. -/
def rangesAskUptoRow : OpenClaim := { program := "ytgfdmeaganhpiaa", sum := "d0b61aff8a7c6280183ac0d808b3a78a7fd28fb8146766cd5951f45eaf38dd33", func := "volumegroup/volumegrouplaw03.RangesAsk", spec := "rangesAsk", unfollowed := true, recurses := true, apart := false, narrowed := true }
def RangesAskUptoSaid : Prop := rangesAskUptoRow.holds Try.pinned (OpenSpec.upto rangesAskSpec)

/-- 'volumegrouplaw03.RangesMembers', WHERE WHAT IT READS IS OF BULK AT MOST 1048576: true; the input reads as it did. -/
def rangesMembersUptoRow : OpenClaim := { program := "ytgfdmeaganhpiaa", sum := "d0b61aff8a7c6280183ac0d808b3a78a7fd28fb8146766cd5951f45eaf38dd33", func := "volumegroup/volumegrouplaw03.RangesMembers", spec := "rangesMembers", unfollowed := true, recurses := true, apart := false, narrowed := true }
def RangesMembersUptoSaid : Prop := rangesMembersUptoRow.holds Try.pinned (OpenSpec.upto rangesMembersSpec)

/-- 'volumegrouplaw03.RangesLaws', WHERE WHAT IT READS IS OF BULK AT MOST 1048576: true; the input reads as it did. -/
def rangesLawsUptoRow : OpenClaim := { program := "ytgfdmeaganhpiaa", sum := "d0b61aff8a7c6280183ac0d808b3a78a7fd28fb8146766cd5951f45eaf38dd33", func := "volumegroup/volumegrouplaw03.RangesLaws", spec := "rangesLaws", unfollowed := true, recurses := true, apart := false, narrowed := true }
def RangesLawsUptoSaid : Prop := rangesLawsUptoRow.holds Try.pinned (OpenSpec.upto rangesLawsSpec)

/-- 'volumegrouplaw03.RangesTakes', WHERE WHAT IT READS IS OF BULK AT MOST 1048576: true; the input reads as it did. -/
def rangesTakesUptoRow : OpenClaim := { program := "ytgfdmeaganhpiaa", sum := "d0b61aff8a7c6280183ac0d808b3a78a7fd28fb8146766cd5951f45eaf38dd33", func := "volumegroup/volumegrouplaw03.RangesTakes", spec := "rangesTakes", unfollowed := true, recurses := true, apart := false, narrowed := true }
def RangesTakesUptoSaid : Prop := rangesTakesUptoRow.holds Try.pinned (OpenSpec.upto rangesTakesSpec)

/-- 'volumegrouplaw03.RangesNormal', WHERE WHAT IT READS IS OF BULK AT MOST 1048576: true; the input reads as it did. -/
def rangesNormalUptoRow : OpenClaim := { program := "ytgfdmeaganhpiaa", sum := "d0b61aff8a7c6280183ac0d808b3a78a7fd28fb8146766cd5951f45eaf38dd33", func := "volumegroup/volumegrouplaw03.RangesNormal", spec := "rangesNormal", unfollowed := true, recurses := true, apart := false, narrowed := true }
def RangesNormalUptoSaid : Prop := rangesNormalUptoRow.holds Try.pinned (OpenSpec.upto rangesNormalSpec)

/-- 'volumegrouplaw03.RangesFirst', WHERE WHAT IT READS IS OF BULK AT MOST 1048576: true; the input reads as it did. -/
def rangesFirstUptoRow : OpenClaim := { program := "ytgfdmeaganhpiaa", sum := "d0b61aff8a7c6280183ac0d808b3a78a7fd28fb8146766cd5951f45eaf38dd33", func := "volumegroup/volumegrouplaw03.RangesFirst", spec := "rangesFirst", unfollowed := true, recurses := true, apart := false, narrowed := true }
def RangesFirstUptoSaid : Prop := rangesFirstUptoRow.holds Try.pinned (OpenSpec.upto rangesFirstSpec)

end Rows
end Go.Proofs.Ytgfdmeaganhpiaa
