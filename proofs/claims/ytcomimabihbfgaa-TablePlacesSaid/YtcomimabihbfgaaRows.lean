/-
  No cell of these rows narrows 'for every input' (looked for: loops, veiled, ifaces, maps, wideKeys, modest, calm, conditions, laid).
  DERIVED. THE GIVEN ROWS OF THIS SEAT. 5 by the template 'for every input the law returns true; each argument reads behind the call as it read before'; 0 by the template 'total and deterministic' (their statements: YtcomimabihbfgaaTotals.lean).
  GIVEN WITH THE SEED: the statements are not yours to turn. If you find one false, say at which input.
  Laid BY PROGRAM, IN A SANDBOX (cutbox-rows.mjs): the forced cells as the released guide's own fill.sh prints them over the translation 3bd589222c2e8e1f… (all of the seat's roots in one cut). By AI agents, Wed Nov 11 2026. No macro, syntax, notation, axiom, sorry.
-/
import Derived.Test.YtcomimabihbfgaaChecked
import GoSem.Claim
import GoSem.ClaimJoined
import GoSem.ClaimMapViews
import Derived.JoinedTies
import Derived.KernelRfl
namespace Go.Proofs.Ytcomimabihbfgaa
/- THE CELL 'sum', in the pinned program and in every row, IS THE sha256 OF THE DUMP (.gsa) THAT YtcomimabihbfgaaProg.lean LOADS. Nothing in Lean hashes anything: it is a label: what it is worth is what the hold of that sum in a sandbox is worth. -/
noncomputable def Try.pinned : Pinned := { name := "ytcomimabihbfgaa", sum := "3bd589222c2e8e1fce733b9aedca4adb1dddfe6dec93d1098450a783a5fb849c", checked := Try.checked }
namespace Rows
def none {H : Type} : Left H := { results := [], args := [] }

/-- 'volumegrouplaw22.TableRaw': WHATEVER THE INPUT: true; the input reads as it did. -/
def tableRawSpec : ChangeSpec := { name := "tableRaw", fn := fun _ => fun
  | [d1, d2, d3, d4] => { results := [.lit (.bool true)], args := [d1, d2, d3, d4] }
  | _ => none }
def tableRawRow : OpenClaim := { program := "ytcomimabihbfgaa", sum := "3bd589222c2e8e1fce733b9aedca4adb1dddfe6dec93d1098450a783a5fb849c", func := "volumegroup/volumegrouplaw22.TableRaw", spec := "tableRaw", unfollowed := true, recurses := true, apart := false }
def TableRawSaid : Prop := tableRawRow.holds Try.pinned (OpenSpec.ofChange tableRawSpec)

/-- ITS FALSE NEIGHBOUR: 'it returns false'. Refute it at one input. -/
def tableRawWrong : ChangeSpec := { name := "tableRaw", fn := fun _ => fun
  | [d1, d2, d3, d4] => { results := [.lit (.bool false)], args := [d1, d2, d3, d4] }
  | _ => none }
def TableRawWrongFalsely : Prop := tableRawRow.holds Try.pinned (OpenSpec.ofChange tableRawWrong)

/-- 'volumegrouplaw22.TableBuilt': WHATEVER THE INPUT: true; the input reads as it did. -/
def tableBuiltSpec : ChangeSpec := { name := "tableBuilt", fn := fun _ => fun
  | [d1, d2, d3] => { results := [.lit (.bool true)], args := [d1, d2, d3] }
  | _ => none }
def tableBuiltRow : OpenClaim := { program := "ytcomimabihbfgaa", sum := "3bd589222c2e8e1fce733b9aedca4adb1dddfe6dec93d1098450a783a5fb849c", func := "volumegroup/volumegrouplaw22.TableBuilt", spec := "tableBuilt", unfollowed := true, recurses := true, apart := false }
def TableBuiltSaid : Prop := tableBuiltRow.holds Try.pinned (OpenSpec.ofChange tableBuiltSpec)

/-- ITS FALSE NEIGHBOUR: 'it returns false'. Refute it at one input. -/
def tableBuiltWrong : ChangeSpec := { name := "tableBuilt", fn := fun _ => fun
  | [d1, d2, d3] => { results := [.lit (.bool false)], args := [d1, d2, d3] }
  | _ => none }
def TableBuiltWrongFalsely : Prop := tableBuiltRow.holds Try.pinned (OpenSpec.ofChange tableBuiltWrong)

/-- 'volumegrouplaw22.TablePlaces': WHATEVER THE INPUT: true; the input reads as it did. -/
def tablePlacesSpec : ChangeSpec := { name := "tablePlaces", fn := fun _ => fun
  | [d] => { results := [.lit (.bool true)], args := [d] }
  | _ => none }
def tablePlacesRow : OpenClaim := { program := "ytcomimabihbfgaa", sum := "3bd589222c2e8e1fce733b9aedca4adb1dddfe6dec93d1098450a783a5fb849c", func := "volumegroup/volumegrouplaw22.TablePlaces", spec := "tablePlaces", unfollowed := true, recurses := true, apart := false }
def TablePlacesSaid : Prop := tablePlacesRow.holds Try.pinned (OpenSpec.ofChange tablePlacesSpec)

/-- ITS FALSE NEIGHBOUR: 'it returns false'. Refute it at one input. -/
def tablePlacesWrong : ChangeSpec := { name := "tablePlaces", fn := fun _ => fun
  | [d] => { results := [.lit (.bool false)], args := [d] }
  | _ => none }
def TablePlacesWrongFalsely : Prop := tablePlacesRow.holds Try.pinned (OpenSpec.ofChange tablePlacesWrong)

/-- 'volumegrouplaw22.TableNested': WHATEVER THE INPUT: true; the input reads as it did. -/
def tableNestedSpec : ChangeSpec := { name := "tableNested", fn := fun _ => fun
  | [d] => { results := [.lit (.bool true)], args := [d] }
  | _ => none }
def tableNestedRow : OpenClaim := { program := "ytcomimabihbfgaa", sum := "3bd589222c2e8e1fce733b9aedca4adb1dddfe6dec93d1098450a783a5fb849c", func := "volumegroup/volumegrouplaw22.TableNested", spec := "tableNested", unfollowed := true, recurses := true, apart := false }
def TableNestedSaid : Prop := tableNestedRow.holds Try.pinned (OpenSpec.ofChange tableNestedSpec)

/-- ITS FALSE NEIGHBOUR: 'it returns false'. Refute it at one input. -/
def tableNestedWrong : ChangeSpec := { name := "tableNested", fn := fun _ => fun
  | [d] => { results := [.lit (.bool false)], args := [d] }
  | _ => none }
def TableNestedWrongFalsely : Prop := tableNestedRow.holds Try.pinned (OpenSpec.ofChange tableNestedWrong)

/-- 'volumegrouplaw22.TableUses': WHATEVER THE INPUT: true; the input reads as it did. -/
def tableUsesSpec : ChangeSpec := { name := "tableUses", fn := fun _ => fun
  | [d] => { results := [.lit (.bool true)], args := [d] }
  | _ => none }
def tableUsesRow : OpenClaim := { program := "ytcomimabihbfgaa", sum := "3bd589222c2e8e1fce733b9aedca4adb1dddfe6dec93d1098450a783a5fb849c", func := "volumegroup/volumegrouplaw22.TableUses", spec := "tableUses", unfollowed := true, recurses := true, apart := false }
def TableUsesSaid : Prop := tableUsesRow.holds Try.pinned (OpenSpec.ofChange tableUsesSpec)

/-- ITS FALSE NEIGHBOUR: 'it returns false'. Refute it at one input. -/
def tableUsesWrong : ChangeSpec := { name := "tableUses", fn := fun _ => fun
  | [d] => { results := [.lit (.bool false)], args := [d] }
  | _ => none }
def TableUsesWrongFalsely : Prop := tableUsesRow.holds Try.pinned (OpenSpec.ofChange tableUsesWrong)

/- THE SECOND FORM. 'bulk': how many values and letters a reading holds, each counted each time it is reached (what is shared counts as often as it is met; a slice's spare places count too). A statement '..UptoSaid' is the law's where the arguments, and the package variables that the reading takes, are together of bulk at most 1048576: NARROWER than '..Said'. Prove '..Said' where nothing that the law and all that it calls make is longer than what came in: it says more and counts as full. Else prove '..UptoSaid'. A law counts once. -/
mutual
def uptoBulk {H : Type} : DataW H → Nat
  | .lit (.string bytes) => bytes.length + 1
  | .lit _ => 1
  | .nil => 1
  | .ptr d => uptoBulk d + 1
  | .slice elems spare => uptoBulkAll elems + uptoBulkAll spare + 1
  | .agg parts => uptoBulkAll parts + 1
  | .iface _ d => uptoBulk d + 1
  | .map entries => uptoBulkEntries entries + 1
  | .held _ => 1
def uptoBulkAll {H : Type} : List (DataW H) → Nat
  | [] => 0
  | d :: r => uptoBulk d + uptoBulkAll r
def uptoBulkEntries {H : Type} : List (Lit × DataW H) → Nat
  | [] => 0
  | x :: r => uptoBulkEntry x + uptoBulkEntries r
def uptoBulkEntry {H : Type} : Lit × DataW H → Nat
  | (.string bytes, d) => bytes.length + uptoBulk d + 1
  | (_, d) => uptoBulk d + 1
 end
def uptoSmall : (H : Type) → List (DataW H) → Bool := fun _ ds => decide (uptoBulkAll ds ≤ 1048576)
def OpenSpec.upto (s : _root_.Go.ChangeSpec) : _root_.Go.OpenSpec := { _root_.Go.OpenSpec.ofChange s with cond := some uptoSmall }

/-- 'volumegrouplaw22.TableRaw', WHERE WHAT IT READS IS OF BULK AT MOST 1048576: true; the input reads as it did. -/
def tableRawUptoRow : OpenClaim := { program := "ytcomimabihbfgaa", sum := "3bd589222c2e8e1fce733b9aedca4adb1dddfe6dec93d1098450a783a5fb849c", func := "volumegroup/volumegrouplaw22.TableRaw", spec := "tableRaw", unfollowed := true, recurses := true, apart := false, narrowed := true }
def TableRawUptoSaid : Prop := tableRawUptoRow.holds Try.pinned (OpenSpec.upto tableRawSpec)

/-- 'volumegrouplaw22.TableBuilt', WHERE WHAT IT READS IS OF BULK AT MOST 1048576: true; the input reads as it did. -/
def tableBuiltUptoRow : OpenClaim := { program := "ytcomimabihbfgaa", sum := "3bd589222c2e8e1fce733b9aedca4adb1dddfe6dec93d1098450a783a5fb849c", func := "volumegroup/volumegrouplaw22.TableBuilt", spec := "tableBuilt", unfollowed := true, recurses := true, apart := false, narrowed := true }
def TableBuiltUptoSaid : Prop := tableBuiltUptoRow.holds Try.pinned (OpenSpec.upto tableBuiltSpec)

/-- 'volumegrouplaw22.TablePlaces', WHERE WHAT IT READS IS OF BULK AT MOST 1048576: true; the input reads as it did. -/
def tablePlacesUptoRow : OpenClaim := { program := "ytcomimabihbfgaa", sum := "3bd589222c2e8e1fce733b9aedca4adb1dddfe6dec93d1098450a783a5fb849c", func := "volumegroup/volumegrouplaw22.TablePlaces", spec := "tablePlaces", unfollowed := true, recurses := true, apart := false, narrowed := true }
def TablePlacesUptoSaid : Prop := tablePlacesUptoRow.holds Try.pinned (OpenSpec.upto tablePlacesSpec)

/-- 'volumegrouplaw22.TableNested', WHERE WHAT IT READS IS OF BULK AT MOST 1048576: true; the input reads as it did. -/
def tableNestedUptoRow : OpenClaim := { program := "ytcomimabihbfgaa", sum := "3bd589222c2e8e1fce733b9aedca4adb1dddfe6dec93d1098450a783a5fb849c", func := "volumegroup/volumegrouplaw22.TableNested", spec := "tableNested", unfollowed := true, recurses := true, apart := false, narrowed := true }
def TableNestedUptoSaid : Prop := tableNestedUptoRow.holds Try.pinned (OpenSpec.upto tableNestedSpec)

/-- 'volumegrouplaw22.TableUses', WHERE WHAT IT READS IS OF BULK AT MOST 1048576: true; the input reads as it did. -/
def tableUsesUptoRow : OpenClaim := { program := "ytcomimabihbfgaa", sum := "3bd589222c2e8e1fce733b9aedca4adb1dddfe6dec93d1098450a783a5fb849c", func := "volumegroup/volumegrouplaw22.TableUses", spec := "tableUses", unfollowed := true, recurses := true, apart := false, narrowed := true }
def TableUsesUptoSaid : Prop := tableUsesUptoRow.holds Try.pinned (OpenSpec.upto tableUsesSpec)

end Rows
end Go.Proofs.Ytcomimabihbfgaa
