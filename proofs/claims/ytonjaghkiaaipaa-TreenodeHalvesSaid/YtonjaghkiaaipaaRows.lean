/-
  No cell of these rows narrows 'for every input' (looked for: loops, veiled, ifaces, maps, wideKeys, modest, calm, conditions, laid).
  DERIVED. THE GIVEN ROWS OF THIS SEAT. 6 by the template 'for every input the law returns true; each argument reads behind the call as it read before'; 0 by the template 'total and deterministic' (their statements: YtonjaghkiaaipaaTotals.lean).
  GIVEN WITH THE SEED: the statements are not yours to turn. If you find one false, say at which input.
  Laid BY PROGRAM, IN A SANDBOX (cutbox-rows.mjs): the forced cells as the released guide's own fill.sh prints them over the translation 8f9fc6c45f428e18… (all of the seat's roots in one cut). By AI agents, Wed Nov 11 2026. No macro, syntax, notation, axiom, sorry.
-/
import Derived.Test.YtonjaghkiaaipaaChecked
import GoSem.Claim
import GoSem.ClaimJoined
import GoSem.ClaimMapViews
import Derived.JoinedTies
import Derived.KernelRfl
namespace Go.Proofs.Ytonjaghkiaaipaa
/- THE CELL 'sum', in the pinned program and in every row, IS THE sha256 OF THE DUMP (.gsa) THAT YtonjaghkiaaipaaProg.lean LOADS. Nothing in Lean hashes anything: it is a label: what it is worth is what the hold of that sum in a sandbox is worth. -/
noncomputable def Try.pinned : Pinned := { name := "ytonjaghkiaaipaa", sum := "8f9fc6c45f428e187ffd8281caffa115ce333c3e647cadc792d500829f29fd0d", checked := Try.checked }
namespace Rows
def none {H : Type} : Left H := { results := [], args := [] }

/-- 'volumegrouplaw25.TreenodeWords': WHATEVER THE INPUT: true; the input reads as it did. -/
def treenodeWordsSpec : ChangeSpec := { name := "treenodeWords", fn := fun _ => fun
  | [d1, d2] => { results := [.lit (.bool true)], args := [d1, d2] }
  | _ => none }
def treenodeWordsRow : OpenClaim := { program := "ytonjaghkiaaipaa", sum := "8f9fc6c45f428e187ffd8281caffa115ce333c3e647cadc792d500829f29fd0d", func := "volumegroup/volumegrouplaw25.TreenodeWords", spec := "treenodeWords", inPlace := ["slices.overlaps[volumegroup/api.TreeEntry]"], unfollowed := true, recurses := true, apart := false }
def TreenodeWordsSaid : Prop := treenodeWordsRow.holds Try.pinned (OpenSpec.ofChange treenodeWordsSpec)

/-- ITS FALSE NEIGHBOUR: 'it returns false'. Refute it at one input. -/
def treenodeWordsWrong : ChangeSpec := { name := "treenodeWords", fn := fun _ => fun
  | [d1, d2] => { results := [.lit (.bool false)], args := [d1, d2] }
  | _ => none }
def TreenodeWordsWrongFalsely : Prop := treenodeWordsRow.holds Try.pinned (OpenSpec.ofChange treenodeWordsWrong)

/-- 'volumegrouplaw25.TreenodeReads': WHATEVER THE INPUT: true; the input reads as it did. -/
def treenodeReadsSpec : ChangeSpec := { name := "treenodeReads", fn := fun _ => fun
  | [d1, d2, d3] => { results := [.lit (.bool true)], args := [d1, d2, d3] }
  | _ => none }
def treenodeReadsRow : OpenClaim := { program := "ytonjaghkiaaipaa", sum := "8f9fc6c45f428e187ffd8281caffa115ce333c3e647cadc792d500829f29fd0d", func := "volumegroup/volumegrouplaw25.TreenodeReads", spec := "treenodeReads", inPlace := ["slices.overlaps[volumegroup/api.TreeEntry]"], unfollowed := true, recurses := true, apart := false }
def TreenodeReadsSaid : Prop := treenodeReadsRow.holds Try.pinned (OpenSpec.ofChange treenodeReadsSpec)

/-- ITS FALSE NEIGHBOUR: 'it returns false'. Refute it at one input. -/
def treenodeReadsWrong : ChangeSpec := { name := "treenodeReads", fn := fun _ => fun
  | [d1, d2, d3] => { results := [.lit (.bool false)], args := [d1, d2, d3] }
  | _ => none }
def TreenodeReadsWrongFalsely : Prop := treenodeReadsRow.holds Try.pinned (OpenSpec.ofChange treenodeReadsWrong)

/-- 'volumegrouplaw25.TreenodeSeals': WHATEVER THE INPUT: true; the input reads as it did. -/
def treenodeSealsSpec : ChangeSpec := { name := "treenodeSeals", fn := fun _ => fun
  | [d1, d2, d3, d4, d5] => { results := [.lit (.bool true)], args := [d1, d2, d3, d4, d5] }
  | _ => none }
def treenodeSealsRow : OpenClaim := { program := "ytonjaghkiaaipaa", sum := "8f9fc6c45f428e187ffd8281caffa115ce333c3e647cadc792d500829f29fd0d", func := "volumegroup/volumegrouplaw25.TreenodeSeals", spec := "treenodeSeals", inPlace := ["slices.overlaps[volumegroup/api.TreeEntry]"], unfollowed := true, recurses := true, apart := false }
def TreenodeSealsSaid : Prop := treenodeSealsRow.holds Try.pinned (OpenSpec.ofChange treenodeSealsSpec)

/-- ITS FALSE NEIGHBOUR: 'it returns false'. Refute it at one input. -/
def treenodeSealsWrong : ChangeSpec := { name := "treenodeSeals", fn := fun _ => fun
  | [d1, d2, d3, d4, d5] => { results := [.lit (.bool false)], args := [d1, d2, d3, d4, d5] }
  | _ => none }
def TreenodeSealsWrongFalsely : Prop := treenodeSealsRow.holds Try.pinned (OpenSpec.ofChange treenodeSealsWrong)

/-- 'volumegrouplaw25.TreenodeChanges': WHATEVER THE INPUT: true; the input reads as it did. -/
def treenodeChangesSpec : ChangeSpec := { name := "treenodeChanges", fn := fun _ => fun
  | [d1, d2, d3, d4] => { results := [.lit (.bool true)], args := [d1, d2, d3, d4] }
  | _ => none }
def treenodeChangesRow : OpenClaim := { program := "ytonjaghkiaaipaa", sum := "8f9fc6c45f428e187ffd8281caffa115ce333c3e647cadc792d500829f29fd0d", func := "volumegroup/volumegrouplaw25.TreenodeChanges", spec := "treenodeChanges", inPlace := ["slices.overlaps[volumegroup/api.TreeEntry]"], unfollowed := true, recurses := true, apart := false }
def TreenodeChangesSaid : Prop := treenodeChangesRow.holds Try.pinned (OpenSpec.ofChange treenodeChangesSpec)

/-- ITS FALSE NEIGHBOUR: 'it returns false'. Refute it at one input. -/
def treenodeChangesWrong : ChangeSpec := { name := "treenodeChanges", fn := fun _ => fun
  | [d1, d2, d3, d4] => { results := [.lit (.bool false)], args := [d1, d2, d3, d4] }
  | _ => none }
def TreenodeChangesWrongFalsely : Prop := treenodeChangesRow.holds Try.pinned (OpenSpec.ofChange treenodeChangesWrong)

/-- 'volumegrouplaw25.TreenodeBack': WHATEVER THE INPUT: true; the input reads as it did. -/
def treenodeBackSpec : ChangeSpec := { name := "treenodeBack", fn := fun _ => fun
  | [d] => { results := [.lit (.bool true)], args := [d] }
  | _ => none }
def treenodeBackRow : OpenClaim := { program := "ytonjaghkiaaipaa", sum := "8f9fc6c45f428e187ffd8281caffa115ce333c3e647cadc792d500829f29fd0d", func := "volumegroup/volumegrouplaw25.TreenodeBack", spec := "treenodeBack", inPlace := ["slices.overlaps[volumegroup/api.TreeEntry]"], unfollowed := true, recurses := true, apart := false }
def TreenodeBackSaid : Prop := treenodeBackRow.holds Try.pinned (OpenSpec.ofChange treenodeBackSpec)

/-- ITS FALSE NEIGHBOUR: 'it returns false'. Refute it at one input. -/
def treenodeBackWrong : ChangeSpec := { name := "treenodeBack", fn := fun _ => fun
  | [d] => { results := [.lit (.bool false)], args := [d] }
  | _ => none }
def TreenodeBackWrongFalsely : Prop := treenodeBackRow.holds Try.pinned (OpenSpec.ofChange treenodeBackWrong)

/-- 'volumegrouplaw25.TreenodeHalves': WHATEVER THE INPUT: true; the input reads as it did. -/
def treenodeHalvesSpec : ChangeSpec := { name := "treenodeHalves", fn := fun _ => fun
  | [d1, d2, d3] => { results := [.lit (.bool true)], args := [d1, d2, d3] }
  | _ => none }
def treenodeHalvesRow : OpenClaim := { program := "ytonjaghkiaaipaa", sum := "8f9fc6c45f428e187ffd8281caffa115ce333c3e647cadc792d500829f29fd0d", func := "volumegroup/volumegrouplaw25.TreenodeHalves", spec := "treenodeHalves", inPlace := ["slices.overlaps[volumegroup/api.TreeEntry]"], unfollowed := true, recurses := true, apart := false }
def TreenodeHalvesSaid : Prop := treenodeHalvesRow.holds Try.pinned (OpenSpec.ofChange treenodeHalvesSpec)

/-- ITS FALSE NEIGHBOUR: 'it returns false'. Refute it at one input. -/
def treenodeHalvesWrong : ChangeSpec := { name := "treenodeHalves", fn := fun _ => fun
  | [d1, d2, d3] => { results := [.lit (.bool false)], args := [d1, d2, d3] }
  | _ => none }
def TreenodeHalvesWrongFalsely : Prop := treenodeHalvesRow.holds Try.pinned (OpenSpec.ofChange treenodeHalvesWrong)

/- THE SECOND FORM. 'bulk': how many values and letters a reading holds, each counted each time it is reached (what is shared counts as often as it is met; a slice's spare places count too). A statement '..UptoSaid' is the law's where the arguments, and the package variables that the reading takes, are together of bulk at most 1048576: NARROWER than '..Said'. Prove '..Said' where nothing that the law and all that it calls make is longer than what came in: it says more and counts as full. Else prove '..UptoSaid'. A law counts once. -/
mutual
def uptoBulk {H : Type} : DataW H → Nat
  | .lit (.string bytes) => bytes.length + 1
  | .lit _ => 1
  | .nil => 1
  | .ptr d => uptoBulk d + 1
  | .slice elems spare => uptoBulkAll elems + uptoBulkAll spare + 1
  | .agg parts => uptoBulkAll parts + 1
  | .iface _ d => uptoBulk d + 1
  | .map entries => uptoBulkEntries entries + 1
  | .held _ => 1
def uptoBulkAll {H : Type} : List (DataW H) → Nat
  | [] => 0
  | d :: r => uptoBulk d + uptoBulkAll r
def uptoBulkEntries {H : Type} : List (Lit × DataW H) → Nat
  | [] => 0
  | x :: r => uptoBulkEntry x + uptoBulkEntries r
def uptoBulkEntry {H : Type} : Lit × DataW H → Nat
  | (.string bytes, d) => bytes.length + uptoBulk d + 1
  | (_, d) => uptoBulk d + 1
 end
def uptoSmall : (H : Type) → List (DataW H) → Bool := fun _ ds => decide (uptoBulkAll ds ≤ 1048576)
def OpenSpec.upto (s : _root_.Go.ChangeSpec) : _root_.Go.OpenSpec := { _root_.Go.OpenSpec.ofChange s with cond := some uptoSmall }

/-- 'volumegrouplaw25.TreenodeWords', WHERE WHAT IT READS IS OF BULK AT MOST 1048576: true; the input reads as it did. -/
def treenodeWordsUptoRow : OpenClaim := { program := "ytonjaghkiaaipaa", sum := "8f9fc6c45f428e187ffd8281caffa115ce333c3e647cadc792d500829f29fd0d", func := "volumegroup/volumegrouplaw25.TreenodeWords", spec := "treenodeWords", inPlace := ["slices.overlaps[volumegroup/api.TreeEntry]"], unfollowed := true, recurses := true, apart := false, narrowed := true }
def TreenodeWordsUptoSaid : Prop := treenodeWordsUptoRow.holds Try.pinned (OpenSpec.upto treenodeWordsSpec)

/-- 'volumegrouplaw25.TreenodeReads', WHERE WHAT IT READS IS OF BULK AT MOST 1048576: true; the input reads as it did. -/
def treenodeReadsUptoRow : OpenClaim := { program := "ytonjaghkiaaipaa", sum := "8f9fc6c45f428e187ffd8281caffa115ce333c3e647cadc792d500829f29fd0d", func := "volumegroup/volumegrouplaw25.TreenodeReads", spec := "treenodeReads", inPlace := ["slices.overlaps[volumegroup/api.TreeEntry]"], unfollowed := true, recurses := true, apart := false, narrowed := true }
def TreenodeReadsUptoSaid : Prop := treenodeReadsUptoRow.holds Try.pinned (OpenSpec.upto treenodeReadsSpec)

/-- 'volumegrouplaw25.TreenodeSeals', WHERE WHAT IT READS IS OF BULK AT MOST 1048576: true; the input reads as it did. -/
def treenodeSealsUptoRow : OpenClaim := { program := "ytonjaghkiaaipaa", sum := "8f9fc6c45f428e187ffd8281caffa115ce333c3e647cadc792d500829f29fd0d", func := "volumegroup/volumegrouplaw25.TreenodeSeals", spec := "treenodeSeals", inPlace := ["slices.overlaps[volumegroup/api.TreeEntry]"], unfollowed := true, recurses := true, apart := false, narrowed := true }
def TreenodeSealsUptoSaid : Prop := treenodeSealsUptoRow.holds Try.pinned (OpenSpec.upto treenodeSealsSpec)

/-- 'volumegrouplaw25.TreenodeChanges', WHERE WHAT IT READS IS OF BULK AT MOST 1048576: true; the input reads as it did. -/
def treenodeChangesUptoRow : OpenClaim := { program := "ytonjaghkiaaipaa", sum := "8f9fc6c45f428e187ffd8281caffa115ce333c3e647cadc792d500829f29fd0d", func := "volumegroup/volumegrouplaw25.TreenodeChanges", spec := "treenodeChanges", inPlace := ["slices.overlaps[volumegroup/api.TreeEntry]"], unfollowed := true, recurses := true, apart := false, narrowed := true }
def TreenodeChangesUptoSaid : Prop := treenodeChangesUptoRow.holds Try.pinned (OpenSpec.upto treenodeChangesSpec)

/-- 'volumegrouplaw25.TreenodeBack', WHERE WHAT IT READS IS OF BULK AT MOST 1048576: true; the input reads as it did. -/
def treenodeBackUptoRow : OpenClaim := { program := "ytonjaghkiaaipaa", sum := "8f9fc6c45f428e187ffd8281caffa115ce333c3e647cadc792d500829f29fd0d", func := "volumegroup/volumegrouplaw25.TreenodeBack", spec := "treenodeBack", inPlace := ["slices.overlaps[volumegroup/api.TreeEntry]"], unfollowed := true, recurses := true, apart := false, narrowed := true }
def TreenodeBackUptoSaid : Prop := treenodeBackUptoRow.holds Try.pinned (OpenSpec.upto treenodeBackSpec)

/-- 'volumegrouplaw25.TreenodeHalves', WHERE WHAT IT READS IS OF BULK AT MOST 1048576: true; the input reads as it did. -/
def treenodeHalvesUptoRow : OpenClaim := { program := "ytonjaghkiaaipaa", sum := "8f9fc6c45f428e187ffd8281caffa115ce333c3e647cadc792d500829f29fd0d", func := "volumegroup/volumegrouplaw25.TreenodeHalves", spec := "treenodeHalves", inPlace := ["slices.overlaps[volumegroup/api.TreeEntry]"], unfollowed := true, recurses := true, apart := false, narrowed := true }
def TreenodeHalvesUptoSaid : Prop := treenodeHalvesUptoRow.holds Try.pinned (OpenSpec.upto treenodeHalvesSpec)

end Rows
end Go.Proofs.Ytonjaghkiaaipaa
