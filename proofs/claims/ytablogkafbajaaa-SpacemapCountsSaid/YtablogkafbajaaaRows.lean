/-
  No cell of these rows narrows 'for every input' (looked for: loops, veiled, ifaces, maps, wideKeys, modest, calm, conditions, laid).
  DERIVED. THE GIVEN ROWS OF THIS SEAT. 5 by the template 'for every input the law returns true; each argument reads behind the call as it read before'; 0 by the template 'total and deterministic' (their statements: YtablogkafbajaaaTotals.lean).
  GIVEN WITH THE SEED: the statements are not yours to turn. If you find one false, say at which input.
  Laid BY PROGRAM, IN A SANDBOX (cutbox-rows.mjs): the forced cells as the released guide's own fill.sh prints them over the translation 32c3af7315597509… (all of the seat's roots in one cut). By AI agents, Wed Nov 11 2026. No macro, syntax, notation, axiom, sorry.
-/
import Derived.Test.YtablogkafbajaaaChecked
import GoSem.Claim
import GoSem.ClaimJoined
import GoSem.ClaimMapViews
import Derived.JoinedTies
import Derived.KernelRfl
namespace Go.Proofs.Ytablogkafbajaaa
/- THE CELL 'sum', in the pinned program and in every row, IS THE sha256 OF THE DUMP (.gsa) THAT YtablogkafbajaaaProg.lean LOADS. Nothing in Lean hashes anything: it is a label: what it is worth is what the hold of that sum in a sandbox is worth. -/
noncomputable def Try.pinned : Pinned := { name := "ytablogkafbajaaa", sum := "32c3af73155975096f2a522b7f1e3f3e1ee186fc68a1efde023494d4b49f6dfe", checked := Try.checked }
namespace Rows
def none {H : Type} : Left H := { results := [], args := [] }

/-- 'volumegrouplaw24.SpacemapMakes': WHATEVER THE INPUT: true; the input reads as it did. -/
def spacemapMakesSpec : ChangeSpec := { name := "spacemapMakes", fn := fun _ => fun
  | [d1, d2] => { results := [.lit (.bool true)], args := [d1, d2] }
  | _ => none }
def spacemapMakesRow : OpenClaim := { program := "ytablogkafbajaaa", sum := "32c3af73155975096f2a522b7f1e3f3e1ee186fc68a1efde023494d4b49f6dfe", func := "volumegroup/volumegrouplaw24.SpacemapMakes", spec := "spacemapMakes", apart := false }
def SpacemapMakesSaid : Prop := spacemapMakesRow.holds Try.pinned (OpenSpec.ofChange spacemapMakesSpec)

/-- ITS FALSE NEIGHBOUR: 'it returns false'. Refute it at one input. -/
def spacemapMakesWrong : ChangeSpec := { name := "spacemapMakes", fn := fun _ => fun
  | [d1, d2] => { results := [.lit (.bool false)], args := [d1, d2] }
  | _ => none }
def SpacemapMakesWrongFalsely : Prop := spacemapMakesRow.holds Try.pinned (OpenSpec.ofChange spacemapMakesWrong)

/-- 'volumegrouplaw24.SpacemapPlays': WHATEVER THE INPUT: true; the input reads as it did. -/
def spacemapPlaysSpec : ChangeSpec := { name := "spacemapPlays", fn := fun _ => fun
  | [d] => { results := [.lit (.bool true)], args := [d] }
  | _ => none }
def spacemapPlaysRow : OpenClaim := { program := "ytablogkafbajaaa", sum := "32c3af73155975096f2a522b7f1e3f3e1ee186fc68a1efde023494d4b49f6dfe", func := "volumegroup/volumegrouplaw24.SpacemapPlays", spec := "spacemapPlays", apart := false }
def SpacemapPlaysSaid : Prop := spacemapPlaysRow.holds Try.pinned (OpenSpec.ofChange spacemapPlaysSpec)

/-- ITS FALSE NEIGHBOUR: 'it returns false'. Refute it at one input. -/
def spacemapPlaysWrong : ChangeSpec := { name := "spacemapPlays", fn := fun _ => fun
  | [d] => { results := [.lit (.bool false)], args := [d] }
  | _ => none }
def SpacemapPlaysWrongFalsely : Prop := spacemapPlaysRow.holds Try.pinned (OpenSpec.ofChange spacemapPlaysWrong)

/-- 'volumegrouplaw24.SpacemapKeeps': WHATEVER THE INPUT: true; the input reads as it did. -/
def spacemapKeepsSpec : ChangeSpec := { name := "spacemapKeeps", fn := fun _ => fun
  | [d] => { results := [.lit (.bool true)], args := [d] }
  | _ => none }
def spacemapKeepsRow : OpenClaim := { program := "ytablogkafbajaaa", sum := "32c3af73155975096f2a522b7f1e3f3e1ee186fc68a1efde023494d4b49f6dfe", func := "volumegroup/volumegrouplaw24.SpacemapKeeps", spec := "spacemapKeeps", apart := false }
def SpacemapKeepsSaid : Prop := spacemapKeepsRow.holds Try.pinned (OpenSpec.ofChange spacemapKeepsSpec)

/-- ITS FALSE NEIGHBOUR: 'it returns false'. Refute it at one input. -/
def spacemapKeepsWrong : ChangeSpec := { name := "spacemapKeeps", fn := fun _ => fun
  | [d] => { results := [.lit (.bool false)], args := [d] }
  | _ => none }
def SpacemapKeepsWrongFalsely : Prop := spacemapKeepsRow.holds Try.pinned (OpenSpec.ofChange spacemapKeepsWrong)

/-- 'volumegrouplaw24.SpacemapRolls': WHATEVER THE INPUT: true; the input reads as it did. -/
def spacemapRollsSpec : ChangeSpec := { name := "spacemapRolls", fn := fun _ => fun
  | [d] => { results := [.lit (.bool true)], args := [d] }
  | _ => none }
def spacemapRollsRow : OpenClaim := { program := "ytablogkafbajaaa", sum := "32c3af73155975096f2a522b7f1e3f3e1ee186fc68a1efde023494d4b49f6dfe", func := "volumegroup/volumegrouplaw24.SpacemapRolls", spec := "spacemapRolls", apart := false }
def SpacemapRollsSaid : Prop := spacemapRollsRow.holds Try.pinned (OpenSpec.ofChange spacemapRollsSpec)

/-- ITS FALSE NEIGHBOUR: 'it returns false'. Refute it at one input. -/
def spacemapRollsWrong : ChangeSpec := { name := "spacemapRolls", fn := fun _ => fun
  | [d] => { results := [.lit (.bool false)], args := [d] }
  | _ => none }
def SpacemapRollsWrongFalsely : Prop := spacemapRollsRow.holds Try.pinned (OpenSpec.ofChange spacemapRollsWrong)

/-- 'volumegrouplaw24.SpacemapCounts': WHATEVER THE INPUT: true; the input reads as it did. -/
def spacemapCountsSpec : ChangeSpec := { name := "spacemapCounts", fn := fun _ => fun
  | [d] => { results := [.lit (.bool true)], args := [d] }
  | _ => none }
def spacemapCountsRow : OpenClaim := { program := "ytablogkafbajaaa", sum := "32c3af73155975096f2a522b7f1e3f3e1ee186fc68a1efde023494d4b49f6dfe", func := "volumegroup/volumegrouplaw24.SpacemapCounts", spec := "spacemapCounts", unfollowed := true, recurses := true, apart := false }
def SpacemapCountsSaid : Prop := spacemapCountsRow.holds Try.pinned (OpenSpec.ofChange spacemapCountsSpec)

/-- ITS FALSE NEIGHBOUR: 'it returns false'. Refute it at one input. -/
def spacemapCountsWrong : ChangeSpec := { name := "spacemapCounts", fn := fun _ => fun
  | [d] => { results := [.lit (.bool false)], args := [d] }
  | _ => none }
def SpacemapCountsWrongFalsely : Prop := spacemapCountsRow.holds Try.pinned (OpenSpec.ofChange spacemapCountsWrong)

/- THE SECOND FORM. 'bulk': how many values and letters a reading holds, each counted each time it is reached (what is shared counts as often as it is met; a slice's spare places count too). A statement '..UptoSaid' is the law's where the arguments, and the package variables that the reading takes, are together of bulk at most 1048576: NARROWER than '..Said'. Prove '..Said' where nothing that the law and all that it calls make is longer than what came in: it says more and counts as full. Else prove '..UptoSaid'. A law counts once. -/
mutual
def uptoBulk {H : Type} : DataW H → Nat
  | .lit (.string bytes) => bytes.length + 1
  | .lit _ => 1
  | .nil => 1
  | .ptr d => uptoBulk d + 1
  | .slice elems spare => uptoBulkAll elems + uptoBulkAll spare + 1
  | .agg parts => uptoBulkAll parts + 1
  | .iface _ d => uptoBulk d + 1
  | .map entries => uptoBulkEntries entries + 1
  | .held _ => 1
def uptoBulkAll {H : Type} : List (DataW H) → Nat
  | [] => 0
  | d :: r => uptoBulk d + uptoBulkAll r
def uptoBulkEntries {H : Type} : List (Lit × DataW H) → Nat
  | [] => 0
  | x :: r => uptoBulkEntry x + uptoBulkEntries r
def uptoBulkEntry {H : Type} : Lit × DataW H → Nat
  | (.string bytes, d) => bytes.length + uptoBulk d + 1
  | (_, d) => uptoBulk d + 1
 end
def uptoSmall : (H : Type) → List (DataW H) → Bool := fun _ ds => decide (uptoBulkAll ds ≤ 1048576)
def OpenSpec.upto (s : _root_.Go.ChangeSpec) : _root_.Go.OpenSpec := { _root_.Go.OpenSpec.ofChange s with cond := some uptoSmall }

/-- 'volumegrouplaw24.SpacemapMakes', WHERE WHAT IT READS IS OF BULK AT MOST 1048576: true; the input reads as it did. -/
def spacemapMakesUptoRow : OpenClaim := { program := "ytablogkafbajaaa", sum := "32c3af73155975096f2a522b7f1e3f3e1ee186fc68a1efde023494d4b49f6dfe", func := "volumegroup/volumegrouplaw24.SpacemapMakes", spec := "spacemapMakes", apart := false, narrowed := true }
def SpacemapMakesUptoSaid : Prop := spacemapMakesUptoRow.holds Try.pinned (OpenSpec.upto spacemapMakesSpec)

/-- 'volumegrouplaw24.SpacemapPlays', WHERE WHAT IT READS IS OF BULK AT MOST 1048576: true; the input reads as it did. -/
def spacemapPlaysUptoRow : OpenClaim := { program := "ytablogkafbajaaa", sum := "32c3af73155975096f2a522b7f1e3f3e1ee186fc68a1efde023494d4b49f6dfe", func := "volumegroup/volumegrouplaw24.SpacemapPlays", spec := "spacemapPlays", apart := false, narrowed := true }
def SpacemapPlaysUptoSaid : Prop := spacemapPlaysUptoRow.holds Try.pinned (OpenSpec.upto spacemapPlaysSpec)

/-- 'volumegrouplaw24.SpacemapKeeps', WHERE WHAT IT READS IS OF BULK AT MOST 1048576: true; the input reads as it did. -/
def spacemapKeepsUptoRow : OpenClaim := { program := "ytablogkafbajaaa", sum := "32c3af73155975096f2a522b7f1e3f3e1ee186fc68a1efde023494d4b49f6dfe", func := "volumegroup/volumegrouplaw24.SpacemapKeeps", spec := "spacemapKeeps", apart := false, narrowed := true }
def SpacemapKeepsUptoSaid : Prop := spacemapKeepsUptoRow.holds Try.pinned (OpenSpec.upto spacemapKeepsSpec)

/-- 'volumegrouplaw24.SpacemapRolls', WHERE WHAT IT READS IS OF BULK AT MOST 1048576: true; the input reads as it did. -/
def spacemapRollsUptoRow : OpenClaim := { program := "ytablogkafbajaaa", sum := "32c3af73155975096f2a522b7f1e3f3e1ee186fc68a1efde023494d4b49f6dfe", func := "volumegroup/volumegrouplaw24.SpacemapRolls", spec := "spacemapRolls", apart := false, narrowed := true }
def SpacemapRollsUptoSaid : Prop := spacemapRollsUptoRow.holds Try.pinned (OpenSpec.upto spacemapRollsSpec)

/-- 'volumegrouplaw24.SpacemapCounts', WHERE WHAT IT READS IS OF BULK AT MOST 1048576: true; the input reads as it did. -/
def spacemapCountsUptoRow : OpenClaim := { program := "ytablogkafbajaaa", sum := "32c3af73155975096f2a522b7f1e3f3e1ee186fc68a1efde023494d4b49f6dfe", func := "volumegroup/volumegrouplaw24.SpacemapCounts", spec := "spacemapCounts", unfollowed := true, recurses := true, apart := false, narrowed := true }
def SpacemapCountsUptoSaid : Prop := spacemapCountsUptoRow.holds Try.pinned (OpenSpec.upto spacemapCountsSpec)

end Rows
end Go.Proofs.Ytablogkafbajaaa
