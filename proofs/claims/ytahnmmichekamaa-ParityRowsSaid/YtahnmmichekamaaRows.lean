/-
  No cell of these rows narrows 'for every input' (looked for: loops, veiled, ifaces, maps, wideKeys, modest, calm, conditions, laid).
  DERIVED. THE GIVEN ROWS OF THIS SEAT. 4 by the template 'for every input the law returns true; each argument reads behind the call as it read before'; 0 by the template 'total and deterministic' (their statements: YtahnmmichekamaaTotals.lean).
  GIVEN WITH THE SEED: the statements are not yours to turn. If you find one false, say at which input.
  Laid BY PROGRAM, IN A SANDBOX (cutbox-rows.mjs): the forced cells as the released guide's own fill.sh prints them over the translation 8d4013c28caffc46… (all of the seat's roots in one cut). By AI agents, Wed Nov 11 2026. No macro, syntax, notation, axiom, sorry.
-/
import Derived.Test.YtahnmmichekamaaChecked
import GoSem.Claim
import GoSem.ClaimJoined
import GoSem.ClaimMapViews
import Derived.JoinedTies
import Derived.KernelRfl
namespace Go.Proofs.Ytahnmmichekamaa
/- THE CELL 'sum', in the pinned program and in every row, IS THE sha256 OF THE DUMP (.gsa) THAT YtahnmmichekamaaProg.lean LOADS. Nothing in Lean hashes anything: it is a label: what it is worth is what the hold of that sum in a sandbox is worth. -/
noncomputable def Try.pinned : Pinned := { name := "ytahnmmichekamaa", sum := "8d4013c28caffc46a364608ca727b929f514a1882c9f3b115bc922b7293cedea", checked := Try.checked }
namespace Rows
def none {H : Type} : Left H := { results := [], args := [] }

/-- 'volumegrouplaw18.ParityPlaces': WHATEVER THE INPUT: true; the input reads as it did. -/
def parityPlacesSpec : ChangeSpec := { name := "parityPlaces", fn := fun _ => fun
  | [d1, d2, d3, d4, d5] => { results := [.lit (.bool true)], args := [d1, d2, d3, d4, d5] }
  | _ => none }
def parityPlacesRow : OpenClaim := { program := "ytahnmmichekamaa", sum := "8d4013c28caffc46a364608ca727b929f514a1882c9f3b115bc922b7293cedea", func := "volumegroup/volumegrouplaw18.ParityPlaces", spec := "parityPlaces", unfollowed := true, recurses := true, apart := false }
def ParityPlacesSaid : Prop := parityPlacesRow.holds Try.pinned (OpenSpec.ofChange parityPlacesSpec)

/-- ITS FALSE NEIGHBOUR: 'it returns false'. Refute it at one input. -/
def parityPlacesWrong : ChangeSpec := { name := "parityPlaces", fn := fun _ => fun
  | [d1, d2, d3, d4, d5] => { results := [.lit (.bool false)], args := [d1, d2, d3, d4, d5] }
  | _ => none }
def ParityPlacesWrongFalsely : Prop := parityPlacesRow.holds Try.pinned (OpenSpec.ofChange parityPlacesWrong)

/-- 'volumegrouplaw18.ParityRows': WHATEVER THE INPUT: true; the input reads as it did. -/
def parityRowsSpec : ChangeSpec := { name := "parityRows", fn := fun _ => fun
  | [d1, d2, d3] => { results := [.lit (.bool true)], args := [d1, d2, d3] }
  | _ => none }
def parityRowsRow : OpenClaim := { program := "ytahnmmichekamaa", sum := "8d4013c28caffc46a364608ca727b929f514a1882c9f3b115bc922b7293cedea", func := "volumegroup/volumegrouplaw18.ParityRows", spec := "parityRows", unfollowed := true, recurses := true, apart := false }
def ParityRowsSaid : Prop := parityRowsRow.holds Try.pinned (OpenSpec.ofChange parityRowsSpec)

/-- ITS FALSE NEIGHBOUR: 'it returns false'. Refute it at one input. -/
def parityRowsWrong : ChangeSpec := { name := "parityRows", fn := fun _ => fun
  | [d1, d2, d3] => { results := [.lit (.bool false)], args := [d1, d2, d3] }
  | _ => none }
def ParityRowsWrongFalsely : Prop := parityRowsRow.holds Try.pinned (OpenSpec.ofChange parityRowsWrong)

/-- 'volumegrouplaw18.ParityWords': WHATEVER THE INPUT: true; the input reads as it did. -/
def parityWordsSpec : ChangeSpec := { name := "parityWords", fn := fun _ => fun
  | [d1, d2, d3, d4, d5] => { results := [.lit (.bool true)], args := [d1, d2, d3, d4, d5] }
  | _ => none }
def parityWordsRow : OpenClaim := { program := "ytahnmmichekamaa", sum := "8d4013c28caffc46a364608ca727b929f514a1882c9f3b115bc922b7293cedea", func := "volumegroup/volumegrouplaw18.ParityWords", spec := "parityWords", unfollowed := true, recurses := true, apart := false }
def ParityWordsSaid : Prop := parityWordsRow.holds Try.pinned (OpenSpec.ofChange parityWordsSpec)

/-- ITS FALSE NEIGHBOUR: 'it returns false'. Refute it at one input. -/
def parityWordsWrong : ChangeSpec := { name := "parityWords", fn := fun _ => fun
  | [d1, d2, d3, d4, d5] => { results := [.lit (.bool false)], args := [d1, d2, d3, d4, d5] }
  | _ => none }
def ParityWordsWrongFalsely : Prop := parityWordsRow.holds Try.pinned (OpenSpec.ofChange parityWordsWrong)

/-- 'volumegrouplaw18.ParityRebuilds': WHATEVER THE INPUT: true; the input reads as it did. -/
def parityRebuildsSpec : ChangeSpec := { name := "parityRebuilds", fn := fun _ => fun
  | [d1, d2, d3] => { results := [.lit (.bool true)], args := [d1, d2, d3] }
  | _ => none }
def parityRebuildsRow : OpenClaim := { program := "ytahnmmichekamaa", sum := "8d4013c28caffc46a364608ca727b929f514a1882c9f3b115bc922b7293cedea", func := "volumegroup/volumegrouplaw18.ParityRebuilds", spec := "parityRebuilds", unfollowed := true, recurses := true, apart := false }
def ParityRebuildsSaid : Prop := parityRebuildsRow.holds Try.pinned (OpenSpec.ofChange parityRebuildsSpec)

/-- ITS FALSE NEIGHBOUR: 'it returns false'. Refute it at one input. -/
def parityRebuildsWrong : ChangeSpec := { name := "parityRebuilds", fn := fun _ => fun
  | [d1, d2, d3] => { results := [.lit (.bool false)], args := [d1, d2, d3] }
  | _ => none }
def ParityRebuildsWrongFalsely : Prop := parityRebuildsRow.holds Try.pinned (OpenSpec.ofChange parityRebuildsWrong)

/- THE SECOND FORM. 'bulk': how many values and letters a reading holds, each counted each time it is reached (what is shared counts as often as it is met; a slice's spare places count too). A statement '..UptoSaid' is the law's where the arguments, and the package variables that the reading takes, are together of bulk at most 1048576: NARROWER than '..Said'. Prove '..Said' where nothing that the law and all that it calls make is longer than what came in: it says more and counts as full. Else prove '..UptoSaid'. A law counts once. -/
mutual
def uptoBulk {H : Type} : DataW H → Nat
  | .lit (.string bytes) => bytes.length + 1
  | .lit _ => 1
  | .nil => 1
  | .ptr d => uptoBulk d + 1
  | .slice elems spare => uptoBulkAll elems + uptoBulkAll spare + 1
  | .agg parts => uptoBulkAll parts + 1
  | .iface _ d => uptoBulk d + 1
  | .map entries => uptoBulkEntries entries + 1
  | .held _ => 1
def uptoBulkAll {H : Type} : List (DataW H) → Nat
  | [] => 0
  | d :: r => uptoBulk d + uptoBulkAll r
def uptoBulkEntries {H : Type} : List (Lit × DataW H) → Nat
  | [] => 0
  | x :: r => uptoBulkEntry x + uptoBulkEntries r
def uptoBulkEntry {H : Type} : Lit × DataW H → Nat
  | (.string bytes, d) => bytes.length + uptoBulk d + 1
  | (_, d) => uptoBulk d + 1
 end
def uptoSmall : (H : Type) → List (DataW H) → Bool := fun _ ds => decide (uptoBulkAll ds ≤ 1048576)
def OpenSpec.upto (s : _root_.Go.ChangeSpec) : _root_.Go.OpenSpec := { _root_.Go.OpenSpec.ofChange s with cond := some uptoSmall }

/-- 'volumegrouplaw18.ParityPlaces', WHERE WHAT IT READS IS OF BULK AT MOST 1048576: true; the input reads as it did. -/
def parityPlacesUptoRow : OpenClaim := { program := "ytahnmmichekamaa", sum := "8d4013c28caffc46a364608ca727b929f514a1882c9f3b115bc922b7293cedea", func := "volumegroup/volumegrouplaw18.ParityPlaces", spec := "parityPlaces", unfollowed := true, recurses := true, apart := false, narrowed := true }
def ParityPlacesUptoSaid : Prop := parityPlacesUptoRow.holds Try.pinned (OpenSpec.upto parityPlacesSpec)

/-- 'volumegrouplaw18.ParityRows', WHERE WHAT IT READS IS OF BULK AT MOST 1048576: true; the input reads as it did. -/
def parityRowsUptoRow : OpenClaim := { program := "ytahnmmichekamaa", sum := "8d4013c28caffc46a364608ca727b929f514a1882c9f3b115bc922b7293cedea", func := "volumegroup/volumegrouplaw18.ParityRows", spec := "parityRows", unfollowed := true, recurses := true, apart := false, narrowed := true }
def ParityRowsUptoSaid : Prop := parityRowsUptoRow.holds Try.pinned (OpenSpec.upto parityRowsSpec)

/-- 'volumegrouplaw18.ParityWords', WHERE WHAT IT READS IS OF BULK AT MOST 1048576: true; the input reads as it did. -/
def parityWordsUptoRow : OpenClaim := { program := "ytahnmmichekamaa", sum := "8d4013c28caffc46a364608ca727b929f514a1882c9f3b115bc922b7293cedea", func := "volumegroup/volumegrouplaw18.ParityWords", spec := "parityWords", unfollowed := true, recurses := true, apart := false, narrowed := true }
def ParityWordsUptoSaid : Prop := parityWordsUptoRow.holds Try.pinned (OpenSpec.upto parityWordsSpec)

/-- 'volumegrouplaw18.ParityRebuilds', WHERE WHAT IT READS IS OF BULK AT MOST 1048576: true; the input reads as it did. -/
def parityRebuildsUptoRow : OpenClaim := { program := "ytahnmmichekamaa", sum := "8d4013c28caffc46a364608ca727b929f514a1882c9f3b115bc922b7293cedea", func := "volumegroup/volumegrouplaw18.ParityRebuilds", spec := "parityRebuilds", unfollowed := true, recurses := true, apart := false, narrowed := true }
def ParityRebuildsUptoSaid : Prop := parityRebuildsUptoRow.holds Try.pinned (OpenSpec.upto parityRebuildsSpec)

end Rows
end Go.Proofs.Ytahnmmichekamaa
