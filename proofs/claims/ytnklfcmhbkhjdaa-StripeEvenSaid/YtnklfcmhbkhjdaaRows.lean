/-
  No cell of these rows narrows 'for every input' (looked for: loops, veiled, ifaces, maps, wideKeys, modest, calm, conditions, laid).
  DERIVED. THE GIVEN ROWS OF THIS SEAT. 4 by the template 'for every input the law returns true; each argument reads behind the call as it read before'; 0 by the template 'total and deterministic' (their statements: YtnklfcmhbkhjdaaTotals.lean).
  GIVEN WITH THE SEED: the statements are not yours to turn. If you find one false, say at which input.
  Laid BY PROGRAM, IN A SANDBOX (cutbox-rows.mjs): the forced cells as the released guide's own fill.sh prints them over the translation 9c3a99432b9318af… (all of the seat's roots in one cut). By AI agents, Wed Nov 11 2026. No macro, syntax, notation, axiom, sorry.
-/
import Derived.Test.YtnklfcmhbkhjdaaChecked
import GoSem.Claim
import GoSem.ClaimJoined
import GoSem.ClaimMapViews
import Derived.JoinedTies
import Derived.KernelRfl
namespace Go.Proofs.Ytnklfcmhbkhjdaa
/- THE CELL 'sum', in the pinned program and in every row, IS THE sha256 OF THE DUMP (.gsa) THAT YtnklfcmhbkhjdaaProg.lean LOADS. Nothing in Lean hashes anything: it is a label: what it is worth is what the hold of that sum in a sandbox is worth. -/
noncomputable def Try.pinned : Pinned := { name := "ytnklfcmhbkhjdaa", sum := "9c3a99432b9318affbe6002e2db2da7d75825eac2143c7e6302ff6569363a6e0", checked := Try.checked }
namespace Rows
def none {H : Type} : Left H := { results := [], args := [] }

/-- 'volumegrouplaw17.StripePlaces': WHATEVER THE INPUT: true; the input reads as it did. -/
def stripePlacesSpec : ChangeSpec := { name := "stripePlaces", fn := fun _ => fun
  | [d1, d2, d3, d4, d5] => { results := [.lit (.bool true)], args := [d1, d2, d3, d4, d5] }
  | _ => none }
def stripePlacesRow : OpenClaim := { program := "ytnklfcmhbkhjdaa", sum := "9c3a99432b9318affbe6002e2db2da7d75825eac2143c7e6302ff6569363a6e0", func := "volumegroup/volumegrouplaw17.StripePlaces", spec := "stripePlaces", plainKeys := false, apart := false }
def StripePlacesSaid : Prop := stripePlacesRow.holds Try.pinned (OpenSpec.ofChange stripePlacesSpec)

/-- ITS FALSE NEIGHBOUR: 'it returns false'. Refute it at one input. -/
def stripePlacesWrong : ChangeSpec := { name := "stripePlaces", fn := fun _ => fun
  | [d1, d2, d3, d4, d5] => { results := [.lit (.bool false)], args := [d1, d2, d3, d4, d5] }
  | _ => none }
def StripePlacesWrongFalsely : Prop := stripePlacesRow.holds Try.pinned (OpenSpec.ofChange stripePlacesWrong)

/-- 'volumegrouplaw17.StripeBack': WHATEVER THE INPUT: true; the input reads as it did. -/
def stripeBackSpec : ChangeSpec := { name := "stripeBack", fn := fun _ => fun
  | [d1, d2, d3, d4] => { results := [.lit (.bool true)], args := [d1, d2, d3, d4] }
  | _ => none }
def stripeBackRow : OpenClaim := { program := "ytnklfcmhbkhjdaa", sum := "9c3a99432b9318affbe6002e2db2da7d75825eac2143c7e6302ff6569363a6e0", func := "volumegroup/volumegrouplaw17.StripeBack", spec := "stripeBack", plainKeys := false, apart := false }
def StripeBackSaid : Prop := stripeBackRow.holds Try.pinned (OpenSpec.ofChange stripeBackSpec)

/-- ITS FALSE NEIGHBOUR: 'it returns false'. Refute it at one input. -/
def stripeBackWrong : ChangeSpec := { name := "stripeBack", fn := fun _ => fun
  | [d1, d2, d3, d4] => { results := [.lit (.bool false)], args := [d1, d2, d3, d4] }
  | _ => none }
def StripeBackWrongFalsely : Prop := stripeBackRow.holds Try.pinned (OpenSpec.ofChange stripeBackWrong)

/-- 'volumegrouplaw17.StripeSound': WHATEVER THE INPUT: true; the input reads as it did. -/
def stripeSoundSpec : ChangeSpec := { name := "stripeSound", fn := fun _ => fun
  | [d1, d2, d3] => { results := [.lit (.bool true)], args := [d1, d2, d3] }
  | _ => none }
def stripeSoundRow : OpenClaim := { program := "ytnklfcmhbkhjdaa", sum := "9c3a99432b9318affbe6002e2db2da7d75825eac2143c7e6302ff6569363a6e0", func := "volumegroup/volumegrouplaw17.StripeSound", spec := "stripeSound", unfollowed := true, recurses := true, plainKeys := false, apart := false }
def StripeSoundSaid : Prop := stripeSoundRow.holds Try.pinned (OpenSpec.ofChange stripeSoundSpec)

/-- ITS FALSE NEIGHBOUR: 'it returns false'. Refute it at one input. -/
def stripeSoundWrong : ChangeSpec := { name := "stripeSound", fn := fun _ => fun
  | [d1, d2, d3] => { results := [.lit (.bool false)], args := [d1, d2, d3] }
  | _ => none }
def StripeSoundWrongFalsely : Prop := stripeSoundRow.holds Try.pinned (OpenSpec.ofChange stripeSoundWrong)

/-- 'volumegrouplaw17.StripeEven': WHATEVER THE INPUT: true; the input reads as it did. -/
def stripeEvenSpec : ChangeSpec := { name := "stripeEven", fn := fun _ => fun
  | [d1, d2, d3] => { results := [.lit (.bool true)], args := [d1, d2, d3] }
  | _ => none }
def stripeEvenRow : OpenClaim := { program := "ytnklfcmhbkhjdaa", sum := "9c3a99432b9318affbe6002e2db2da7d75825eac2143c7e6302ff6569363a6e0", func := "volumegroup/volumegrouplaw17.StripeEven", spec := "stripeEven", plainKeys := false, apart := false }
def StripeEvenSaid : Prop := stripeEvenRow.holds Try.pinned (OpenSpec.ofChange stripeEvenSpec)

/-- ITS FALSE NEIGHBOUR: 'it returns false'. Refute it at one input. -/
def stripeEvenWrong : ChangeSpec := { name := "stripeEven", fn := fun _ => fun
  | [d1, d2, d3] => { results := [.lit (.bool false)], args := [d1, d2, d3] }
  | _ => none }
def StripeEvenWrongFalsely : Prop := stripeEvenRow.holds Try.pinned (OpenSpec.ofChange stripeEvenWrong)

/- THE SECOND FORM. 'bulk': how many values and letters a reading holds, each counted each time it is reached (what is shared counts as often as it is met; a slice's spare places count too). A statement '..UptoSaid' is the law's where the arguments, and the package variables that the reading takes, are together of bulk at most 1048576: NARROWER than '..Said'. Prove '..Said' where nothing that the law and all that it calls make is longer than what came in: it says more and counts as full. Else prove '..UptoSaid'. A law counts once. -/
mutual
def uptoBulk {H : Type} : DataW H → Nat
  | .lit (.string bytes) => bytes.length + 1
  | .lit _ => 1
  | .nil => 1
  | .ptr d => uptoBulk d + 1
  | .slice elems spare => uptoBulkAll elems + uptoBulkAll spare + 1
  | .agg parts => uptoBulkAll parts + 1
  | .iface _ d => uptoBulk d + 1
  | .map entries => uptoBulkEntries entries + 1
  | .held _ => 1
def uptoBulkAll {H : Type} : List (DataW H) → Nat
  | [] => 0
  | d :: r => uptoBulk d + uptoBulkAll r
def uptoBulkEntries {H : Type} : List (Lit × DataW H) → Nat
  | [] => 0
  | x :: r => uptoBulkEntry x + uptoBulkEntries r
def uptoBulkEntry {H : Type} : Lit × DataW H → Nat
  | (.string bytes, d) => bytes.length + uptoBulk d + 1
  | (_, d) => uptoBulk d + 1
 end
def uptoSmall : (H : Type) → List (DataW H) → Bool := fun _ ds => decide (uptoBulkAll ds ≤ 1048576)
def OpenSpec.upto (s : _root_.Go.ChangeSpec) : _root_.Go.OpenSpec := { _root_.Go.OpenSpec.ofChange s with cond := some uptoSmall }

/-- 'volumegrouplaw17.StripePlaces', WHERE WHAT IT READS IS OF BULK AT MOST 1048576: true; the input reads as it did. -/
def stripePlacesUptoRow : OpenClaim := { program := "ytnklfcmhbkhjdaa", sum := "9c3a99432b9318affbe6002e2db2da7d75825eac2143c7e6302ff6569363a6e0", func := "volumegroup/volumegrouplaw17.StripePlaces", spec := "stripePlaces", plainKeys := false, apart := false, narrowed := true }
def StripePlacesUptoSaid : Prop := stripePlacesUptoRow.holds Try.pinned (OpenSpec.upto stripePlacesSpec)

/-- 'volumegrouplaw17.StripeBack', WHERE WHAT IT READS IS OF BULK AT MOST 1048576: true; the input reads as it did. -/
def stripeBackUptoRow : OpenClaim := { program := "ytnklfcmhbkhjdaa", sum := "9c3a99432b9318affbe6002e2db2da7d75825eac2143c7e6302ff6569363a6e0", func := "volumegroup/volumegrouplaw17.StripeBack", spec := "stripeBack", plainKeys := false, apart := false, narrowed := true }
def StripeBackUptoSaid : Prop := stripeBackUptoRow.holds Try.pinned (OpenSpec.upto stripeBackSpec)

/-- 'volumegrouplaw17.StripeSound', WHERE WHAT IT READS IS OF BULK AT MOST 1048576: true; the input reads as it did. -/
def stripeSoundUptoRow : OpenClaim := { program := "ytnklfcmhbkhjdaa", sum := "9c3a99432b9318affbe6002e2db2da7d75825eac2143c7e6302ff6569363a6e0", func := "volumegroup/volumegrouplaw17.StripeSound", spec := "stripeSound", unfollowed := true, recurses := true, plainKeys := false, apart := false, narrowed := true }
def StripeSoundUptoSaid : Prop := stripeSoundUptoRow.holds Try.pinned (OpenSpec.upto stripeSoundSpec)

/-- 'volumegrouplaw17.StripeEven', WHERE WHAT IT READS IS OF BULK AT MOST 1048576: true; the input reads as it did. -/
def stripeEvenUptoRow : OpenClaim := { program := "ytnklfcmhbkhjdaa", sum := "9c3a99432b9318affbe6002e2db2da7d75825eac2143c7e6302ff6569363a6e0", func := "volumegroup/volumegrouplaw17.StripeEven", spec := "stripeEven", plainKeys := false, apart := false, narrowed := true }
def StripeEvenUptoSaid : Prop := stripeEvenUptoRow.holds Try.pinned (OpenSpec.upto stripeEvenSpec)

end Rows
end Go.Proofs.Ytnklfcmhbkhjdaa
