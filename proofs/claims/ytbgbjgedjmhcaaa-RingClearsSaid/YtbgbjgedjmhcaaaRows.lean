/-
  No cell of these rows narrows 'for every input' (looked for: loops, veiled, ifaces, maps, wideKeys, modest, calm, conditions, laid).
  DERIVED. THE GIVEN ROWS OF THIS SEAT. 10 by the template 'for every input the law returns true; each argument reads behind the call as it read before'; 0 by the template 'total and deterministic' (their statements: YtbgbjgedjmhcaaaTotals.lean).
  GIVEN WITH THE SEED: the statements are not yours to turn. If you find one false, say at which input.
  Laid BY PROGRAM, IN A SANDBOX (cutbox-rows.mjs): the forced cells as the released guide's own fill.sh prints them over the translation 9f647e9d8cd7e608… (all of the seat's roots in one cut). By AI agents, Wed Nov 11 2026. No macro, syntax, notation, axiom, sorry.
-/
import Derived.Test.YtbgbjgedjmhcaaaChecked
import GoSem.Claim
import GoSem.ClaimJoined
import GoSem.ClaimMapViews
import Derived.JoinedTies
import Derived.KernelRfl
namespace Go.Proofs.Ytbgbjgedjmhcaaa
/- THE CELL 'sum', in the pinned program and in every row, IS THE sha256 OF THE DUMP (.gsa) THAT YtbgbjgedjmhcaaaProg.lean LOADS. Nothing in Lean hashes anything: it is a label: what it is worth is what the hold of that sum in a sandbox is worth. -/
noncomputable def Try.pinned : Pinned := { name := "ytbgbjgedjmhcaaa", sum := "9f647e9d8cd7e608526eff6182b67f8d7d907c3141ffe02a8c98760329a9bc3a", checked := Try.checked }
namespace Rows
def none {H : Type} : Left H := { results := [], args := [] }

/-- 'volumegrouplaw11.LabelWords': WHATEVER THE INPUT: true; the input reads as it did. -/
def labelWordsSpec : ChangeSpec := { name := "labelWords", fn := fun _ => fun
  | [d1, d2, d3, d4] => { results := [.lit (.bool true)], args := [d1, d2, d3, d4] }
  | _ => none }
def labelWordsRow : OpenClaim := { program := "ytbgbjgedjmhcaaa", sum := "9f647e9d8cd7e608526eff6182b67f8d7d907c3141ffe02a8c98760329a9bc3a", func := "volumegroup/volumegrouplaw11.LabelWords", spec := "labelWords", unfollowed := true, recurses := true, plainKeys := false, apart := false }
def LabelWordsSaid : Prop := labelWordsRow.holds Try.pinned (OpenSpec.ofChange labelWordsSpec)

/-- ITS FALSE NEIGHBOUR: 'it returns false'. Refute it at one input. -/
def labelWordsWrong : ChangeSpec := { name := "labelWords", fn := fun _ => fun
  | [d1, d2, d3, d4] => { results := [.lit (.bool false)], args := [d1, d2, d3, d4] }
  | _ => none }
def LabelWordsWrongFalsely : Prop := labelWordsRow.holds Try.pinned (OpenSpec.ofChange labelWordsWrong)

/-- 'volumegrouplaw11.LabelDevices': WHATEVER THE INPUT: true; the input reads as it did. -/
def labelDevicesSpec : ChangeSpec := { name := "labelDevices", fn := fun _ => fun
  | [d1, d2, d3] => { results := [.lit (.bool true)], args := [d1, d2, d3] }
  | _ => none }
def labelDevicesRow : OpenClaim := { program := "ytbgbjgedjmhcaaa", sum := "9f647e9d8cd7e608526eff6182b67f8d7d907c3141ffe02a8c98760329a9bc3a", func := "volumegroup/volumegrouplaw11.LabelDevices", spec := "labelDevices", unfollowed := true, recurses := true, plainKeys := false, apart := false }
def LabelDevicesSaid : Prop := labelDevicesRow.holds Try.pinned (OpenSpec.ofChange labelDevicesSpec)

/-- ITS FALSE NEIGHBOUR: 'it returns false'. Refute it at one input. -/
def labelDevicesWrong : ChangeSpec := { name := "labelDevices", fn := fun _ => fun
  | [d1, d2, d3] => { results := [.lit (.bool false)], args := [d1, d2, d3] }
  | _ => none }
def LabelDevicesWrongFalsely : Prop := labelDevicesRow.holds Try.pinned (OpenSpec.ofChange labelDevicesWrong)

/-- 'volumegrouplaw11.LabelCrash': WHATEVER THE INPUT: true; the input reads as it did. -/
def labelCrashSpec : ChangeSpec := { name := "labelCrash", fn := fun _ => fun
  | [d1, d2, d3, d4] => { results := [.lit (.bool true)], args := [d1, d2, d3, d4] }
  | _ => none }
def labelCrashRow : OpenClaim := { program := "ytbgbjgedjmhcaaa", sum := "9f647e9d8cd7e608526eff6182b67f8d7d907c3141ffe02a8c98760329a9bc3a", func := "volumegroup/volumegrouplaw11.LabelCrash", spec := "labelCrash", unfollowed := true, recurses := true, plainKeys := false, apart := false }
def LabelCrashSaid : Prop := labelCrashRow.holds Try.pinned (OpenSpec.ofChange labelCrashSpec)

/-- ITS FALSE NEIGHBOUR: 'it returns false'. Refute it at one input. -/
def labelCrashWrong : ChangeSpec := { name := "labelCrash", fn := fun _ => fun
  | [d1, d2, d3, d4] => { results := [.lit (.bool false)], args := [d1, d2, d3, d4] }
  | _ => none }
def LabelCrashWrongFalsely : Prop := labelCrashRow.holds Try.pinned (OpenSpec.ofChange labelCrashWrong)

/-- 'volumegrouplaw11.LabelBits': WHATEVER THE INPUT: true; the input reads as it did. -/
def labelBitsSpec : ChangeSpec := { name := "labelBits", fn := fun _ => fun
  | [d1, d2, d3] => { results := [.lit (.bool true)], args := [d1, d2, d3] }
  | _ => none }
def labelBitsRow : OpenClaim := { program := "ytbgbjgedjmhcaaa", sum := "9f647e9d8cd7e608526eff6182b67f8d7d907c3141ffe02a8c98760329a9bc3a", func := "volumegroup/volumegrouplaw11.LabelBits", spec := "labelBits", unfollowed := true, recurses := true, plainKeys := false, apart := false }
def LabelBitsSaid : Prop := labelBitsRow.holds Try.pinned (OpenSpec.ofChange labelBitsSpec)

/-- ITS FALSE NEIGHBOUR: 'it returns false'. Refute it at one input. -/
def labelBitsWrong : ChangeSpec := { name := "labelBits", fn := fun _ => fun
  | [d1, d2, d3] => { results := [.lit (.bool false)], args := [d1, d2, d3] }
  | _ => none }
def LabelBitsWrongFalsely : Prop := labelBitsRow.holds Try.pinned (OpenSpec.ofChange labelBitsWrong)

/-- 'volumegrouplaw17.StripeSound': WHATEVER THE INPUT: true; the input reads as it did. -/
def stripeSoundSpec : ChangeSpec := { name := "stripeSound", fn := fun _ => fun
  | [d1, d2, d3] => { results := [.lit (.bool true)], args := [d1, d2, d3] }
  | _ => none }
def stripeSoundRow : OpenClaim := { program := "ytbgbjgedjmhcaaa", sum := "9f647e9d8cd7e608526eff6182b67f8d7d907c3141ffe02a8c98760329a9bc3a", func := "volumegroup/volumegrouplaw17.StripeSound", spec := "stripeSound", unfollowed := true, recurses := true, plainKeys := false, apart := false }
def StripeSoundSaid : Prop := stripeSoundRow.holds Try.pinned (OpenSpec.ofChange stripeSoundSpec)

/-- ITS FALSE NEIGHBOUR: 'it returns false'. Refute it at one input. -/
def stripeSoundWrong : ChangeSpec := { name := "stripeSound", fn := fun _ => fun
  | [d1, d2, d3] => { results := [.lit (.bool false)], args := [d1, d2, d3] }
  | _ => none }
def StripeSoundWrongFalsely : Prop := stripeSoundRow.holds Try.pinned (OpenSpec.ofChange stripeSoundWrong)

/-- 'volumegrouplaw12.RingAreas': WHATEVER THE INPUT: true; the input reads as it did. -/
def ringAreasSpec : ChangeSpec := { name := "ringAreas", fn := fun _ => fun
  | [d1, d2, d3, d4] => { results := [.lit (.bool true)], args := [d1, d2, d3, d4] }
  | _ => none }
def ringAreasRow : OpenClaim := { program := "ytbgbjgedjmhcaaa", sum := "9f647e9d8cd7e608526eff6182b67f8d7d907c3141ffe02a8c98760329a9bc3a", func := "volumegroup/volumegrouplaw12.RingAreas", spec := "ringAreas", unfollowed := true, recurses := true, plainKeys := false, apart := false }
def RingAreasSaid : Prop := ringAreasRow.holds Try.pinned (OpenSpec.ofChange ringAreasSpec)

/-- ITS FALSE NEIGHBOUR: 'it returns false'. Refute it at one input. -/
def ringAreasWrong : ChangeSpec := { name := "ringAreas", fn := fun _ => fun
  | [d1, d2, d3, d4] => { results := [.lit (.bool false)], args := [d1, d2, d3, d4] }
  | _ => none }
def RingAreasWrongFalsely : Prop := ringAreasRow.holds Try.pinned (OpenSpec.ofChange ringAreasWrong)

/-- 'volumegrouplaw12.RingClears': WHATEVER THE INPUT: true; the input reads as it did. -/
def ringClearsSpec : ChangeSpec := { name := "ringClears", fn := fun _ => fun
  | [d] => { results := [.lit (.bool true)], args := [d] }
  | _ => none }
def ringClearsRow : OpenClaim := { program := "ytbgbjgedjmhcaaa", sum := "9f647e9d8cd7e608526eff6182b67f8d7d907c3141ffe02a8c98760329a9bc3a", func := "volumegroup/volumegrouplaw12.RingClears", spec := "ringClears", unfollowed := true, recurses := true, plainKeys := false, apart := false }
def RingClearsSaid : Prop := ringClearsRow.holds Try.pinned (OpenSpec.ofChange ringClearsSpec)

/-- ITS FALSE NEIGHBOUR: 'it returns false'. Refute it at one input. -/
def ringClearsWrong : ChangeSpec := { name := "ringClears", fn := fun _ => fun
  | [d] => { results := [.lit (.bool false)], args := [d] }
  | _ => none }
def RingClearsWrongFalsely : Prop := ringClearsRow.holds Try.pinned (OpenSpec.ofChange ringClearsWrong)

/-- 'volumegrouplaw12.RingCrash': WHATEVER THE INPUT: true; the input reads as it did. -/
def ringCrashSpec : ChangeSpec := { name := "ringCrash", fn := fun _ => fun
  | [d1, d2, d3] => { results := [.lit (.bool true)], args := [d1, d2, d3] }
  | _ => none }
def ringCrashRow : OpenClaim := { program := "ytbgbjgedjmhcaaa", sum := "9f647e9d8cd7e608526eff6182b67f8d7d907c3141ffe02a8c98760329a9bc3a", func := "volumegroup/volumegrouplaw12.RingCrash", spec := "ringCrash", unfollowed := true, recurses := true, plainKeys := false, apart := false }
def RingCrashSaid : Prop := ringCrashRow.holds Try.pinned (OpenSpec.ofChange ringCrashSpec)

/-- ITS FALSE NEIGHBOUR: 'it returns false'. Refute it at one input. -/
def ringCrashWrong : ChangeSpec := { name := "ringCrash", fn := fun _ => fun
  | [d1, d2, d3] => { results := [.lit (.bool false)], args := [d1, d2, d3] }
  | _ => none }
def RingCrashWrongFalsely : Prop := ringCrashRow.holds Try.pinned (OpenSpec.ofChange ringCrashWrong)

/-- 'volumegrouplaw12.RingTurns': WHATEVER THE INPUT: true; the input reads as it did. -/
def ringTurnsSpec : ChangeSpec := { name := "ringTurns", fn := fun _ => fun
  | [d] => { results := [.lit (.bool true)], args := [d] }
  | _ => none }
def ringTurnsRow : OpenClaim := { program := "ytbgbjgedjmhcaaa", sum := "9f647e9d8cd7e608526eff6182b67f8d7d907c3141ffe02a8c98760329a9bc3a", func := "volumegroup/volumegrouplaw12.RingTurns", spec := "ringTurns", unfollowed := true, recurses := true, plainKeys := false, apart := false }
def RingTurnsSaid : Prop := ringTurnsRow.holds Try.pinned (OpenSpec.ofChange ringTurnsSpec)

/-- ITS FALSE NEIGHBOUR: 'it returns false'. Refute it at one input. -/
def ringTurnsWrong : ChangeSpec := { name := "ringTurns", fn := fun _ => fun
  | [d] => { results := [.lit (.bool false)], args := [d] }
  | _ => none }
def RingTurnsWrongFalsely : Prop := ringTurnsRow.holds Try.pinned (OpenSpec.ofChange ringTurnsWrong)

/-- 'volumegrouplaw12.RingKeeps': WHATEVER THE INPUT: true; the input reads as it did. -/
def ringKeepsSpec : ChangeSpec := { name := "ringKeeps", fn := fun _ => fun
  | [d] => { results := [.lit (.bool true)], args := [d] }
  | _ => none }
def ringKeepsRow : OpenClaim := { program := "ytbgbjgedjmhcaaa", sum := "9f647e9d8cd7e608526eff6182b67f8d7d907c3141ffe02a8c98760329a9bc3a", func := "volumegroup/volumegrouplaw12.RingKeeps", spec := "ringKeeps", unfollowed := true, recurses := true, plainKeys := false, apart := false }
def RingKeepsSaid : Prop := ringKeepsRow.holds Try.pinned (OpenSpec.ofChange ringKeepsSpec)

/-- ITS FALSE NEIGHBOUR: 'it returns false'. Refute it at one input. -/
def ringKeepsWrong : ChangeSpec := { name := "ringKeeps", fn := fun _ => fun
  | [d] => { results := [.lit (.bool false)], args := [d] }
  | _ => none }
def RingKeepsWrongFalsely : Prop := ringKeepsRow.holds Try.pinned (OpenSpec.ofChange ringKeepsWrong)

/- THE SECOND FORM. 'bulk': how many values and letters a reading holds, each counted each time it is reached (what is shared counts as often as it is met; a slice's spare places count too). A statement '..UptoSaid' is the law's where the arguments, and the package variables that the reading takes, are together of bulk at most 1048576: NARROWER than '..Said'. Prove '..Said' where nothing that the law and all that it calls make is longer than what came in: it says more and counts as full. Else prove '..UptoSaid'. A law counts once. -/
mutual
def uptoBulk {H : Type} : DataW H → Nat
  | .lit (.string bytes) => bytes.length + 1
  | .lit _ => 1
  | .nil => 1
  | .ptr d => uptoBulk d + 1
  | .slice elems spare => uptoBulkAll elems + uptoBulkAll spare + 1
  | .agg parts => uptoBulkAll parts + 1
  | .iface _ d => uptoBulk d + 1
  | .map entries => uptoBulkEntries entries + 1
  | .held _ => 1
def uptoBulkAll {H : Type} : List (DataW H) → Nat
  | [] => 0
  | d :: r => uptoBulk d + uptoBulkAll r
def uptoBulkEntries {H : Type} : List (Lit × DataW H) → Nat
  | [] => 0
  | x :: r => uptoBulkEntry x + uptoBulkEntries r
def uptoBulkEntry {H : Type} : Lit × DataW H → Nat
  | (.string bytes, d) => bytes.length + uptoBulk d + 1
  | (_, d) => uptoBulk d + 1
 end
def uptoSmall : (H : Type) → List (DataW H) → Bool := fun _ ds => decide (uptoBulkAll ds ≤ 1048576)
def OpenSpec.upto (s : _root_.Go.ChangeSpec) : _root_.Go.OpenSpec := { _root_.Go.OpenSpec.ofChange s with cond := some uptoSmall }

/-- 'volumegrouplaw11.LabelWords', WHERE WHAT IT READS IS OF BULK AT MOST 1048576: true; the input reads as it did. -/
def labelWordsUptoRow : OpenClaim := { program := "ytbgbjgedjmhcaaa", sum := "9f647e9d8cd7e608526eff6182b67f8d7d907c3141ffe02a8c98760329a9bc3a", func := "volumegroup/volumegrouplaw11.LabelWords", spec := "labelWords", unfollowed := true, recurses := true, plainKeys := false, apart := false, narrowed := true }
def LabelWordsUptoSaid : Prop := labelWordsUptoRow.holds Try.pinned (OpenSpec.upto labelWordsSpec)

/-- 'volumegrouplaw11.LabelDevices', WHERE WHAT IT READS IS OF BULK AT MOST 1048576: true; the input reads as it did. -/
def labelDevicesUptoRow : OpenClaim := { program := "ytbgbjgedjmhcaaa", sum := "9f647e9d8cd7e608526eff6182b67f8d7d907c3141ffe02a8c98760329a9bc3a", func := "volumegroup/volumegrouplaw11.LabelDevices", spec := "labelDevices", unfollowed := true, recurses := true, plainKeys := false, apart := false, narrowed := true }
def LabelDevicesUptoSaid : Prop := labelDevicesUptoRow.holds Try.pinned (OpenSpec.upto labelDevicesSpec)

/-- 'volumegrouplaw11.LabelCrash', WHERE WHAT IT READS IS OF BULK AT MOST 1048576: true; the input reads as it did. -/
def labelCrashUptoRow : OpenClaim := { program := "ytbgbjgedjmhcaaa", sum := "9f647e9d8cd7e608526eff6182b67f8d7d907c3141ffe02a8c98760329a9bc3a", func := "volumegroup/volumegrouplaw11.LabelCrash", spec := "labelCrash", unfollowed := true, recurses := true, plainKeys := false, apart := false, narrowed := true }
def LabelCrashUptoSaid : Prop := labelCrashUptoRow.holds Try.pinned (OpenSpec.upto labelCrashSpec)

/-- 'volumegrouplaw11.LabelBits', WHERE WHAT IT READS IS OF BULK AT MOST 1048576: true; the input reads as it did. -/
def labelBitsUptoRow : OpenClaim := { program := "ytbgbjgedjmhcaaa", sum := "9f647e9d8cd7e608526eff6182b67f8d7d907c3141ffe02a8c98760329a9bc3a", func := "volumegroup/volumegrouplaw11.LabelBits", spec := "labelBits", unfollowed := true, recurses := true, plainKeys := false, apart := false, narrowed := true }
def LabelBitsUptoSaid : Prop := labelBitsUptoRow.holds Try.pinned (OpenSpec.upto labelBitsSpec)

/-- 'volumegrouplaw17.StripeSound', WHERE WHAT IT READS IS OF BULK AT MOST 1048576: true; the input reads as it did. -/
def stripeSoundUptoRow : OpenClaim := { program := "ytbgbjgedjmhcaaa", sum := "9f647e9d8cd7e608526eff6182b67f8d7d907c3141ffe02a8c98760329a9bc3a", func := "volumegroup/volumegrouplaw17.StripeSound", spec := "stripeSound", unfollowed := true, recurses := true, plainKeys := false, apart := false, narrowed := true }
def StripeSoundUptoSaid : Prop := stripeSoundUptoRow.holds Try.pinned (OpenSpec.upto stripeSoundSpec)

/-- 'volumegrouplaw12.RingAreas', WHERE WHAT IT READS IS OF BULK AT MOST 1048576: true; the input reads as it did. -/
def ringAreasUptoRow : OpenClaim := { program := "ytbgbjgedjmhcaaa", sum := "9f647e9d8cd7e608526eff6182b67f8d7d907c3141ffe02a8c98760329a9bc3a", func := "volumegroup/volumegrouplaw12.RingAreas", spec := "ringAreas", unfollowed := true, recurses := true, plainKeys := false, apart := false, narrowed := true }
def RingAreasUptoSaid : Prop := ringAreasUptoRow.holds Try.pinned (OpenSpec.upto ringAreasSpec)

/-- 'volumegrouplaw12.RingClears', WHERE WHAT IT READS IS OF BULK AT MOST 1048576: true; the input reads as it did. -/
def ringClearsUptoRow : OpenClaim := { program := "ytbgbjgedjmhcaaa", sum := "9f647e9d8cd7e608526eff6182b67f8d7d907c3141ffe02a8c98760329a9bc3a", func := "volumegroup/volumegrouplaw12.RingClears", spec := "ringClears", unfollowed := true, recurses := true, plainKeys := false, apart := false, narrowed := true }
def RingClearsUptoSaid : Prop := ringClearsUptoRow.holds Try.pinned (OpenSpec.upto ringClearsSpec)

/-- 'volumegrouplaw12.RingCrash', WHERE WHAT IT READS IS OF BULK AT MOST 1048576: true; the input reads as it did. -/
def ringCrashUptoRow : OpenClaim := { program := "ytbgbjgedjmhcaaa", sum := "9f647e9d8cd7e608526eff6182b67f8d7d907c3141ffe02a8c98760329a9bc3a", func := "volumegroup/volumegrouplaw12.RingCrash", spec := "ringCrash", unfollowed := true, recurses := true, plainKeys := false, apart := false, narrowed := true }
def RingCrashUptoSaid : Prop := ringCrashUptoRow.holds Try.pinned (OpenSpec.upto ringCrashSpec)

/-- 'volumegrouplaw12.RingTurns', WHERE WHAT IT READS IS OF BULK AT MOST 1048576: true; the input reads as it did. -/
def ringTurnsUptoRow : OpenClaim := { program := "ytbgbjgedjmhcaaa", sum := "9f647e9d8cd7e608526eff6182b67f8d7d907c3141ffe02a8c98760329a9bc3a", func := "volumegroup/volumegrouplaw12.RingTurns", spec := "ringTurns", unfollowed := true, recurses := true, plainKeys := false, apart := false, narrowed := true }
def RingTurnsUptoSaid : Prop := ringTurnsUptoRow.holds Try.pinned (OpenSpec.upto ringTurnsSpec)

/-- 'volumegrouplaw12.RingKeeps', WHERE WHAT IT READS IS OF BULK AT MOST 1048576: true; the input reads as it did. -/
def ringKeepsUptoRow : OpenClaim := { program := "ytbgbjgedjmhcaaa", sum := "9f647e9d8cd7e608526eff6182b67f8d7d907c3141ffe02a8c98760329a9bc3a", func := "volumegroup/volumegrouplaw12.RingKeeps", spec := "ringKeeps", unfollowed := true, recurses := true, plainKeys := false, apart := false, narrowed := true }
def RingKeepsUptoSaid : Prop := ringKeepsUptoRow.holds Try.pinned (OpenSpec.upto ringKeepsSpec)

end Rows
end Go.Proofs.Ytbgbjgedjmhcaaa
