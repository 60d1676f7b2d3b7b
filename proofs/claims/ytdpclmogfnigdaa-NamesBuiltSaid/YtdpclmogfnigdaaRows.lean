/-
  No cell of these rows narrows 'for every input' (looked for: loops, veiled, ifaces, maps, wideKeys, modest, calm, conditions, laid).
  DERIVED. THE GIVEN ROWS OF THIS SEAT. 5 by the template 'for every input the law returns true; each argument reads behind the call as it read before'; 0 by the template 'total and deterministic' (their statements: YtdpclmogfnigdaaTotals.lean).
  GIVEN WITH THE SEED: the statements are not yours to turn. If you find one false, say at which input.
  Laid BY PROGRAM, IN A SANDBOX (cutbox-rows.mjs): the forced cells as the released guide's own fill.sh prints them over the translation 50223e8d8c84cb6e… (all of the seat's roots in one cut). By AI agents, Wed Nov 11 2026. No macro, syntax, notation, axiom, sorry.
-/
import Derived.Test.YtdpclmogfnigdaaChecked
import GoSem.Claim
import GoSem.ClaimJoined
import GoSem.ClaimMapViews
import Derived.JoinedTies
import Derived.KernelRfl
namespace Go.Proofs.Ytdpclmogfnigdaa
/- THE CELL 'sum', in the pinned program and in every row, IS THE sha256 OF THE DUMP (.gsa) THAT YtdpclmogfnigdaaProg.lean LOADS. Nothing in Lean hashes anything: it is a label: what it is worth is what the hold of that sum in a sandbox is worth. -/
noncomputable def Try.pinned : Pinned := { name := "ytdpclmogfnigdaa", sum := "50223e8d8c84cb6ec1e9b855bd361fd36f76436a7ae0b616265f5913eecc79ff", checked := Try.checked }
namespace Rows
def none {H : Type} : Left H := { results := [], args := [] }

/-- 'volumegrouplaw08.NamesRaw': WHATEVER THE INPUT: true; the input reads as it did. -/
def namesRawSpec : ChangeSpec := { name := "namesRaw", fn := fun _ => fun
  | [d1, d2] => { results := [.lit (.bool true)], args := [d1, d2] }
  | _ => none }
def namesRawRow : OpenClaim := { program := "ytdpclmogfnigdaa", sum := "50223e8d8c84cb6ec1e9b855bd361fd36f76436a7ae0b616265f5913eecc79ff", func := "volumegroup/volumegrouplaw08.NamesRaw", spec := "namesRaw", inPlace := ["internal/bytealg.IndexByteString"], recurses := true, apart := false }
def NamesRawSaid : Prop := namesRawRow.holds Try.pinned (OpenSpec.ofChange namesRawSpec)

/-- ITS FALSE NEIGHBOUR: 'it returns false'. Refute it at one input. -/
def namesRawWrong : ChangeSpec := { name := "namesRaw", fn := fun _ => fun
  | [d1, d2] => { results := [.lit (.bool false)], args := [d1, d2] }
  | _ => none }
def NamesRawWrongFalsely : Prop := namesRawRow.holds Try.pinned (OpenSpec.ofChange namesRawWrong)

/-- 'volumegrouplaw08.NamesBuilt': WHATEVER THE INPUT: true; the input reads as it did. -/
def namesBuiltSpec : ChangeSpec := { name := "namesBuilt", fn := fun _ => fun
  | [d] => { results := [.lit (.bool true)], args := [d] }
  | _ => none }
def namesBuiltRow : OpenClaim := { program := "ytdpclmogfnigdaa", sum := "50223e8d8c84cb6ec1e9b855bd361fd36f76436a7ae0b616265f5913eecc79ff", func := "volumegroup/volumegrouplaw08.NamesBuilt", spec := "namesBuilt", inPlace := ["internal/bytealg.IndexByteString"], recurses := true, apart := false }
def NamesBuiltSaid : Prop := namesBuiltRow.holds Try.pinned (OpenSpec.ofChange namesBuiltSpec)

/-- ITS FALSE NEIGHBOUR: 'it returns false'. Refute it at one input. -/
def namesBuiltWrong : ChangeSpec := { name := "namesBuilt", fn := fun _ => fun
  | [d] => { results := [.lit (.bool false)], args := [d] }
  | _ => none }
def NamesBuiltWrongFalsely : Prop := namesBuiltRow.holds Try.pinned (OpenSpec.ofChange namesBuiltWrong)

/-- 'volumegrouplaw08.NamesBack': WHATEVER THE INPUT: true; the input reads as it did. -/
def namesBackSpec : ChangeSpec := { name := "namesBack", fn := fun _ => fun
  | [d] => { results := [.lit (.bool true)], args := [d] }
  | _ => none }
def namesBackRow : OpenClaim := { program := "ytdpclmogfnigdaa", sum := "50223e8d8c84cb6ec1e9b855bd361fd36f76436a7ae0b616265f5913eecc79ff", func := "volumegroup/volumegrouplaw08.NamesBack", spec := "namesBack", apart := false }
def NamesBackSaid : Prop := namesBackRow.holds Try.pinned (OpenSpec.ofChange namesBackSpec)

/-- ITS FALSE NEIGHBOUR: 'it returns false'. Refute it at one input. -/
def namesBackWrong : ChangeSpec := { name := "namesBack", fn := fun _ => fun
  | [d] => { results := [.lit (.bool false)], args := [d] }
  | _ => none }
def NamesBackWrongFalsely : Prop := namesBackRow.holds Try.pinned (OpenSpec.ofChange namesBackWrong)

/-- 'volumegrouplaw08.NamesIdentities': WHATEVER THE INPUT: true; the input reads as it did. -/
def namesIdentitiesSpec : ChangeSpec := { name := "namesIdentities", fn := fun _ => fun
  | [d1, d2, d3, d4] => { results := [.lit (.bool true)], args := [d1, d2, d3, d4] }
  | _ => none }
def namesIdentitiesRow : OpenClaim := { program := "ytdpclmogfnigdaa", sum := "50223e8d8c84cb6ec1e9b855bd361fd36f76436a7ae0b616265f5913eecc79ff", func := "volumegroup/volumegrouplaw08.NamesIdentities", spec := "namesIdentities", inPlace := ["internal/bytealg.IndexByteString"], apart := false }
def NamesIdentitiesSaid : Prop := namesIdentitiesRow.holds Try.pinned (OpenSpec.ofChange namesIdentitiesSpec)

/-- ITS FALSE NEIGHBOUR: 'it returns false'. Refute it at one input. -/
def namesIdentitiesWrong : ChangeSpec := { name := "namesIdentities", fn := fun _ => fun
  | [d1, d2, d3, d4] => { results := [.lit (.bool false)], args := [d1, d2, d3, d4] }
  | _ => none }
def NamesIdentitiesWrongFalsely : Prop := namesIdentitiesRow.holds Try.pinned (OpenSpec.ofChange namesIdentitiesWrong)

/-- 'volumegrouplaw08.NamesApart': WHATEVER THE INPUT: true; the input reads as it did. -/
def namesApartSpec : ChangeSpec := { name := "namesApart", fn := fun _ => fun
  | [d] => { results := [.lit (.bool true)], args := [d] }
  | _ => none }
def namesApartRow : OpenClaim := { program := "ytdpclmogfnigdaa", sum := "50223e8d8c84cb6ec1e9b855bd361fd36f76436a7ae0b616265f5913eecc79ff", func := "volumegroup/volumegrouplaw08.NamesApart", spec := "namesApart", apart := false }
def NamesApartSaid : Prop := namesApartRow.holds Try.pinned (OpenSpec.ofChange namesApartSpec)

/-- ITS FALSE NEIGHBOUR: 'it returns false'. Refute it at one input. -/
def namesApartWrong : ChangeSpec := { name := "namesApart", fn := fun _ => fun
  | [d] => { results := [.lit (.bool false)], args := [d] }
  | _ => none }
def NamesApartWrongFalsely : Prop := namesApartRow.holds Try.pinned (OpenSpec.ofChange namesApartWrong)

/- THE SECOND FORM. 'bulk': how many values and letters a reading holds, each counted each time it is reached (what is shared counts as often as it is met; a slice's spare places count too). A statement '..UptoSaid' is the law's where the arguments, and the package variables that the reading takes, are together of bulk at most 1048576: NARROWER than '..Said'. Prove '..Said' where nothing that the law and all that it calls make is longer than what came in: it says more and counts as full. Else prove '..UptoSaid'. A law counts once. -/
mutual
def uptoBulk {H : Type} : DataW H → Nat
  | .lit (.string bytes) => bytes.length + 1
  | .lit _ => 1
  | .nil => 1
  | .ptr d => uptoBulk d + 1
  | .slice elems spare => uptoBulkAll elems + uptoBulkAll spare + 1
  | .agg parts => uptoBulkAll parts + 1
  | .iface _ d => uptoBulk d + 1
  | .map entries => uptoBulkEntries entries + 1
  | .held _ => 1
def uptoBulkAll {H : Type} : List (DataW H) → Nat
  | [] => 0
  | d :: r => uptoBulk d + uptoBulkAll r
def uptoBulkEntries {H : Type} : List (Lit × DataW H) → Nat
  | [] => 0
  | x :: r => uptoBulkEntry x + uptoBulkEntries r
def uptoBulkEntry {H : Type} : Lit × DataW H → Nat
  | (.string bytes, d) => bytes.length + uptoBulk d + 1
  | (_, d) => uptoBulk d + 1
 end
def uptoSmall : (H : Type) → List (DataW H) → Bool := fun _ ds => decide (uptoBulkAll ds ≤ 1048576)
def OpenSpec.upto (s : _root_.Go.ChangeSpec) : _root_.Go.OpenSpec := { _root_.Go.OpenSpec.ofChange s with cond := some uptoSmall }

/-- 'volumegrouplaw08.NamesRaw', WHERE WHAT IT READS IS OF BULK AT MOST 1048576: true; the input reads as it did. -/
def namesRawUptoRow : OpenClaim := { program := "ytdpclmogfnigdaa", sum := "50223e8d8c84cb6ec1e9b855bd361fd36f76436a7ae0b616265f5913eecc79ff", func := "volumegroup/volumegrouplaw08.NamesRaw", spec := "namesRaw", inPlace := ["internal/bytealg.IndexByteString"], recurses := true, apart := false, narrowed := true }
def NamesRawUptoSaid : Prop := namesRawUptoRow.holds Try.pinned (OpenSpec.upto namesRawSpec)

/-- 'volumegrouplaw08.NamesBuilt', WHERE WHAT IT READS IS OF BULK AT MOST 1048576: true; the input reads as it did. -/
def namesBuiltUptoRow : OpenClaim := { program := "ytdpclmogfnigdaa", sum := "50223e8d8c84cb6ec1e9b855bd361fd36f76436a7ae0b616265f5913eecc79ff", func := "volumegroup/volumegrouplaw08.NamesBuilt", spec := "namesBuilt", inPlace := ["internal/bytealg.IndexByteString"], recurses := true, apart := false, narrowed := true }
def NamesBuiltUptoSaid : Prop := namesBuiltUptoRow.holds Try.pinned (OpenSpec.upto namesBuiltSpec)

/-- 'volumegrouplaw08.NamesBack', WHERE WHAT IT READS IS OF BULK AT MOST 1048576: true; the input reads as it did. -/
def namesBackUptoRow : OpenClaim := { program := "ytdpclmogfnigdaa", sum := "50223e8d8c84cb6ec1e9b855bd361fd36f76436a7ae0b616265f5913eecc79ff", func := "volumegroup/volumegrouplaw08.NamesBack", spec := "namesBack", apart := false, narrowed := true }
def NamesBackUptoSaid : Prop := namesBackUptoRow.holds Try.pinned (OpenSpec.upto namesBackSpec)

/-- 'volumegrouplaw08.NamesIdentities', WHERE WHAT IT READS IS OF BULK AT MOST 1048576: true; the input reads as it did. -/
def namesIdentitiesUptoRow : OpenClaim := { program := "ytdpclmogfnigdaa", sum := "50223e8d8c84cb6ec1e9b855bd361fd36f76436a7ae0b616265f5913eecc79ff", func := "volumegroup/volumegrouplaw08.NamesIdentities", spec := "namesIdentities", inPlace := ["internal/bytealg.IndexByteString"], apart := false, narrowed := true }
def NamesIdentitiesUptoSaid : Prop := namesIdentitiesUptoRow.holds Try.pinned (OpenSpec.upto namesIdentitiesSpec)

/-- 'volumegrouplaw08.NamesApart', WHERE WHAT IT READS IS OF BULK AT MOST 1048576: true; the input reads as it did. -/
def namesApartUptoRow : OpenClaim := { program := "ytdpclmogfnigdaa", sum := "50223e8d8c84cb6ec1e9b855bd361fd36f76436a7ae0b616265f5913eecc79ff", func := "volumegroup/volumegrouplaw08.NamesApart", spec := "namesApart", apart := false, narrowed := true }
def NamesApartUptoSaid : Prop := namesApartUptoRow.holds Try.pinned (OpenSpec.upto namesApartSpec)

end Rows
end Go.Proofs.Ytdpclmogfnigdaa
