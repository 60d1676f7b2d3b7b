/- LabelBits: for every label, every place and every burst. No condition. -/
import Derived.Test.YtbgbjgedjmhcaaaRows
import Derived.WalkKit
import Derived.ProofKit
import Derived.OpenShut
import Derived.ShutString
import Derived.ChangeOld
import Derived.Below
import Derived.Carry
import Derived.Test.YtbgbjgedjmhcaaaOD
import Derived.Test.YtbgbjgedjmhcaaaOE
import Derived.Test.YtbgbjgedjmhcaaaOA
import Derived.Test.YtbgbjgedjmhcaaaSyA
import Derived.Test.YtbgbjgedjmhcaaaSyB
import Derived.Test.YtbgbjgedjmhcaaaSyC
import Derived.Test.YtbgbjgedjmhcaaaSyD
import Derived.Test.YtbgbjgedjmhcaaaSyF
import Derived.Test.YtbgbjgedjmhcaaaSyG
import Derived.Test.YtbgbjgedjmhcaaaSyH
import Derived.Test.YtbgbjgedjmhcaaaSyI
import Derived.Test.YtbgbjgedjmhcaaaSyJ
import Derived.Test.YtbgbjgedjmhcaaaSyP
import Derived.Test.YtbgbjgedjmhcaaaSyE
import Derived.Test.YtbgbjgedjmhcaaaSyK
import Derived.Test.YtbgbjgedjmhcaaaSyL
import Derived.Test.YtbgbjgedjmhcaaaSyM
import Derived.Test.YtbgbjgedjmhcaaaSyN
import Derived.Test.YtbgbjgedjmhcaaaSyO
import Derived.Test.YtbgbjgedjmhcaaaSyQ
import Derived.Test.YtbgbjgedjmhcaaaSyR
import Derived.Test.YtbgbjgedjmhcaaaSyU
import Derived.Test.YtbgbjgedjmhcaaaSyV
import Derived.Test.YtbgbjgedjmhcaaaSyW
import Derived.Test.YtbgbjgedjmhcaaaSyX
import Derived.Test.YtbgbjgedjmhcaaaSyZ
import Derived.Test.YtbgbjgedjmhcaaaD1
import Derived.Test.YtbgbjgedjmhcaaaD2
import Derived.Test.YtbgbjgedjmhcaaaD3
import Derived.Test.YtbgbjgedjmhcaaaD4
import Derived.Test.YtbgbjgedjmhcaaaD5
import Derived.Test.YtbgbjgedjmhcaaaDK
import Derived.Test.YtbgbjgedjmhcaaaDL
import Derived.Test.YtbgbjgedjmhcaaaLA
import Derived.Test.YtbgbjgedjmhcaaaLB
import Derived.Test.YtbgbjgedjmhcaaaLC
import Derived.Test.YtbgbjgedjmhcaaaLD
import Derived.Test.YtbgbjgedjmhcaaaLF
import Derived.Test.YtbgbjgedjmhcaaaLG
import Derived.Test.YtbgbjgedjmhcaaaLH
import Derived.Test.YtbgbjgedjmhcaaaLI
import Derived.Test.YtbgbjgedjmhcaaaLJ
import Derived.Test.YtbgbjgedjmhcaaaDY
import Derived.Test.YtbgbjgedjmhcaaaDCb1
import Derived.Test.YtbgbjgedjmhcaaaDFl
import Derived.Test.YtbgbjgedjmhcaaaDSp
import Derived.Test.YtbgbjgedjmhcaaaLK
import Derived.Test.YtbgbjgedjmhcaaaLN
import Derived.Test.YtbgbjgedjmhcaaaLO
import Derived.Test.YtbgbjgedjmhcaaaLQ
import Derived.Test.YtbgbjgedjmhcaaaLS
import Derived.Test.YtbgbjgedjmhcaaaLP
import Derived.Test.YtbgbjgedjmhcaaaLR
namespace Go.Proofs.Ytbgbjgedjmhcaaa.labelBits
open Go.ChangeShapes Go.WideShapes Go.ChangeAt Go.RowKit
open Go.ChangeMaps (open_string shut_string)
set_option linter.unusedVariables false

theorem own : ownKnob Try.prog.godebug = none := by kernel_rfl
theorem laidOut : laidOutB Try.prog = true := by kernel_rfl

set_option maxRecDepth 100000 in
theorem walk {H : Type} {enc : TypeId × Value → H} {base : Nat} {d0 : DataW H} {p0 : List MemPlace} (v0 : Value) (a1 : Int) (a2 : Int) (w : World) (ok0 : Value.okWide Try.prog w .any base 24 v0) (k0 : DataW.Trod enc Try.prog w 0 (fun _ => true) true 24 v0 d0 p0) (w1 : (Lit.int .u16 a1).wf = true) (w2 : (Lit.int .u32 a2).wf = true) :
    Calls Try.prog 6 #[v0, .int .u16 a1, .int .u32 a2] w fun e w' => e = .returned (.bool true) ∧ Below w.heap.size w w' := by
  obtain ⟨i, s, t, a, g, rfl, hi, hg, _⟩ := open_label ok0 k0
  have h1 : 0 ≤ a1 ∧ a1 ≤ 65535 := by
    simp [Lit.wf, IntKind.min, IntKind.max, IntKind.signed, IntKind.bits] at w1
    omega
  have h2 : 0 ≤ a2 ∧ a2 ≤ 4294967295 := by
    simp [Lit.wf, IntKind.min, IntKind.max, IntKind.signed, IntKind.bits] at w2
    omega
  refine CallOK.lawB (lbits_any i s t a g a1 a2 hi hg h1 h2) (fun id o ho => by cases ho) (cargs := [_, _, _]) (E := fun _ => none) ?_ ⟨fun id o ho => (by cases ho), fun i j o p hi => (by cases hi)⟩
  exact ⟨_, _, rfl, ⟨[.int .u64 i, .int .i64 s, .int .i64 t, .int .i64 a, .int .u64 g], rfl, _, _, rfl, rfl, _, _, rfl, rfl, _, _, rfl, rfl, _, _, rfl, rfl, _, _, rfl, rfl, rfl⟩, _, _, rfl, rfl, _, _, rfl, rfl, rfl⟩

set_option maxRecDepth 100000 in
theorem lifted (os : Os) (started : os.Started) (H : Type) (enc : TypeId × Value → H) :
    ReturnsInHanded {} Try.checked os 6 .any (Rows.labelBitsSpec.pre6 enc Try.prog Try.f6 Rows.labelBitsRow.domain false) (Rows.labelBitsSpec.post enc Try.prog Try.f6 false true false false) := by
  refine returnsInHanded_of_change (C := Try.checked) own started (by kernel_rfl) Try.func6
    (ChangeSpec.witness6 (enc := enc) (C := Try.checked) false ⟨#[], #[.agg #[.int .u64 0, .int .i64 0, .int .i64 0, .int .i64 0, .int .u64 0], .int .u16 0, .int .u32 0], []⟩ 8 (by kernel_rfl) (by kernel_rfl) (by kernel_rfl) (by kernel_rfl)) ?_
  intro W base args ds gs before hval0 hW hcnd _
  have hval : ∀ (j : Nat) t v, Try.f6.params[j]? = some t → args[j]? = some v → Value.okWide Try.prog W .any base t v := hval0
  have hW' := hW
  obtain ⟨p, q, hA0, hV, rfl, hfz, hnd⟩ := hW
  have hA : DataW.TrodAll enc Try.prog W 0 (fun _ => true) true Try.f6.params.toList args.toList ds p := hA0
  rw [Try.params6] at hA hval
  obtain ⟨v0, vs0, d0, ds0, p0, q0, hargs, rfl, rfl, h0, r0⟩ := trodAll_cons hA
  obtain ⟨v1, vs1, d1, ds1, p1, q1, rfl, rfl, rfl, h1, r1⟩ := trodAll_cons r0
  obtain ⟨v2, vs2, d2, ds2, p2, q2, rfl, rfl, rfl, h2, r2⟩ := trodAll_cons r1
  obtain ⟨rfl, rfl, rfl⟩ := trodAll_nil r2
  obtain rfl : args = #[v0, v1, v2] := by cases args; simp_all
  obtain ⟨rfl, rfl⟩ := trodVars_none hV
  have k0 := h0
  have lt0 : ∀ x ∈ p0, x.block < W.heap.size := by obtain ⟨m, hm⟩ := k0; exact DataW.trod_lt m _ _ _ hm
  have ok0 := hval 0 24 v0 rfl rfl
  obtain ⟨a1, rfl, rfl, rfl, w1⟩ := open_int Try.underlying57 (hval 1 57 v1 rfl rfl) h1
  obtain ⟨a2, rfl, rfl, rfl, w2⟩ := open_int Try.underlying58 (hval 2 58 v2 rfl rfl) h2
  clear hA0 hval0
  refine (walk v0 a1 a2 W ok0 k0 w1 w2).mono fun e W' ⟨he, bel⟩ => ?_
  subst he
  exact ⟨_, rfl, _, _, _, [], _, [], hW', trodAll_mk1 (shut_bool Try.underlying4 _), (trodAll_cons_mk (Below.trod laidOut (by kernel_rfl) (of_decide_eq_true (by kernel_rfl)) k0 bel lt0) (trodAll_cons_mk (shut_int Try.underlying57 w1) (trodAll_cons_mk (shut_int Try.underlying58 w2) trodAll_mk0))), rfl, bel.frame _, fun h => by cases h⟩

theorem over : Rows.labelBitsRow.holds Try.pinned (OpenSpec.ofChange Rows.labelBitsSpec) :=
  OpenClaim.holds_of_wide 6 Try.f6 rfl rfl rfl rfl rfl rfl rfl ⟨rfl, rfl, rfl, rfl, rfl⟩ rfl rfl rfl rfl rfl (by kernel_rfl) Try.func6 (by kernel_rfl)
    (of_decide_eq_true (by kernel_rfl)) (by unfold Func.isWrapper; first | (rw [if_pos (by decide +kernel)]; kernel_rfl) | (rw [if_neg (by decide +kernel)]; exact ⟨rfl, rfl⟩))
    (fun os started H enc _ => lifted os started H enc)

theorem proved : Rows.LabelBitsSaid := over
#print axioms proved
end Go.Proofs.Ytbgbjgedjmhcaaa.labelBits
