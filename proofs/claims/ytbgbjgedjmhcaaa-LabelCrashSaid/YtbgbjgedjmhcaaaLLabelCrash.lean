/- LabelCrash: for every choice, every fuse and every number. No condition. -/
import Derived.Test.YtbgbjgedjmhcaaaRows
import Derived.WalkKit
import Derived.ProofKit
import Derived.OpenShut
import Derived.ShutString
import Derived.ChangeOld
import Derived.Below
import Derived.Carry
import Derived.Test.YtbgbjgedjmhcaaaSyA
import Derived.Test.YtbgbjgedjmhcaaaSyB
import Derived.Test.YtbgbjgedjmhcaaaSyC
import Derived.Test.YtbgbjgedjmhcaaaSyD
import Derived.Test.YtbgbjgedjmhcaaaSyF
import Derived.Test.YtbgbjgedjmhcaaaSyG
import Derived.Test.YtbgbjgedjmhcaaaSyH
import Derived.Test.YtbgbjgedjmhcaaaSyI
import Derived.Test.YtbgbjgedjmhcaaaSyJ
import Derived.Test.YtbgbjgedjmhcaaaSyP
import Derived.Test.YtbgbjgedjmhcaaaSyE
import Derived.Test.YtbgbjgedjmhcaaaSyK
import Derived.Test.YtbgbjgedjmhcaaaSyY
import Derived.Test.YtbgbjgedjmhcaaaSyL
import Derived.Test.YtbgbjgedjmhcaaaSyM
import Derived.Test.YtbgbjgedjmhcaaaSyN
import Derived.Test.YtbgbjgedjmhcaaaSyO
import Derived.Test.YtbgbjgedjmhcaaaSyQ
import Derived.Test.YtbgbjgedjmhcaaaSyR
import Derived.Test.YtbgbjgedjmhcaaaSyU
import Derived.Test.YtbgbjgedjmhcaaaSyV
import Derived.Test.YtbgbjgedjmhcaaaSyW
import Derived.Test.YtbgbjgedjmhcaaaSyX
import Derived.Test.YtbgbjgedjmhcaaaSyZ
import Derived.Test.YtbgbjgedjmhcaaaD3
import Derived.Test.YtbgbjgedjmhcaaaLA
import Derived.Test.YtbgbjgedjmhcaaaOA
import Derived.Test.YtbgbjgedjmhcaaaOD
import Derived.Test.YtbgbjgedjmhcaaaD1
import Derived.Test.YtbgbjgedjmhcaaaD2
import Derived.Test.YtbgbjgedjmhcaaaD5
import Derived.Test.YtbgbjgedjmhcaaaLB
import Derived.Test.YtbgbjgedjmhcaaaLC
import Derived.Test.YtbgbjgedjmhcaaaLD
import Derived.Test.YtbgbjgedjmhcaaaLF
import Derived.Test.YtbgbjgedjmhcaaaD4
import Derived.Test.YtbgbjgedjmhcaaaOE
import Derived.Test.YtbgbjgedjmhcaaaDK
import Derived.Test.YtbgbjgedjmhcaaaLG
import Derived.Test.YtbgbjgedjmhcaaaLH
import Derived.Test.YtbgbjgedjmhcaaaLI
import Derived.Test.YtbgbjgedjmhcaaaLJ
import Derived.Test.YtbgbjgedjmhcaaaDFl
import Derived.Test.YtbgbjgedjmhcaaaDSp
import Derived.Test.YtbgbjgedjmhcaaaDY
import Derived.Test.YtbgbjgedjmhcaaaDCb1
import Derived.Test.YtbgbjgedjmhcaaaLK
import Derived.Test.YtbgbjgedjmhcaaaLW
import Derived.Test.YtbgbjgedjmhcaaaDL
import Derived.Test.YtbgbjgedjmhcaaaDM
import Derived.Test.YtbgbjgedjmhcaaaDS
import Derived.Test.YtbgbjgedjmhcaaaLO
import Derived.Test.YtbgbjgedjmhcaaaLCx
namespace Go.Proofs.Ytbgbjgedjmhcaaa.labelCrash
open Go.ChangeShapes Go.WideShapes Go.ChangeAt Go.RowKit
open Go.ChangeMaps (open_string shut_string)
set_option linter.unusedVariables false

theorem own : ownKnob Try.prog.godebug = none := by kernel_rfl
theorem laidOut : laidOutB Try.prog = true := by kernel_rfl

theorem walk (a0 a1 : Bool) (a2 a3 : Int) (w : World) (w2 : (Lit.int .u8 a2).wf = true) (w3 : (Lit.int .u64 a3).wf = true) :
    Calls Try.prog 5 #[.bool a0, .bool a1, .int .u8 a2, .int .u64 a3] w fun e w' => e = .returned (.bool true) ∧ Below w.heap.size w w' := by
  have hn : 0 ≤ a2 ∧ a2 ≤ 255 := by simp [Lit.wf, IntKind.min, IntKind.max, IntKind.signed, IntKind.bits] at w2; omega
  refine CallOK.lawB (lcr_any a0 a1 a2 a3 hn) (fun id o ho => by simp [find] at ho) (cargs := [_, _, _, _]) (E := fun _ => none) ?_ ⟨fun id o ho => by simp [find] at ho, fun id id' o o' h1 => by simp [find] at h1⟩
  exact ⟨_, _, rfl, rfl, _, _, rfl, rfl, _, _, rfl, rfl, _, _, rfl, rfl, rfl⟩

set_option maxRecDepth 100000 in
theorem lifted (os : Os) (started : os.Started) (H : Type) (enc : TypeId × Value → H) :
    ReturnsInHanded {} Try.checked os 5 .any (Rows.labelCrashSpec.pre6 enc Try.prog Try.f5 Rows.labelCrashRow.domain false) (Rows.labelCrashSpec.post enc Try.prog Try.f5 false true false false) := by
  refine returnsInHanded_of_change (C := Try.checked) own started (by kernel_rfl) Try.func5
    (ChangeSpec.witness6 (enc := enc) (C := Try.checked) false ⟨#[], #[.bool false, .bool false, .int .u8 0, .int .u64 0], []⟩ 8 (by kernel_rfl) (by kernel_rfl) (by kernel_rfl) (by kernel_rfl)) ?_
  intro W base args ds gs before hval0 hW hcnd _
  have hval : ∀ (j : Nat) t v, Try.f5.params[j]? = some t → args[j]? = some v → Value.okWide Try.prog W .any base t v := hval0
  have hW' := hW
  obtain ⟨p, q, hA0, hV, rfl, hfz, hnd⟩ := hW
  have hA : DataW.TrodAll enc Try.prog W 0 (fun _ => true) true Try.f5.params.toList args.toList ds p := hA0
  rw [Try.params5] at hA hval
  obtain ⟨v0, vs0, d0, ds0, p0, q0, hargs, rfl, rfl, h0, r0⟩ := trodAll_cons hA
  obtain ⟨v1, vs1, d1, ds1, p1, q1, rfl, rfl, rfl, h1, r1⟩ := trodAll_cons r0
  obtain ⟨v2, vs2, d2, ds2, p2, q2, rfl, rfl, rfl, h2, r2⟩ := trodAll_cons r1
  obtain ⟨v3, vs3, d3, ds3, p3, q3, rfl, rfl, rfl, h3, r3⟩ := trodAll_cons r2
  obtain ⟨rfl, rfl, rfl⟩ := trodAll_nil r3
  obtain rfl : args = #[v0, v1, v2, v3] := by cases args; simp_all
  obtain ⟨rfl, rfl⟩ := trodVars_none hV
  obtain ⟨a0, rfl, rfl, rfl⟩ := open_bool Try.underlying4 (hval 0 4 v0 rfl rfl) h0
  obtain ⟨a1, rfl, rfl, rfl⟩ := open_bool Try.underlying4 (hval 1 4 v1 rfl rfl) h1
  obtain ⟨a2, rfl, rfl, rfl, w2⟩ := open_int Try.underlying5 (hval 2 5 v2 rfl rfl) h2
  obtain ⟨a3, rfl, rfl, rfl, w3⟩ := open_int Try.underlying22 (hval 3 22 v3 rfl rfl) h3
  clear hA0 hval0
  refine (walk a0 a1 a2 a3 W w2 w3).mono fun e W' ⟨he, bel⟩ => ?_
  subst he
  exact ⟨_, rfl, _, _, _, [], _, [], hW', trodAll_mk1 (shut_bool Try.underlying4 _), (trodAll_cons_mk (shut_bool Try.underlying4 _) (trodAll_cons_mk (shut_bool Try.underlying4 _) (trodAll_cons_mk (shut_int Try.underlying5 w2) (trodAll_cons_mk (shut_int Try.underlying22 w3) trodAll_mk0)))), rfl, bel.frame _, fun h => by cases h⟩

theorem over : Rows.labelCrashRow.holds Try.pinned (OpenSpec.ofChange Rows.labelCrashSpec) :=
  OpenClaim.holds_of_wide 5 Try.f5 rfl rfl rfl rfl rfl rfl rfl ⟨rfl, rfl, rfl, rfl, rfl⟩ rfl rfl rfl rfl rfl (by kernel_rfl) Try.func5 (by kernel_rfl)
    (of_decide_eq_true (by kernel_rfl)) (by unfold Func.isWrapper; first | (rw [if_pos (by decide +kernel)]; kernel_rfl) | (rw [if_neg (by decide +kernel)]; exact ⟨rfl, rfl⟩))
    (fun os started H enc _ => lifted os started H enc)

theorem proved : Rows.LabelCrashSaid := over
#print axioms proved
end Go.Proofs.Ytbgbjgedjmhcaaa.labelCrash
