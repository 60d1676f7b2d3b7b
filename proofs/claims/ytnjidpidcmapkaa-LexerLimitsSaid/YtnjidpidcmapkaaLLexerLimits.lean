/- LexerLimits: for every number of eight bits the law returns true. No condition. -/
import Derived.Test.YtnjidpidcmapkaaRows
import Derived.WalkKit
import Derived.ProofKit
import Derived.OpenShut
import Derived.ShutString
import Derived.ChangeOld
import Derived.Below
import Derived.Carry
import Derived.Test.YtnjidpidcmapkaaSyA
import Derived.Test.YtnjidpidcmapkaaSyB
import Derived.Test.YtnjidpidcmapkaaSyC
import Derived.Test.YtnjidpidcmapkaaSyD
import Derived.Test.YtnjidpidcmapkaaSyF
import Derived.Test.YtnjidpidcmapkaaSyG
import Derived.Test.YtnjidpidcmapkaaSyH
import Derived.Test.YtnjidpidcmapkaaSyI
import Derived.Test.YtnjidpidcmapkaaSyJ
import Derived.Test.YtnjidpidcmapkaaSyP
import Derived.Test.YtnjidpidcmapkaaSyE
import Derived.Test.YtnjidpidcmapkaaSyK
import Derived.Test.YtnjidpidcmapkaaSyL
import Derived.Test.YtnjidpidcmapkaaSyM
import Derived.Test.YtnjidpidcmapkaaSyN
import Derived.Test.YtnjidpidcmapkaaSyO
import Derived.Test.YtnjidpidcmapkaaSyQ
import Derived.Test.YtnjidpidcmapkaaSyR
import Derived.Test.YtnjidpidcmapkaaSyU
import Derived.Test.YtnjidpidcmapkaaSyV
import Derived.Test.YtnjidpidcmapkaaSyW
import Derived.Test.YtnjidpidcmapkaaSyX
import Derived.Test.YtnjidpidcmapkaaSyZ
import Derived.Test.YtnjidpidcmapkaaX0
import Derived.Test.YtnjidpidcmapkaaX1
import Derived.Test.YtnjidpidcmapkaaX2
import Derived.Test.YtnjidpidcmapkaaX3
import Derived.Test.YtnjidpidcmapkaaX4
import Derived.Test.YtnjidpidcmapkaaX5
import Derived.Test.YtnjidpidcmapkaaX6
import Derived.Test.YtnjidpidcmapkaaX7
import Derived.Test.YtnjidpidcmapkaaX8
import Derived.Test.YtnjidpidcmapkaaX9
import Derived.Test.YtnjidpidcmapkaaXA
import Derived.Test.YtnjidpidcmapkaaXB
import Derived.Test.YtnjidpidcmapkaaXC
import Derived.Test.YtnjidpidcmapkaaXF
namespace Go.Proofs.Ytnjidpidcmapkaa.lexerLimits
open Go.ChangeShapes Go.WideShapes Go.ChangeAt Go.RowKit
open Go.ChangeMaps (open_string shut_string)
set_option linter.unusedVariables false

theorem own : ownKnob Try.prog.godebug = none := by kernel_rfl
theorem laidOut : laidOutB Try.prog = true := by kernel_rfl

theorem walk (n : Int) (w : World) (w0 : (Lit.int .u8 n).wf = true) :
    Calls Try.prog 7 #[.int .u8 n] w fun e w' => e = .returned (.bool true) ∧ Below w.heap.size w w' := by
  have hn : 0 ≤ n ∧ n < 256 := by
    simp [Lit.wf, IntKind.min, IntKind.max, IntKind.signed, IntKind.bits] at w0
    omega
  exact CallOK.lawB (limits_any n hn _ rfl) (fun id o ho => by simp [find] at ho) (cargs := [.int .u8 n]) (E := fun _ => none) ⟨_, _, rfl, rfl, rfl⟩ ⟨fun id o ho => by simp [find] at ho, fun id id' o o' ho => by simp [find] at ho⟩

set_option maxRecDepth 100000 in
theorem lifted (os : Os) (started : os.Started) (H : Type) (enc : TypeId × Value → H) :
    ReturnsInHanded {} Try.checked os 7 .any (Rows.lexerLimitsSpec.pre6 enc Try.prog Try.f7 Rows.lexerLimitsRow.domain false) (Rows.lexerLimitsSpec.post enc Try.prog Try.f7 false true false false) := by
  refine returnsInHanded_of_change (C := Try.checked) own started (by kernel_rfl) Try.func7
    (ChangeSpec.witness6 (enc := enc) (C := Try.checked) false ⟨#[], #[.int .u8 0], []⟩ 8 (by kernel_rfl) (by kernel_rfl) (by kernel_rfl) (by kernel_rfl)) ?_
  intro W base args ds gs before hval0 hW hcnd _
  have hval : ∀ (j : Nat) t v, Try.f7.params[j]? = some t → args[j]? = some v → Value.okWide Try.prog W .any base t v := hval0
  have hW' := hW
  obtain ⟨p, q, hA0, hV, rfl, hfz, hnd⟩ := hW
  have hA : DataW.TrodAll enc Try.prog W 0 (fun _ => true) true Try.f7.params.toList args.toList ds p := hA0
  rw [Try.params7] at hA hval
  obtain ⟨v0, vs0, d0, ds0, p0, q0, hargs, rfl, rfl, h0, r0⟩ := trodAll_cons hA
  obtain ⟨rfl, rfl, rfl⟩ := trodAll_nil r0
  obtain rfl : args = #[v0] := by cases args; simp_all
  obtain ⟨rfl, rfl⟩ := trodVars_none hV
  obtain ⟨a0, rfl, rfl, rfl, w0⟩ := open_int Try.underlying5 (hval 0 5 v0 rfl rfl) h0
  clear hA0 hval0
  refine (walk a0 W w0).mono fun e W' ⟨he, bel⟩ => ?_
  subst he
  exact ⟨_, rfl, _, _, _, [], _, [], hW', trodAll_mk1 (shut_bool Try.underlying4 _), (trodAll_cons_mk (shut_int Try.underlying5 w0) trodAll_mk0), rfl, bel.frame _, fun h => by cases h⟩

theorem over : Rows.lexerLimitsRow.holds Try.pinned (OpenSpec.ofChange Rows.lexerLimitsSpec) :=
  OpenClaim.holds_of_wide 7 Try.f7 rfl rfl rfl rfl rfl rfl rfl ⟨rfl, rfl, rfl, rfl, rfl⟩ rfl rfl rfl rfl rfl (by kernel_rfl) Try.func7 (by kernel_rfl)
    (of_decide_eq_true (by kernel_rfl)) (by unfold Func.isWrapper; first | (rw [if_pos (by decide +kernel)]; kernel_rfl) | (rw [if_neg (by decide +kernel)]; exact ⟨rfl, rfl⟩))
    (fun os started H enc _ => lifted os started H enc)

theorem proved : Rows.LexerLimitsSaid := over
#print axioms proved
end Go.Proofs.Ytnjidpidcmapkaa.lexerLimits
