/- TreenodeHalves: for every list of numbers, every number and every word. No condition. -/
import Derived.Test.YtonjaghkiaaipaaRows
import Derived.WalkKit
import Derived.ProofKit
import Derived.OpenShut
import Derived.ShutString
import Derived.ChangeOld
import Derived.Below
import Derived.Carry
import Derived.Test.YtonjaghkiaaipaaOA
import Derived.Test.YtonjaghkiaaipaaOB
import Derived.Test.YtonjaghkiaaipaaSyA
import Derived.Test.YtonjaghkiaaipaaSyB
import Derived.Test.YtonjaghkiaaipaaSyC
import Derived.Test.YtonjaghkiaaipaaSyD
import Derived.Test.YtonjaghkiaaipaaSyF
import Derived.Test.YtonjaghkiaaipaaSyG
import Derived.Test.YtonjaghkiaaipaaSyH
import Derived.Test.YtonjaghkiaaipaaSyI
import Derived.Test.YtonjaghkiaaipaaSyJ
import Derived.Test.YtonjaghkiaaipaaSyP
import Derived.Test.YtonjaghkiaaipaaSyE
import Derived.Test.YtonjaghkiaaipaaSyK
import Derived.Test.YtonjaghkiaaipaaSyL
import Derived.Test.YtonjaghkiaaipaaSyM
import Derived.Test.YtonjaghkiaaipaaSyN
import Derived.Test.YtonjaghkiaaipaaSyO
import Derived.Test.YtonjaghkiaaipaaSyQ
import Derived.Test.YtonjaghkiaaipaaSyR
import Derived.Test.YtonjaghkiaaipaaSyU
import Derived.Test.YtonjaghkiaaipaaSyV
import Derived.Test.YtonjaghkiaaipaaSyW
import Derived.Test.YtonjaghkiaaipaaSyX
import Derived.Test.YtonjaghkiaaipaaSyZ
import Derived.Test.YtonjaghkiaaipaaW0
import Derived.Test.YtonjaghkiaaipaaW1
import Derived.Test.YtonjaghkiaaipaaW2
import Derived.Test.YtonjaghkiaaipaaW3
import Derived.Test.YtonjaghkiaaipaaW4
import Derived.Test.YtonjaghkiaaipaaW5
import Derived.Test.YtonjaghkiaaipaaW6
import Derived.Test.YtonjaghkiaaipaaW7
import Derived.Test.YtonjaghkiaaipaaW9
import Derived.Test.YtonjaghkiaaipaaWA
import Derived.Test.YtonjaghkiaaipaaWB
import Derived.Test.YtonjaghkiaaipaaWC
import Derived.Test.YtonjaghkiaaipaaWD
import Derived.Test.YtonjaghkiaaipaaWE
import Derived.Test.YtonjaghkiaaipaaWM
import Derived.Test.YtonjaghkiaaipaaWN
import Derived.Test.YtonjaghkiaaipaaWR
namespace Go.Proofs.Ytonjaghkiaaipaa.treenodeHalves
open Go.ChangeShapes Go.WideShapes Go.ChangeAt Go.RowKit
open Go.ChangeMaps (open_string shut_string)
set_option linter.unusedVariables false

theorem own : ownKnob Try.prog.godebug = none := by kernel_rfl
theorem laidOut : laidOutB Try.prog = true := by kernel_rfl

theorem walk (a0 : Option Addr) (len0 cap0 : Nat) (z0 : List Int) (a1 a2 : Int) (w : World) (w0 : IsRow .i64 w a0 len0 cap0 z0) (w1 : (Lit.int .i64 a1).wf = true) (w2 : (Lit.int .u64 a2).wf = true) :
    Calls Try.prog 8 #[.slice a0 len0 cap0, .int .i64 a1, .int .u64 a2] w fun e w' => e = .returned (.bool true) ∧ Below w.heap.size w w' := by
  obtain ⟨E, rh, r0⟩ := one_row w0 1
  obtain ⟨_, hlen, hmax, _⟩ := w0.facts
  refine CallOK.lawB (halves_law (z0.take len0) a1 a2 (by omega)) (fun id o ho => ?_) (cargs := [_, _, _]) (E := E) ?_ rh
  · obtain ⟨rfl, rfl⟩ := find_one ho; rfl
  · exact ⟨_, _, rfl, r0, _, _, rfl, rfl, _, _, rfl, rfl, rfl⟩

set_option maxRecDepth 100000 in
theorem lifted (os : Os) (started : os.Started) (H : Type) (enc : TypeId × Value → H) :
    ReturnsInHanded {} Try.checked os 8 .any (Rows.treenodeHalvesSpec.pre6 enc Try.prog Try.f8 Rows.treenodeHalvesRow.domain false) (Rows.treenodeHalvesSpec.post enc Try.prog Try.f8 false true false false) := by
  refine returnsInHanded_of_change (C := Try.checked) own started (by kernel_rfl) Try.func8
    (ChangeSpec.witness6 (enc := enc) (C := Try.checked) false ⟨#[], #[.slice none 0 0, .int .i64 0, .int .u64 0], []⟩ 8 (by kernel_rfl) (by kernel_rfl) (by kernel_rfl) (by kernel_rfl)) ?_
  intro W base args ds gs before hval0 hW hcnd _
  have hval : ∀ (j : Nat) t v, Try.f8.params[j]? = some t → args[j]? = some v → Value.okWide Try.prog W .any base t v := hval0
  have hW' := hW
  obtain ⟨p, q, hA0, hV, rfl, hfz, hnd⟩ := hW
  have hA : DataW.TrodAll enc Try.prog W 0 (fun _ => true) true Try.f8.params.toList args.toList ds p := hA0
  rw [Try.params8] at hA hval
  obtain ⟨v0, vs0, d0, ds0, p0, q0, hargs, rfl, rfl, h0, r0⟩ := trodAll_cons hA
  obtain ⟨v1, vs1, d1, ds1, p1, q1, rfl, rfl, rfl, h1, r1⟩ := trodAll_cons r0
  obtain ⟨v2, vs2, d2, ds2, p2, q2, rfl, rfl, rfl, h2, r2⟩ := trodAll_cons r1
  obtain ⟨rfl, rfl, rfl⟩ := trodAll_nil r2
  obtain rfl : args = #[v0, v1, v2] := by cases args; simp_all
  obtain ⟨rfl, rfl⟩ := trodVars_none hV
  obtain ⟨a0, len0, cap0, rfl⟩ := okWide_slice Try.underlying22 (hval 0 22 v0 rfl rfl)
  have k0 := h0
  have lt0 : ∀ x ∈ p0, x.block < W.heap.size := by obtain ⟨m, hm⟩ := k0; exact DataW.trod_lt m _ _ _ hm
  obtain ⟨z0, w0⟩ : ∃ zs, IsRow .i64 W a0 len0 cap0 zs := by
    obtain ⟨fuel, hf⟩ := h0
    rcases open_ints Try.underlying22 Try.underlying3 (by kernel_rfl) hf with ⟨hcs, _⟩ | ⟨x, l, c, zs, hcs, _, hl, hm, hz, _, hcell, hwz⟩
    · simp [Value.cells] at hcs
      obtain ⟨rfl, rfl, rfl⟩ := hcs
      exact ⟨[], .inl ⟨rfl, rfl, rfl, rfl⟩⟩
    · simp [Value.cells] at hcs
      obtain ⟨rfl, rfl, rfl⟩ := hcs
      exact ⟨zs, .inr ⟨_, rfl, hl, hm, by simpa using hz, hcell, hwz⟩⟩
  obtain ⟨a1, rfl, rfl, rfl, w1⟩ := open_int Try.underlying3 (hval 1 3 v1 rfl rfl) h1
  obtain ⟨a2, rfl, rfl, rfl, w2⟩ := open_int Try.underlying38 (hval 2 38 v2 rfl rfl) h2
  clear hA0 hval0
  refine (walk a0 len0 cap0 z0 a1 a2 W w0 w1 w2).mono fun e W' ⟨he, bel⟩ => ?_
  subst he
  exact ⟨_, rfl, _, _, _, [], _, [], hW', trodAll_mk1 (shut_bool Try.underlying4 _), (trodAll_cons_mk (Below.trod laidOut (by kernel_rfl) (of_decide_eq_true (by kernel_rfl)) k0 bel lt0) (trodAll_cons_mk (shut_int Try.underlying3 w1) (trodAll_cons_mk (shut_int Try.underlying38 w2) trodAll_mk0))), rfl, bel.frame _, fun h => by cases h⟩

theorem over : Rows.treenodeHalvesRow.holds Try.pinned (OpenSpec.ofChange Rows.treenodeHalvesSpec) :=
  OpenClaim.holds_of_wide 8 Try.f8 rfl rfl rfl rfl rfl rfl rfl ⟨rfl, rfl, rfl, rfl, rfl⟩ rfl rfl rfl rfl rfl (by kernel_rfl) Try.func8 (by kernel_rfl)
    (of_decide_eq_true (by kernel_rfl)) (by unfold Func.isWrapper; first | (rw [if_pos (by decide +kernel)]; kernel_rfl) | (rw [if_neg (by decide +kernel)]; exact ⟨rfl, rfl⟩))
    (fun os started H enc _ => lifted os started H enc)

theorem proved : Rows.TreenodeHalvesSaid := over
#print axioms proved
end Go.Proofs.Ytonjaghkiaaipaa.treenodeHalves
