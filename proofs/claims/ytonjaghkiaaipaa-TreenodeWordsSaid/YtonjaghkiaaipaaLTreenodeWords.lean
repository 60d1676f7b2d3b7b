/- TreenodeWords: for every list of numbers and every number. No condition. -/
import Derived.Test.YtonjaghkiaaipaaRows
import Derived.WalkKit
import Derived.ProofKit
import Derived.OpenShut
import Derived.ShutString
import Derived.ChangeOld
import Derived.Below
import Derived.Carry
import Derived.Test.YtonjaghkiaaipaaOAC
import Derived.Test.YtonjaghkiaaipaaOAM
import Derived.Test.YtonjaghkiaaipaaOAD
import Derived.Test.YtonjaghkiaaipaaOAI
import Derived.Test.YtonjaghkiaaipaaOAF
import Derived.Test.YtonjaghkiaaipaaOAX
import Derived.Test.YtonjaghkiaaipaaOAG
import Derived.Test.YtonjaghkiaaipaaOBC
import Derived.Test.YtonjaghkiaaipaaOBF
import Derived.Test.YtonjaghkiaaipaaOBB
import Derived.Test.YtonjaghkiaaipaaOBP
import Derived.Test.YtonjaghkiaaipaaOBS
import Derived.Test.YtonjaghkiaaipaaOBR
import Derived.Test.YtonjaghkiaaipaaOBG
import Derived.Test.YtonjaghkiaaipaaOBSP
import Derived.Test.YtonjaghkiaaipaaSyA
import Derived.Test.YtonjaghkiaaipaaSyB
import Derived.Test.YtonjaghkiaaipaaSyC
import Derived.Test.YtonjaghkiaaipaaSyD
import Derived.Test.YtonjaghkiaaipaaSyF
import Derived.Test.YtonjaghkiaaipaaSyG
import Derived.Test.YtonjaghkiaaipaaSyH
import Derived.Test.YtonjaghkiaaipaaSyI
import Derived.Test.YtonjaghkiaaipaaSyJ
import Derived.Test.YtonjaghkiaaipaaSyP
import Derived.Test.YtonjaghkiaaipaaSyE
import Derived.Test.YtonjaghkiaaipaaSyK
import Derived.Test.YtonjaghkiaaipaaSyL
import Derived.Test.YtonjaghkiaaipaaSyM
import Derived.Test.YtonjaghkiaaipaaSyN
import Derived.Test.YtonjaghkiaaipaaSyO
import Derived.Test.YtonjaghkiaaipaaSyQ
import Derived.Test.YtonjaghkiaaipaaSyR
import Derived.Test.YtonjaghkiaaipaaSyU
import Derived.Test.YtonjaghkiaaipaaSyV
import Derived.Test.YtonjaghkiaaipaaSyW
import Derived.Test.YtonjaghkiaaipaaSyX
import Derived.Test.YtonjaghkiaaipaaSyZ
import Derived.Test.YtonjaghkiaaipaaW0
import Derived.Test.YtonjaghkiaaipaaW1
import Derived.Test.YtonjaghkiaaipaaW2
import Derived.Test.YtonjaghkiaaipaaW3
import Derived.Test.YtonjaghkiaaipaaW4
import Derived.Test.YtonjaghkiaaipaaW5
import Derived.Test.YtonjaghkiaaipaaW6
import Derived.Test.YtonjaghkiaaipaaW7
import Derived.Test.YtonjaghkiaaipaaW9
import Derived.Test.YtonjaghkiaaipaaWA
import Derived.Test.YtonjaghkiaaipaaWB
import Derived.Test.YtonjaghkiaaipaaWC
import Derived.Test.YtonjaghkiaaipaaWD
import Derived.Test.YtonjaghkiaaipaaWE
import Derived.Test.YtonjaghkiaaipaaWF
namespace Go.Proofs.Ytonjaghkiaaipaa.treenodeWords
open Go.ChangeShapes Go.WideShapes Go.ChangeAt Go.RowKit
open Go.ChangeMaps (open_string shut_string)
set_option linter.unusedVariables false

theorem own : ownKnob Try.prog.godebug = none := by kernel_rfl
theorem laidOut : laidOutB Try.prog = true := by kernel_rfl

theorem walk (a0 : Option Addr) (len0 cap0 : Nat) (z0 : List Int) (a1 : Int) (w : World) (w0 : IsRow .i64 w a0 len0 cap0 z0) (w1 : (Lit.int .i64 a1).wf = true) :
    Calls Try.prog 3 #[.slice a0 len0 cap0, .int .i64 a1] w fun e w' => e = .returned (.bool true) ∧ Below w.heap.size w w' := by
  obtain ⟨E, rh, r0⟩ := one_row w0 1
  obtain ⟨_, hlen, hmax, _⟩ := w0.facts
  refine CallOK.lawB (words_law (z0.take len0) a1 (by omega)) (fun id o ho => ?_) (cargs := [_, _]) (E := E) ?_ rh
  · obtain ⟨rfl, rfl⟩ := find_one ho; rfl
  · exact ⟨_, _, rfl, r0, _, _, rfl, rfl, rfl⟩

set_option maxRecDepth 100000 in
theorem lifted (os : Os) (started : os.Started) (H : Type) (enc : TypeId × Value → H) :
    ReturnsInHanded {} Try.checked os 3 .any (Rows.treenodeWordsSpec.pre6 enc Try.prog Try.f3 Rows.treenodeWordsRow.domain false) (Rows.treenodeWordsSpec.post enc Try.prog Try.f3 false true false false) := by
  refine returnsInHanded_of_change (C := Try.checked) own started (by kernel_rfl) Try.func3
    (ChangeSpec.witness6 (enc := enc) (C := Try.checked) false ⟨#[], #[.slice none 0 0, .int .i64 0], []⟩ 8 (by kernel_rfl) (by kernel_rfl) (by kernel_rfl) (by kernel_rfl)) ?_
  intro W base args ds gs before hval0 hW hcnd _
  have hval : ∀ (j : Nat) t v, Try.f3.params[j]? = some t → args[j]? = some v → Value.okWide Try.prog W .any base t v := hval0
  have hW' := hW
  obtain ⟨p, q, hA0, hV, rfl, hfz, hnd⟩ := hW
  have hA : DataW.TrodAll enc Try.prog W 0 (fun _ => true) true Try.f3.params.toList args.toList ds p := hA0
  rw [Try.params3] at hA hval
  obtain ⟨v0, vs0, d0, ds0, p0, q0, hargs, rfl, rfl, h0, r0⟩ := trodAll_cons hA
  obtain ⟨v1, vs1, d1, ds1, p1, q1, rfl, rfl, rfl, h1, r1⟩ := trodAll_cons r0
  obtain ⟨rfl, rfl, rfl⟩ := trodAll_nil r1
  obtain rfl : args = #[v0, v1] := by cases args; simp_all
  obtain ⟨rfl, rfl⟩ := trodVars_none hV
  obtain ⟨a0, len0, cap0, rfl⟩ := okWide_slice Try.underlying22 (hval 0 22 v0 rfl rfl)
  have k0 := h0
  have lt0 : ∀ x ∈ p0, x.block < W.heap.size := by obtain ⟨m, hm⟩ := k0; exact DataW.trod_lt m _ _ _ hm
  obtain ⟨z0, w0⟩ : ∃ zs, IsRow .i64 W a0 len0 cap0 zs := by
    obtain ⟨fuel, hf⟩ := h0
    rcases open_ints Try.underlying22 Try.underlying3 (by kernel_rfl) hf with ⟨hcs, _⟩ | ⟨x, l, c, zs, hcs, _, hl, hm, hz, _, hcell, hwz⟩
    · simp [Value.cells] at hcs
      obtain ⟨rfl, rfl, rfl⟩ := hcs
      exact ⟨[], .inl ⟨rfl, rfl, rfl, rfl⟩⟩
    · simp [Value.cells] at hcs
      obtain ⟨rfl, rfl, rfl⟩ := hcs
      exact ⟨zs, .inr ⟨_, rfl, hl, hm, by simpa using hz, hcell, hwz⟩⟩
  obtain ⟨a1, rfl, rfl, rfl, w1⟩ := open_int Try.underlying3 (hval 1 3 v1 rfl rfl) h1
  clear hA0 hval0
  refine (walk a0 len0 cap0 z0 a1 W w0 w1).mono fun e W' ⟨he, bel⟩ => ?_
  subst he
  exact ⟨_, rfl, _, _, _, [], _, [], hW', trodAll_mk1 (shut_bool Try.underlying4 _), (trodAll_cons_mk (Below.trod laidOut (by kernel_rfl) (of_decide_eq_true (by kernel_rfl)) k0 bel lt0) (trodAll_cons_mk (shut_int Try.underlying3 w1) trodAll_mk0)), rfl, bel.frame _, fun h => by cases h⟩

theorem over : Rows.treenodeWordsRow.holds Try.pinned (OpenSpec.ofChange Rows.treenodeWordsSpec) :=
  OpenClaim.holds_of_wide 3 Try.f3 rfl rfl rfl rfl rfl rfl rfl ⟨rfl, rfl, rfl, rfl, rfl⟩ rfl rfl rfl rfl rfl (by kernel_rfl) Try.func3 (by kernel_rfl)
    (of_decide_eq_true (by kernel_rfl)) (by unfold Func.isWrapper; first | (rw [if_pos (by decide +kernel)]; kernel_rfl) | (rw [if_neg (by decide +kernel)]; exact ⟨rfl, rfl⟩))
    (fun os started H enc _ => lifted os started H enc)

theorem proved : Rows.TreenodeWordsSaid := over
#print axioms proved
end Go.Proofs.Ytonjaghkiaaipaa.treenodeWords
