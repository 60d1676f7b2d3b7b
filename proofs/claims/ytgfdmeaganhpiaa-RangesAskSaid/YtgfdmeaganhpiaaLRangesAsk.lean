/- RangesAsk: for every list of ranges and every number. No condition. -/
import Derived.Test.YtgfdmeaganhpiaaRows
import Derived.WalkKit
import Derived.ProofKit
import Derived.OpenShut
import Derived.ShutString
import Derived.ChangeOld
import Derived.Below
import Derived.Carry
import Derived.Test.YtgfdmeaganhpiaaM
import Derived.Test.YtgfdmeaganhpiaaC
import Derived.Test.YtgfdmeaganhpiaaD
import Derived.Test.YtgfdmeaganhpiaaE
import Derived.Test.YtgfdmeaganhpiaaP
import Derived.Test.YtgfdmeaganhpiaaPV
import Derived.Test.YtgfdmeaganhpiaaF
import Derived.Test.YtgfdmeaganhpiaaG
import Derived.Test.YtgfdmeaganhpiaaH
import Derived.Test.YtgfdmeaganhpiaaI
import Derived.Test.YtgfdmeaganhpiaaJ
import Derived.Test.YtgfdmeaganhpiaaK
import Derived.Test.YtgfdmeaganhpiaaL
import Derived.Test.YtgfdmeaganhpiaaN
import Derived.Test.YtgfdmeaganhpiaaSyA
import Derived.Test.YtgfdmeaganhpiaaSyB
import Derived.Test.YtgfdmeaganhpiaaSyC
import Derived.Test.YtgfdmeaganhpiaaSyD
import Derived.Test.YtgfdmeaganhpiaaSyF
import Derived.Test.YtgfdmeaganhpiaaSyG
import Derived.Test.YtgfdmeaganhpiaaSyH
import Derived.Test.YtgfdmeaganhpiaaSyI
import Derived.Test.YtgfdmeaganhpiaaSyJ
import Derived.Test.YtgfdmeaganhpiaaSyP
import Derived.Test.YtgfdmeaganhpiaaSyE
import Derived.Test.YtgfdmeaganhpiaaSyK
import Derived.Test.YtgfdmeaganhpiaaSyL
import Derived.Test.YtgfdmeaganhpiaaSyM
import Derived.Test.YtgfdmeaganhpiaaSyN
import Derived.Test.YtgfdmeaganhpiaaSyO
import Derived.Test.YtgfdmeaganhpiaaSyQ
import Derived.Test.YtgfdmeaganhpiaaSyR
import Derived.Test.YtgfdmeaganhpiaaSyU
import Derived.Test.YtgfdmeaganhpiaaSyV
import Derived.Test.YtgfdmeaganhpiaaSyW
import Derived.Test.YtgfdmeaganhpiaaSyX
import Derived.Test.YtgfdmeaganhpiaaSyZ
import Derived.Test.YtgfdmeaganhpiaaY0
import Derived.Test.YtgfdmeaganhpiaaY1
import Derived.Test.YtgfdmeaganhpiaaY2
import Derived.Test.YtgfdmeaganhpiaaY3
import Derived.Test.YtgfdmeaganhpiaaY4
import Derived.Test.YtgfdmeaganhpiaaY5
import Derived.Test.YtgfdmeaganhpiaaY6
import Derived.Test.YtgfdmeaganhpiaaY7
import Derived.Test.YtgfdmeaganhpiaaY8
import Derived.Test.YtgfdmeaganhpiaaYA
import Derived.Test.YtgfdmeaganhpiaaYB
import Derived.Test.YtgfdmeaganhpiaaYC
import Derived.Test.YtgfdmeaganhpiaaY9
import Derived.Test.YtgfdmeaganhpiaaYD
import Derived.Test.YtgfdmeaganhpiaaYE
namespace Go.Proofs.Ytgfdmeaganhpiaa.rangesAsk
open Go.ChangeShapes Go.WideShapes Go.ChangeAt Go.RowKit
open Go.ChangeMaps (open_string shut_string)
set_option linter.unusedVariables false

theorem own : ownKnob Try.prog.godebug = none := by kernel_rfl
theorem laidOut : laidOutB Try.prog = true := by kernel_rfl

theorem walk {H : Type} {enc : TypeId × Value → H} {base : Nat} {d0 : DataW H} {p0 : List MemPlace} (v0 : Value) (a1 : Int) (w : World) (ok0 : Value.okWide Try.prog w .any base 22 v0) (k0 : DataW.Trod enc Try.prog w 0 (fun _ => true) true 22 v0 d0 p0) (w1 : (Lit.int .i64 a1).wf = true) :
    Calls Try.prog 4 #[v0, .int .i64 a1] w fun e w' => e = .returned (.bool true) ∧ Below w.heap.size w w' := by
  obtain ⟨x0, c0, L, rfl, hl, hL⟩ := open_lists ok0 k0
  obtain ⟨E, rh, r0⟩ := one_list hL
  refine CallOK.lawB (ask_any L a1 hl (wf_bd w1)) (fun id o ho => ?_) (cargs := [_, _]) (E := E) ?_ rh
  · obtain ⟨rfl, rfl⟩ := find_one ho; rfl
  · exact ⟨_, _, rfl, r0, _, _, rfl, rfl, rfl⟩

set_option maxRecDepth 100000 in
theorem lifted (os : Os) (started : os.Started) (H : Type) (enc : TypeId × Value → H) :
    ReturnsInHanded {} Try.checked os 4 .any (Rows.rangesAskSpec.pre6 enc Try.prog Try.f4 Rows.rangesAskRow.domain false) (Rows.rangesAskSpec.post enc Try.prog Try.f4 false true false false) := by
  refine returnsInHanded_of_change (C := Try.checked) own started (by kernel_rfl) Try.func4
    (ChangeSpec.witness6 (enc := enc) (C := Try.checked) false ⟨#[], #[.slice none 0 0, .int .i64 0], []⟩ 8 (by kernel_rfl) (by kernel_rfl) (by kernel_rfl) (by kernel_rfl)) ?_
  intro W base args ds gs before hval0 hW hcnd _
  have hval : ∀ (j : Nat) t v, Try.f4.params[j]? = some t → args[j]? = some v → Value.okWide Try.prog W .any base t v := hval0
  have hW' := hW
  obtain ⟨p, q, hA0, hV, rfl, hfz, hnd⟩ := hW
  have hA : DataW.TrodAll enc Try.prog W 0 (fun _ => true) true Try.f4.params.toList args.toList ds p := hA0
  rw [Try.params4] at hA hval
  obtain ⟨v0, vs0, d0, ds0, p0, q0, hargs, rfl, rfl, h0, r0⟩ := trodAll_cons hA
  obtain ⟨v1, vs1, d1, ds1, p1, q1, rfl, rfl, rfl, h1, r1⟩ := trodAll_cons r0
  obtain ⟨rfl, rfl, rfl⟩ := trodAll_nil r1
  obtain rfl : args = #[v0, v1] := by cases args; simp_all
  obtain ⟨rfl, rfl⟩ := trodVars_none hV
  have k0 := h0
  have lt0 : ∀ x ∈ p0, x.block < W.heap.size := by obtain ⟨m, hm⟩ := k0; exact DataW.trod_lt m _ _ _ hm
  have ok0 := hval 0 22 v0 rfl rfl
  obtain ⟨a1, rfl, rfl, rfl, w1⟩ := open_int Try.underlying3 (hval 1 3 v1 rfl rfl) h1
  clear hA0 hval0
  refine (walk v0 a1 W ok0 k0 w1).mono fun e W' ⟨he, bel⟩ => ?_
  subst he
  exact ⟨_, rfl, _, _, _, [], _, [], hW', trodAll_mk1 (shut_bool Try.underlying4 _), (trodAll_cons_mk (Below.trod laidOut (by kernel_rfl) (of_decide_eq_true (by kernel_rfl)) k0 bel lt0) (trodAll_cons_mk (shut_int Try.underlying3 w1) trodAll_mk0)), rfl, bel.frame _, fun h => by cases h⟩

theorem over : Rows.rangesAskRow.holds Try.pinned (OpenSpec.ofChange Rows.rangesAskSpec) :=
  OpenClaim.holds_of_wide 4 Try.f4 rfl rfl rfl rfl rfl rfl rfl ⟨rfl, rfl, rfl, rfl, rfl⟩ rfl rfl rfl rfl rfl (by kernel_rfl) Try.func4 (by kernel_rfl)
    (of_decide_eq_true (by kernel_rfl)) (by unfold Func.isWrapper; first | (rw [if_pos (by decide +kernel)]; kernel_rfl) | (rw [if_neg (by decide +kernel)]; exact ⟨rfl, rfl⟩))
    (fun os started H enc _ => lifted os started H enc)

theorem proved : Rows.RangesAskSaid := over
#print axioms proved
end Go.Proofs.Ytgfdmeaganhpiaa.rangesAsk
