/- BlockSound: for every list of numbers and every list of requests. No condition. -/
import Derived.Test.YtcoilldcghamdaaRows
import Derived.WalkKit
import Derived.ProofKit
import Derived.OpenShut
import Derived.ShutString
import Derived.ChangeOld
import Derived.Below
import Derived.Carry
import Derived.Test.YtcoilldcghamdaaOD
import Derived.Test.YtcoilldcghamdaaOE
import Derived.Test.YtcoilldcghamdaaSyA
import Derived.Test.YtcoilldcghamdaaSyB
import Derived.Test.YtcoilldcghamdaaSyC
import Derived.Test.YtcoilldcghamdaaSyD
import Derived.Test.YtcoilldcghamdaaSyF
import Derived.Test.YtcoilldcghamdaaSyG
import Derived.Test.YtcoilldcghamdaaSyH
import Derived.Test.YtcoilldcghamdaaSyI
import Derived.Test.YtcoilldcghamdaaSyJ
import Derived.Test.YtcoilldcghamdaaSyP
import Derived.Test.YtcoilldcghamdaaSyE
import Derived.Test.YtcoilldcghamdaaSyK
import Derived.Test.YtcoilldcghamdaaSyL
import Derived.Test.YtcoilldcghamdaaSyM
import Derived.Test.YtcoilldcghamdaaSyN
import Derived.Test.YtcoilldcghamdaaSyO
import Derived.Test.YtcoilldcghamdaaSyQ
import Derived.Test.YtcoilldcghamdaaSyR
import Derived.Test.YtcoilldcghamdaaSyU
import Derived.Test.YtcoilldcghamdaaSyV
import Derived.Test.YtcoilldcghamdaaSyW
import Derived.Test.YtcoilldcghamdaaSyX
import Derived.Test.YtcoilldcghamdaaSyZ
import Derived.Test.YtcoilldcghamdaaD1
import Derived.Test.YtcoilldcghamdaaD2
import Derived.Test.YtcoilldcghamdaaD3
import Derived.Test.YtcoilldcghamdaaD4
import Derived.Test.YtcoilldcghamdaaD5
import Derived.Test.YtcoilldcghamdaaD6
import Derived.Test.YtcoilldcghamdaaD7
import Derived.Test.YtcoilldcghamdaaD8
import Derived.Test.YtcoilldcghamdaaD9
import Derived.Test.YtcoilldcghamdaaDB
import Derived.Test.YtcoilldcghamdaaDK
import Derived.Test.YtcoilldcghamdaaDL
import Derived.Test.YtcoilldcghamdaaDM
import Derived.Test.YtcoilldcghamdaaDN
import Derived.Test.YtcoilldcghamdaaDO
import Derived.Test.YtcoilldcghamdaaDP
import Derived.Test.YtcoilldcghamdaaDQ
import Derived.Test.YtcoilldcghamdaaDR
import Derived.Test.YtcoilldcghamdaaDS
import Derived.Test.YtcoilldcghamdaaDT
import Derived.Test.YtcoilldcghamdaaDU
import Derived.Test.YtcoilldcghamdaaDV
import Derived.Test.YtcoilldcghamdaaDX
import Derived.Test.YtcoilldcghamdaaDY
import Derived.Test.YtcoilldcghamdaaDZ
import Derived.Test.YtcoilldcghamdaaDSa
import Derived.Test.YtcoilldcghamdaaDSb
import Derived.Test.YtcoilldcghamdaaDSc
import Derived.Test.YtcoilldcghamdaaDSd
namespace Go.Proofs.Ytcoilldcghamdaa.blockSound
open Go.ChangeShapes Go.WideShapes Go.ChangeAt Go.RowKit
open Go.ChangeMaps (open_string shut_string)
set_option linter.unusedVariables false

theorem own : ownKnob Try.prog.godebug = none := by kernel_rfl
theorem laidOut : laidOutB Try.prog = true := by kernel_rfl

set_option maxRecDepth 100000 in
theorem walk {H : Type} {enc : TypeId × Value → H} {base : Nat} {d1 : DataW H} {p1 : List MemPlace} (a0 : Option Addr) (len0 cap0 : Nat) (z0 : List Int) (v1 : Value) (w : World) (w0 : IsRow .i64 w a0 len0 cap0 z0) (ok1 : Value.okWide Try.prog w .any base 23 v1) (k1 : DataW.Trod enc Try.prog w 0 (fun _ => true) true 23 v1 d1 p1) :
    Calls Try.prog 3 #[.slice a0 len0 cap0, v1] w fun e w' => e = .returned (.bool true) ∧ Below w.heap.size w w' := by
  obtain ⟨x1, c1, L, rfl, hl, hL⟩ := open_steps ok1 k1
  obtain ⟨E, rh, r0, r1⟩ := row_steps w0 hL
  obtain ⟨_, hlen, hmax, _⟩ := w0.facts
  have hz : (z0.take len0).length ≤ 9223372036854775807 := by rw [hlen]; exact hmax
  refine CallOK.lawB (sound_law (z0.take len0) hz L hl) (fun id o ho => ?_) (cargs := [_, _]) (E := E) ?_ rh
  · rcases find2 ho with ⟨rfl, rfl⟩ | ⟨rfl, _, rfl⟩ <;> rfl
  · exact ⟨_, _, rfl, r0, _, _, rfl, r1, rfl⟩

set_option maxRecDepth 100000 in
theorem lifted (os : Os) (started : os.Started) (H : Type) (enc : TypeId × Value → H) :
    ReturnsInHanded {} Try.checked os 3 .any (Rows.blockSoundSpec.pre6 enc Try.prog Try.f3 Rows.blockSoundRow.domain false) (Rows.blockSoundSpec.post enc Try.prog Try.f3 false true false false) := by
  refine returnsInHanded_of_change (C := Try.checked) own started (by kernel_rfl) Try.func3
    (ChangeSpec.witness6 (enc := enc) (C := Try.checked) false ⟨#[], #[.slice none 0 0, .slice none 0 0], []⟩ 8 (by kernel_rfl) (by kernel_rfl) (by kernel_rfl) (by kernel_rfl)) ?_
  intro W base args ds gs before hval0 hW hcnd _
  have hval : ∀ (j : Nat) t v, Try.f3.params[j]? = some t → args[j]? = some v → Value.okWide Try.prog W .any base t v := hval0
  have hW' := hW
  obtain ⟨p, q, hA0, hV, rfl, hfz, hnd⟩ := hW
  have hA : DataW.TrodAll enc Try.prog W 0 (fun _ => true) true Try.f3.params.toList args.toList ds p := hA0
  rw [Try.params3] at hA hval
  obtain ⟨v0, vs0, d0, ds0, p0, q0, hargs, rfl, rfl, h0, r0⟩ := trodAll_cons hA
  obtain ⟨v1, vs1, d1, ds1, p1, q1, rfl, rfl, rfl, h1, r1⟩ := trodAll_cons r0
  obtain ⟨rfl, rfl, rfl⟩ := trodAll_nil r1
  obtain rfl : args = #[v0, v1] := by cases args; simp_all
  obtain ⟨rfl, rfl⟩ := trodVars_none hV
  obtain ⟨a0, len0, cap0, rfl⟩ := okWide_slice Try.underlying22 (hval 0 22 v0 rfl rfl)
  have k0 := h0
  have lt0 : ∀ x ∈ p0, x.block < W.heap.size := by obtain ⟨m, hm⟩ := k0; exact DataW.trod_lt m _ _ _ hm
  obtain ⟨z0, w0⟩ : ∃ zs, IsRow .i64 W a0 len0 cap0 zs := by
    obtain ⟨fuel, hf⟩ := h0
    rcases open_ints Try.underlying22 Try.underlying3 (by kernel_rfl) hf with ⟨hcs, _⟩ | ⟨x, l, c, zs, hcs, _, hl, hm, hz, _, hcell, hwz⟩
    · simp [Value.cells] at hcs
      obtain ⟨rfl, rfl, rfl⟩ := hcs
      exact ⟨[], .inl ⟨rfl, rfl, rfl, rfl⟩⟩
    · simp [Value.cells] at hcs
      obtain ⟨rfl, rfl, rfl⟩ := hcs
      exact ⟨zs, .inr ⟨_, rfl, hl, hm, by simpa using hz, hcell, hwz⟩⟩
  have k1 := h1
  have lt1 : ∀ x ∈ p1, x.block < W.heap.size := by obtain ⟨m, hm⟩ := k1; exact DataW.trod_lt m _ _ _ hm
  have ok1 := hval 1 23 v1 rfl rfl
  clear hA0 hval0
  refine (walk a0 len0 cap0 z0 v1 W w0 ok1 k1).mono fun e W' ⟨he, bel⟩ => ?_
  subst he
  exact ⟨_, rfl, _, _, _, [], _, [], hW', trodAll_mk1 (shut_bool Try.underlying4 _), (trodAll_cons_mk (Below.trod laidOut (by kernel_rfl) (of_decide_eq_true (by kernel_rfl)) k0 bel lt0) (trodAll_cons_mk (Below.trod laidOut (by kernel_rfl) (of_decide_eq_true (by kernel_rfl)) k1 bel lt1) trodAll_mk0)), rfl, bel.frame _, fun h => by cases h⟩

theorem over : Rows.blockSoundRow.holds Try.pinned (OpenSpec.ofChange Rows.blockSoundSpec) :=
  OpenClaim.holds_of_wide 3 Try.f3 rfl rfl rfl rfl rfl rfl rfl ⟨rfl, rfl, rfl, rfl, rfl⟩ rfl rfl rfl rfl rfl (by kernel_rfl) Try.func3 (by kernel_rfl)
    (of_decide_eq_true (by kernel_rfl)) (by unfold Func.isWrapper; first | (rw [if_pos (by decide +kernel)]; kernel_rfl) | (rw [if_neg (by decide +kernel)]; exact ⟨rfl, rfl⟩))
    (fun os started H enc _ => lifted os started H enc)

theorem proved : Rows.BlockSoundSaid := over
#print axioms proved
end Go.Proofs.Ytcoilldcghamdaa.blockSound
