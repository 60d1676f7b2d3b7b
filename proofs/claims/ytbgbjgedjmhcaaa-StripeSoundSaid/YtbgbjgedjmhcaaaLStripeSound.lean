/- StripeSound: for every list of small numbers, every small number and every list of requests. No condition. -/
import Derived.Test.YtbgbjgedjmhcaaaRows
import Derived.WalkKit
import Derived.ProofKit
import Derived.OpenShut
import Derived.ShutString
import Derived.ChangeOld
import Derived.Below
import Derived.Carry
import Derived.Test.YtbgbjgedjmhcaaaOD
import Derived.Test.YtbgbjgedjmhcaaaOE
import Derived.Test.YtbgbjgedjmhcaaaSyA
import Derived.Test.YtbgbjgedjmhcaaaSyB
import Derived.Test.YtbgbjgedjmhcaaaSyC
import Derived.Test.YtbgbjgedjmhcaaaSyD
import Derived.Test.YtbgbjgedjmhcaaaSyF
import Derived.Test.YtbgbjgedjmhcaaaSyG
import Derived.Test.YtbgbjgedjmhcaaaSyH
import Derived.Test.YtbgbjgedjmhcaaaSyI
import Derived.Test.YtbgbjgedjmhcaaaSyJ
import Derived.Test.YtbgbjgedjmhcaaaSyP
import Derived.Test.YtbgbjgedjmhcaaaSyE
import Derived.Test.YtbgbjgedjmhcaaaSyK
import Derived.Test.YtbgbjgedjmhcaaaSyL
import Derived.Test.YtbgbjgedjmhcaaaSyM
import Derived.Test.YtbgbjgedjmhcaaaSyN
import Derived.Test.YtbgbjgedjmhcaaaSyO
import Derived.Test.YtbgbjgedjmhcaaaSyQ
import Derived.Test.YtbgbjgedjmhcaaaSyR
import Derived.Test.YtbgbjgedjmhcaaaSyU
import Derived.Test.YtbgbjgedjmhcaaaSyV
import Derived.Test.YtbgbjgedjmhcaaaSyW
import Derived.Test.YtbgbjgedjmhcaaaSyX
import Derived.Test.YtbgbjgedjmhcaaaSyZ
import Derived.Test.YtbgbjgedjmhcaaaD1
import Derived.Test.YtbgbjgedjmhcaaaD2
import Derived.Test.YtbgbjgedjmhcaaaD3
import Derived.Test.YtbgbjgedjmhcaaaD4
import Derived.Test.YtbgbjgedjmhcaaaD5
import Derived.Test.YtbgbjgedjmhcaaaDFl
import Derived.Test.YtbgbjgedjmhcaaaDK
import Derived.Test.YtbgbjgedjmhcaaaDL
import Derived.Test.YtbgbjgedjmhcaaaDM
import Derived.Test.YtbgbjgedjmhcaaaDS
import Derived.Test.YtbgbjgedjmhcaaaDY
import Derived.Test.YtbgbjgedjmhcaaaDCa
import Derived.Test.YtbgbjgedjmhcaaaDSp
import Derived.Test.YtbgbjgedjmhcaaaDRq
import Derived.Test.YtbgbjgedjmhcaaaDLd
import Derived.Test.YtbgbjgedjmhcaaaS2
import Derived.Test.YtbgbjgedjmhcaaaS1
import Derived.Test.YtbgbjgedjmhcaaaS3
import Derived.Test.YtbgbjgedjmhcaaaS4
import Derived.Test.YtbgbjgedjmhcaaaS5
import Derived.Test.YtbgbjgedjmhcaaaS6
import Derived.Test.YtbgbjgedjmhcaaaS7
import Derived.Test.YtbgbjgedjmhcaaaS8
import Derived.Test.YtbgbjgedjmhcaaaS9
import Derived.Test.YtbgbjgedjmhcaaaSA
import Derived.Test.YtbgbjgedjmhcaaaSB
import Derived.Test.YtbgbjgedjmhcaaaSC
import Derived.Test.YtbgbjgedjmhcaaaSD
import Derived.Test.YtbgbjgedjmhcaaaSE
namespace Go.Proofs.Ytbgbjgedjmhcaaa.stripeSound
open Go.ChangeShapes Go.WideShapes Go.ChangeAt Go.RowKit
open Go.ChangeMaps (open_string shut_string)
set_option linter.unusedVariables false

theorem own : ownKnob Try.prog.godebug = none := by kernel_rfl
theorem laidOut : laidOutB Try.prog = true := by kernel_rfl

set_option maxRecDepth 100000 in
theorem walk {H : Type} {enc : TypeId × Value → H} {base : Nat} {d2 : DataW H} {p2 : List MemPlace} (a0 : Option Addr) (len0 cap0 : Nat) (z0 : List Int) (a1 : Int) (v2 : Value) (w : World) (w0 : IsRow .u8 w a0 len0 cap0 z0) (w1 : (Lit.int .u8 a1).wf = true) (ok2 : Value.okWide Try.prog w .any base 61 v2) (k2 : DataW.Trod enc Try.prog w 0 (fun _ => true) true 61 v2 d2 p2) :
    Calls Try.prog 7 #[.slice a0 len0 cap0, .int .u8 a1, v2] w fun e w' => e = .returned (.bool true) ∧ Below w.heap.size w w' := by
  obtain ⟨x1, c1, L, rfl, hl, hL⟩ := open_steps ok2 k2
  obtain ⟨E, rh, r0, r1⟩ := row_b_steps w0 hL
  obtain ⟨_, hlen, hmax, hS⟩ := w0.factsB
  have hz : (z0.take len0).length ≤ 9223372036854775807 := by rw [hlen]; exact hmax
  have hb : 0 ≤ a1 ∧ a1 ≤ 255 := by
    simp [Lit.wf, IntKind.min, IntKind.max, IntKind.signed, IntKind.bits] at w1
    omega
  refine CallOK.lawB (stripe_law (z0.take len0) hS hz a1 hb L hl) (fun id o ho => ?_) (cargs := [_, _, _]) (E := E) ?_ rh
  · rcases find2 ho with ⟨rfl, rfl⟩ | ⟨rfl, _, rfl⟩ <;> rfl
  · exact ⟨_, _, rfl, r0, _, _, rfl, rfl, _, _, rfl, r1, rfl⟩

set_option maxRecDepth 100000 in
theorem lifted (os : Os) (started : os.Started) (H : Type) (enc : TypeId × Value → H) :
    ReturnsInHanded {} Try.checked os 7 .any (Rows.stripeSoundSpec.pre6 enc Try.prog Try.f7 Rows.stripeSoundRow.domain false) (Rows.stripeSoundSpec.post enc Try.prog Try.f7 false true false false) := by
  refine returnsInHanded_of_change (C := Try.checked) own started (by kernel_rfl) Try.func7
    (ChangeSpec.witness6 (enc := enc) (C := Try.checked) false ⟨#[], #[.slice none 0 0, .int .u8 0, .slice none 0 0], []⟩ 8 (by kernel_rfl) (by kernel_rfl) (by kernel_rfl) (by kernel_rfl)) ?_
  intro W base args ds gs before hval0 hW hcnd _
  have hval : ∀ (j : Nat) t v, Try.f7.params[j]? = some t → args[j]? = some v → Value.okWide Try.prog W .any base t v := hval0
  have hW' := hW
  obtain ⟨p, q, hA0, hV, rfl, hfz, hnd⟩ := hW
  have hA : DataW.TrodAll enc Try.prog W 0 (fun _ => true) true Try.f7.params.toList args.toList ds p := hA0
  rw [Try.params7] at hA hval
  obtain ⟨v0, vs0, d0, ds0, p0, q0, hargs, rfl, rfl, h0, r0⟩ := trodAll_cons hA
  obtain ⟨v1, vs1, d1, ds1, p1, q1, rfl, rfl, rfl, h1, r1⟩ := trodAll_cons r0
  obtain ⟨v2, vs2, d2, ds2, p2, q2, rfl, rfl, rfl, h2, r2⟩ := trodAll_cons r1
  obtain ⟨rfl, rfl, rfl⟩ := trodAll_nil r2
  obtain rfl : args = #[v0, v1, v2] := by cases args; simp_all
  obtain ⟨rfl, rfl⟩ := trodVars_none hV
  obtain ⟨a0, len0, cap0, rfl⟩ := okWide_slice Try.underlying60 (hval 0 60 v0 rfl rfl)
  have k0 := h0
  have lt0 : ∀ x ∈ p0, x.block < W.heap.size := by obtain ⟨m, hm⟩ := k0; exact DataW.trod_lt m _ _ _ hm
  obtain ⟨z0, w0⟩ : ∃ zs, IsRow .u8 W a0 len0 cap0 zs := by
    obtain ⟨fuel, hf⟩ := h0
    rcases open_ints Try.underlying60 Try.underlying5 (by kernel_rfl) hf with ⟨hcs, _⟩ | ⟨x, l, c, zs, hcs, _, hl, hm, hz, _, hcell, hwz⟩
    · simp [Value.cells] at hcs
      obtain ⟨rfl, rfl, rfl⟩ := hcs
      exact ⟨[], .inl ⟨rfl, rfl, rfl, rfl⟩⟩
    · simp [Value.cells] at hcs
      obtain ⟨rfl, rfl, rfl⟩ := hcs
      exact ⟨zs, .inr ⟨_, rfl, hl, hm, by simpa using hz, hcell, hwz⟩⟩
  obtain ⟨a1, rfl, rfl, rfl, w1⟩ := open_int Try.underlying5 (hval 1 5 v1 rfl rfl) h1
  have k2 := h2
  have lt2 : ∀ x ∈ p2, x.block < W.heap.size := by obtain ⟨m, hm⟩ := k2; exact DataW.trod_lt m _ _ _ hm
  have ok2 := hval 2 61 v2 rfl rfl
  clear hA0 hval0
  refine (walk a0 len0 cap0 z0 a1 v2 W w0 w1 ok2 k2).mono fun e W' ⟨he, bel⟩ => ?_
  subst he
  exact ⟨_, rfl, _, _, _, [], _, [], hW', trodAll_mk1 (shut_bool Try.underlying4 _), (trodAll_cons_mk (Below.trod laidOut (by kernel_rfl) (of_decide_eq_true (by kernel_rfl)) k0 bel lt0) (trodAll_cons_mk (shut_int Try.underlying5 w1) (trodAll_cons_mk (Below.trod laidOut (by kernel_rfl) (of_decide_eq_true (by kernel_rfl)) k2 bel lt2) trodAll_mk0))), rfl, bel.frame _, fun h => by cases h⟩

theorem over : Rows.stripeSoundRow.holds Try.pinned (OpenSpec.ofChange Rows.stripeSoundSpec) :=
  OpenClaim.holds_of_wide 7 Try.f7 rfl rfl rfl rfl rfl rfl rfl ⟨rfl, rfl, rfl, rfl, rfl⟩ rfl rfl rfl rfl rfl (by kernel_rfl) Try.func7 (by kernel_rfl)
    (of_decide_eq_true (by kernel_rfl)) (by unfold Func.isWrapper; first | (rw [if_pos (by decide +kernel)]; kernel_rfl) | (rw [if_neg (by decide +kernel)]; exact ⟨rfl, rfl⟩))
    (fun os started H enc _ => lifted os started H enc)

theorem proved : Rows.StripeSoundSaid := over
#print axioms proved
end Go.Proofs.Ytbgbjgedjmhcaaa.stripeSound
