/- BlockConcat: for every list of small numbers, every small number and every word. No condition. -/
import Derived.Test.YtcoilldcghamdaaRows
import Derived.WalkKit
import Derived.ProofKit
import Derived.OpenShut
import Derived.ShutString
import Derived.ChangeOld
import Derived.Below
import Derived.Carry
import Derived.Test.YtcoilldcghamdaaOD
import Derived.Test.YtcoilldcghamdaaOE
import Derived.Test.YtcoilldcghamdaaSyA
import Derived.Test.YtcoilldcghamdaaSyB
import Derived.Test.YtcoilldcghamdaaSyC
import Derived.Test.YtcoilldcghamdaaSyD
import Derived.Test.YtcoilldcghamdaaSyF
import Derived.Test.YtcoilldcghamdaaSyG
import Derived.Test.YtcoilldcghamdaaSyH
import Derived.Test.YtcoilldcghamdaaSyI
import Derived.Test.YtcoilldcghamdaaSyJ
import Derived.Test.YtcoilldcghamdaaSyP
import Derived.Test.YtcoilldcghamdaaSyE
import Derived.Test.YtcoilldcghamdaaSyK
import Derived.Test.YtcoilldcghamdaaSyL
import Derived.Test.YtcoilldcghamdaaSyM
import Derived.Test.YtcoilldcghamdaaSyN
import Derived.Test.YtcoilldcghamdaaSyO
import Derived.Test.YtcoilldcghamdaaSyQ
import Derived.Test.YtcoilldcghamdaaSyR
import Derived.Test.YtcoilldcghamdaaSyU
import Derived.Test.YtcoilldcghamdaaSyV
import Derived.Test.YtcoilldcghamdaaSyW
import Derived.Test.YtcoilldcghamdaaSyX
import Derived.Test.YtcoilldcghamdaaSyZ
import Derived.Test.YtcoilldcghamdaaD1
import Derived.Test.YtcoilldcghamdaaD2
import Derived.Test.YtcoilldcghamdaaD3
import Derived.Test.YtcoilldcghamdaaD4
import Derived.Test.YtcoilldcghamdaaD5
import Derived.Test.YtcoilldcghamdaaD6
import Derived.Test.YtcoilldcghamdaaD7
import Derived.Test.YtcoilldcghamdaaD8
import Derived.Test.YtcoilldcghamdaaD9
import Derived.Test.YtcoilldcghamdaaDB
import Derived.Test.YtcoilldcghamdaaDC
import Derived.Test.YtcoilldcghamdaaDK
import Derived.Test.YtcoilldcghamdaaDN
import Derived.Test.YtcoilldcghamdaaDO
import Derived.Test.YtcoilldcghamdaaDP
import Derived.Test.YtcoilldcghamdaaDQ
import Derived.Test.YtcoilldcghamdaaDY
import Derived.Test.YtcoilldcghamdaaDCa
import Derived.Test.YtcoilldcghamdaaDCb
import Derived.Test.YtcoilldcghamdaaDCc
import Derived.Test.YtcoilldcghamdaaDCd
import Derived.Test.YtcoilldcghamdaaDCe
import Derived.Test.YtcoilldcghamdaaDCf
import Derived.Test.YtcoilldcghamdaaDCg
import Derived.Test.YtcoilldcghamdaaDCh
import Derived.Test.YtcoilldcghamdaaDCi
import Derived.Test.YtcoilldcghamdaaDCj
import Derived.Test.YtcoilldcghamdaaDCk
import Derived.Test.YtcoilldcghamdaaDCl
namespace Go.Proofs.Ytcoilldcghamdaa.blockConcat
open Go.ChangeShapes Go.WideShapes Go.ChangeAt Go.RowKit
open Go.ChangeMaps (open_string shut_string)
set_option linter.unusedVariables false

theorem own : ownKnob Try.prog.godebug = none := by kernel_rfl
theorem laidOut : laidOutB Try.prog = true := by kernel_rfl

set_option maxRecDepth 100000 in
theorem walk (a0 : Option Addr) (len0 cap0 : Nat) (z0 : List Int) (a1 : Int) (a2 : Int) (w : World) (w0 : IsRow .u8 w a0 len0 cap0 z0) (w1 : (Lit.int .u8 a1).wf = true) (w2 : (Lit.int .u64 a2).wf = true) :
    Calls Try.prog 5 #[.slice a0 len0 cap0, .int .u8 a1, .int .u64 a2] w fun e w' => e = .returned (.bool true) ∧ Below w.heap.size w w' := by
  obtain ⟨E, rh, r0⟩ := one_rowB w0 1
  obtain ⟨_, hlen, hmax, hS⟩ := w0.factsB
  have hz : (z0.take len0).length ≤ 9223372036854775807 := by rw [hlen]; exact hmax
  have hb : 0 ≤ a1 ∧ a1 ≤ 255 := by
    simp [Lit.wf, IntKind.min, IntKind.max, IntKind.signed, IntKind.bits] at w1
    omega
  refine CallOK.lawB (concat_law (z0.take len0) hS hz a1 a2 hb) (fun id o ho => ?_) (cargs := [_, _, _]) (E := E) ?_ rh
  · obtain ⟨rfl, rfl⟩ := find_one ho; rfl
  · exact ⟨_, _, rfl, r0, _, _, rfl, rfl, _, _, rfl, rfl, rfl⟩

set_option maxRecDepth 100000 in
theorem lifted (os : Os) (started : os.Started) (H : Type) (enc : TypeId × Value → H) :
    ReturnsInHanded {} Try.checked os 5 .any (Rows.blockConcatSpec.pre6 enc Try.prog Try.f5 Rows.blockConcatRow.domain false) (Rows.blockConcatSpec.post enc Try.prog Try.f5 false true false false) := by
  refine returnsInHanded_of_change (C := Try.checked) own started (by kernel_rfl) Try.func5
    (ChangeSpec.witness6 (enc := enc) (C := Try.checked) false ⟨#[], #[.slice none 0 0, .int .u8 0, .int .u64 0], []⟩ 8 (by kernel_rfl) (by kernel_rfl) (by kernel_rfl) (by kernel_rfl)) ?_
  intro W base args ds gs before hval0 hW hcnd _
  have hval : ∀ (j : Nat) t v, Try.f5.params[j]? = some t → args[j]? = some v → Value.okWide Try.prog W .any base t v := hval0
  have hW' := hW
  obtain ⟨p, q, hA0, hV, rfl, hfz, hnd⟩ := hW
  have hA : DataW.TrodAll enc Try.prog W 0 (fun _ => true) true Try.f5.params.toList args.toList ds p := hA0
  rw [Try.params5] at hA hval
  obtain ⟨v0, vs0, d0, ds0, p0, q0, hargs, rfl, rfl, h0, r0⟩ := trodAll_cons hA
  obtain ⟨v1, vs1, d1, ds1, p1, q1, rfl, rfl, rfl, h1, r1⟩ := trodAll_cons r0
  obtain ⟨v2, vs2, d2, ds2, p2, q2, rfl, rfl, rfl, h2, r2⟩ := trodAll_cons r1
  obtain ⟨rfl, rfl, rfl⟩ := trodAll_nil r2
  obtain rfl : args = #[v0, v1, v2] := by cases args; simp_all
  obtain ⟨rfl, rfl⟩ := trodVars_none hV
  obtain ⟨a0, len0, cap0, rfl⟩ := okWide_slice Try.underlying55 (hval 0 55 v0 rfl rfl)
  have k0 := h0
  have lt0 : ∀ x ∈ p0, x.block < W.heap.size := by obtain ⟨m, hm⟩ := k0; exact DataW.trod_lt m _ _ _ hm
  obtain ⟨z0, w0⟩ : ∃ zs, IsRow .u8 W a0 len0 cap0 zs := by
    obtain ⟨fuel, hf⟩ := h0
    rcases open_ints Try.underlying55 Try.underlying5 (by kernel_rfl) hf with ⟨hcs, _⟩ | ⟨x, l, c, zs, hcs, _, hl, hm, hz, _, hcell, hwz⟩
    · simp [Value.cells] at hcs
      obtain ⟨rfl, rfl, rfl⟩ := hcs
      exact ⟨[], .inl ⟨rfl, rfl, rfl, rfl⟩⟩
    · simp [Value.cells] at hcs
      obtain ⟨rfl, rfl, rfl⟩ := hcs
      exact ⟨zs, .inr ⟨_, rfl, hl, hm, by simpa using hz, hcell, hwz⟩⟩
  obtain ⟨a1, rfl, rfl, rfl, w1⟩ := open_int Try.underlying5 (hval 1 5 v1 rfl rfl) h1
  obtain ⟨a2, rfl, rfl, rfl, w2⟩ := open_int Try.underlying36 (hval 2 36 v2 rfl rfl) h2
  clear hA0 hval0
  refine (walk a0 len0 cap0 z0 a1 a2 W w0 w1 w2).mono fun e W' ⟨he, bel⟩ => ?_
  subst he
  exact ⟨_, rfl, _, _, _, [], _, [], hW', trodAll_mk1 (shut_bool Try.underlying4 _), (trodAll_cons_mk (Below.trod laidOut (by kernel_rfl) (of_decide_eq_true (by kernel_rfl)) k0 bel lt0) (trodAll_cons_mk (shut_int Try.underlying5 w1) (trodAll_cons_mk (shut_int Try.underlying36 w2) trodAll_mk0))), rfl, bel.frame _, fun h => by cases h⟩

theorem over : Rows.blockConcatRow.holds Try.pinned (OpenSpec.ofChange Rows.blockConcatSpec) :=
  OpenClaim.holds_of_wide 5 Try.f5 rfl rfl rfl rfl rfl rfl rfl ⟨rfl, rfl, rfl, rfl, rfl⟩ rfl rfl rfl rfl rfl (by kernel_rfl) Try.func5 (by kernel_rfl)
    (of_decide_eq_true (by kernel_rfl)) (by unfold Func.isWrapper; first | (rw [if_pos (by decide +kernel)]; kernel_rfl) | (rw [if_neg (by decide +kernel)]; exact ⟨rfl, rfl⟩))
    (fun os started H enc _ => lifted os started H enc)

theorem proved : Rows.BlockConcatSaid := over
#print axioms proved
end Go.Proofs.Ytcoilldcghamdaa.blockConcat
