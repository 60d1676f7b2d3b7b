/- BlockCopies: for every two numbers, every list of words and every further number. No condition. -/
import Derived.Test.YtcoilldcghamdaaRows
import Derived.WalkKit
import Derived.ProofKit
import Derived.OpenShut
import Derived.ShutString
import Derived.ChangeOld
import Derived.Below
import Derived.Carry
import Derived.Test.YtcoilldcghamdaaOD
import Derived.Test.YtcoilldcghamdaaSyA
import Derived.Test.YtcoilldcghamdaaSyB
import Derived.Test.YtcoilldcghamdaaSyC
import Derived.Test.YtcoilldcghamdaaSyD
import Derived.Test.YtcoilldcghamdaaSyF
import Derived.Test.YtcoilldcghamdaaSyG
import Derived.Test.YtcoilldcghamdaaSyH
import Derived.Test.YtcoilldcghamdaaSyI
import Derived.Test.YtcoilldcghamdaaSyJ
import Derived.Test.YtcoilldcghamdaaSyP
import Derived.Test.YtcoilldcghamdaaSyE
import Derived.Test.YtcoilldcghamdaaSyK
import Derived.Test.YtcoilldcghamdaaSyL
import Derived.Test.YtcoilldcghamdaaSyM
import Derived.Test.YtcoilldcghamdaaSyN
import Derived.Test.YtcoilldcghamdaaSyO
import Derived.Test.YtcoilldcghamdaaSyQ
import Derived.Test.YtcoilldcghamdaaSyR
import Derived.Test.YtcoilldcghamdaaSyU
import Derived.Test.YtcoilldcghamdaaSyV
import Derived.Test.YtcoilldcghamdaaSyW
import Derived.Test.YtcoilldcghamdaaSyX
import Derived.Test.YtcoilldcghamdaaSyZ
import Derived.Test.YtcoilldcghamdaaD1
import Derived.Test.YtcoilldcghamdaaD2
import Derived.Test.YtcoilldcghamdaaD3
import Derived.Test.YtcoilldcghamdaaD4
import Derived.Test.YtcoilldcghamdaaD5
import Derived.Test.YtcoilldcghamdaaD6
import Derived.Test.YtcoilldcghamdaaD7
import Derived.Test.YtcoilldcghamdaaD8
import Derived.Test.YtcoilldcghamdaaD9
import Derived.Test.YtcoilldcghamdaaDB
import Derived.Test.YtcoilldcghamdaaDC
import Derived.Test.YtcoilldcghamdaaDF
import Derived.Test.YtcoilldcghamdaaDG
import Derived.Test.YtcoilldcghamdaaDSx
import Derived.Test.YtcoilldcghamdaaDSe
import Derived.Test.YtcoilldcghamdaaDSf
import Derived.Test.YtcoilldcghamdaaDSg
import Derived.Test.YtcoilldcghamdaaDSh
import Derived.Test.YtcoilldcghamdaaDSi
import Derived.Test.YtcoilldcghamdaaDSj
import Derived.Test.YtcoilldcghamdaaDSk
namespace Go.Proofs.Ytcoilldcghamdaa.blockCopies
open Go.ChangeShapes Go.WideShapes Go.ChangeAt Go.RowKit
open Go.ChangeMaps (open_string shut_string)
set_option linter.unusedVariables false

theorem own : ownKnob Try.prog.godebug = none := by kernel_rfl
theorem laidOut : laidOutB Try.prog = true := by kernel_rfl

set_option maxRecDepth 100000 in
theorem walk (a0 a1 : Int) (a2 : Option Addr) (len2 cap2 : Nat) (z2 : List Int) (a3 : Int) (w : World) (w0 : (Lit.int .i64 a0).wf = true) (w1 : (Lit.int .i64 a1).wf = true) (w2 : IsRow .u64 w a2 len2 cap2 z2) (w3 : (Lit.int .u8 a3).wf = true) :
    Calls Try.prog 6 #[.int .i64 a0, .int .i64 a1, .slice a2 len2 cap2, .int .u8 a3] w fun e w' => e = .returned (.bool true) ∧ Below w.heap.size w w' := by
  obtain ⟨E, rh, r0⟩ := one_rowU w2 1
  obtain ⟨_, hlen, hmax, _⟩ := w2.factsU
  have hz : (z2.take len2).length ≤ 9223372036854775807 := by rw [hlen]; exact hmax
  have hb : 0 ≤ a3 ∧ a3 ≤ 255 := by
    simp [Lit.wf, IntKind.min, IntKind.max, IntKind.signed, IntKind.bits] at w3
    omega
  refine CallOK.lawB (copies_law a0 a1 a3 hb (z2.take len2) hz) (fun id o ho => ?_) (cargs := [_, _, _, _]) (E := E) ?_ rh
  · obtain ⟨rfl, rfl⟩ := find_one ho; rfl
  · exact ⟨_, _, rfl, rfl, _, _, rfl, rfl, _, _, rfl, r0, _, _, rfl, rfl, rfl⟩

set_option maxRecDepth 100000 in
theorem lifted (os : Os) (started : os.Started) (H : Type) (enc : TypeId × Value → H) :
    ReturnsInHanded {} Try.checked os 6 .any (Rows.blockCopiesSpec.pre6 enc Try.prog Try.f6 Rows.blockCopiesRow.domain false) (Rows.blockCopiesSpec.post enc Try.prog Try.f6 false true false false) := by
  refine returnsInHanded_of_change (C := Try.checked) own started (by kernel_rfl) Try.func6
    (ChangeSpec.witness6 (enc := enc) (C := Try.checked) false ⟨#[], #[.int .i64 0, .int .i64 0, .slice none 0 0, .int .u8 0], []⟩ 8 (by kernel_rfl) (by kernel_rfl) (by kernel_rfl) (by kernel_rfl)) ?_
  intro W base args ds gs before hval0 hW hcnd _
  have hval : ∀ (j : Nat) t v, Try.f6.params[j]? = some t → args[j]? = some v → Value.okWide Try.prog W .any base t v := hval0
  have hW' := hW
  obtain ⟨p, q, hA0, hV, rfl, hfz, hnd⟩ := hW
  have hA : DataW.TrodAll enc Try.prog W 0 (fun _ => true) true Try.f6.params.toList args.toList ds p := hA0
  rw [Try.params6] at hA hval
  obtain ⟨v0, vs0, d0, ds0, p0, q0, hargs, rfl, rfl, h0, r0⟩ := trodAll_cons hA
  obtain ⟨v1, vs1, d1, ds1, p1, q1, rfl, rfl, rfl, h1, r1⟩ := trodAll_cons r0
  obtain ⟨v2, vs2, d2, ds2, p2, q2, rfl, rfl, rfl, h2, r2⟩ := trodAll_cons r1
  obtain ⟨v3, vs3, d3, ds3, p3, q3, rfl, rfl, rfl, h3, r3⟩ := trodAll_cons r2
  obtain ⟨rfl, rfl, rfl⟩ := trodAll_nil r3
  obtain rfl : args = #[v0, v1, v2, v3] := by cases args; simp_all
  obtain ⟨rfl, rfl⟩ := trodVars_none hV
  obtain ⟨a0, rfl, rfl, rfl, w0⟩ := open_int Try.underlying3 (hval 0 3 v0 rfl rfl) h0
  obtain ⟨a1, rfl, rfl, rfl, w1⟩ := open_int Try.underlying3 (hval 1 3 v1 rfl rfl) h1
  obtain ⟨a2, len2, cap2, rfl⟩ := okWide_slice Try.underlying29 (hval 2 29 v2 rfl rfl)
  have k2 := h2
  have lt2 : ∀ x ∈ p2, x.block < W.heap.size := by obtain ⟨m, hm⟩ := k2; exact DataW.trod_lt m _ _ _ hm
  obtain ⟨z2, w2⟩ : ∃ zs, IsRow .u64 W a2 len2 cap2 zs := by
    obtain ⟨fuel, hf⟩ := h2
    rcases open_ints Try.underlying29 Try.underlying36 (by kernel_rfl) hf with ⟨hcs, _⟩ | ⟨x, l, c, zs, hcs, _, hl, hm, hz, _, hcell, hwz⟩
    · simp [Value.cells] at hcs
      obtain ⟨rfl, rfl, rfl⟩ := hcs
      exact ⟨[], .inl ⟨rfl, rfl, rfl, rfl⟩⟩
    · simp [Value.cells] at hcs
      obtain ⟨rfl, rfl, rfl⟩ := hcs
      exact ⟨zs, .inr ⟨_, rfl, hl, hm, by simpa using hz, hcell, hwz⟩⟩
  obtain ⟨a3, rfl, rfl, rfl, w3⟩ := open_int Try.underlying5 (hval 3 5 v3 rfl rfl) h3
  clear hA0 hval0
  refine (walk a0 a1 a2 len2 cap2 z2 a3 W w0 w1 w2 w3).mono fun e W' ⟨he, bel⟩ => ?_
  subst he
  exact ⟨_, rfl, _, _, _, [], _, [], hW', trodAll_mk1 (shut_bool Try.underlying4 _), (trodAll_cons_mk (shut_int Try.underlying3 w0) (trodAll_cons_mk (shut_int Try.underlying3 w1) (trodAll_cons_mk (Below.trod laidOut (by kernel_rfl) (of_decide_eq_true (by kernel_rfl)) k2 bel lt2) (trodAll_cons_mk (shut_int Try.underlying5 w3) trodAll_mk0)))), rfl, bel.frame _, fun h => by cases h⟩

theorem over : Rows.blockCopiesRow.holds Try.pinned (OpenSpec.ofChange Rows.blockCopiesSpec) :=
  OpenClaim.holds_of_wide 6 Try.f6 rfl rfl rfl rfl rfl rfl rfl ⟨rfl, rfl, rfl, rfl, rfl⟩ rfl rfl rfl rfl rfl (by kernel_rfl) Try.func6 (by kernel_rfl)
    (of_decide_eq_true (by kernel_rfl)) (by unfold Func.isWrapper; first | (rw [if_pos (by decide +kernel)]; kernel_rfl) | (rw [if_neg (by decide +kernel)]; exact ⟨rfl, rfl⟩))
    (fun os started H enc _ => lifted os started H enc)

theorem proved : Rows.BlockCopiesSaid := over
#print axioms proved
end Go.Proofs.Ytcoilldcghamdaa.blockCopies
