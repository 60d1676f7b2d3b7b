/- LexerBlanks: for every list of numbers and every number of eight bits the law returns true. No condition. -/
import Derived.Test.YtnjidpidcmapkaaRows
import Derived.WalkKit
import Derived.ProofKit
import Derived.OpenShut
import Derived.ShutString
import Derived.ChangeOld
import Derived.Below
import Derived.Carry
import Derived.Test.YtnjidpidcmapkaaSyA
import Derived.Test.YtnjidpidcmapkaaSyB
import Derived.Test.YtnjidpidcmapkaaSyC
import Derived.Test.YtnjidpidcmapkaaSyD
import Derived.Test.YtnjidpidcmapkaaSyF
import Derived.Test.YtnjidpidcmapkaaSyG
import Derived.Test.YtnjidpidcmapkaaSyH
import Derived.Test.YtnjidpidcmapkaaSyI
import Derived.Test.YtnjidpidcmapkaaSyJ
import Derived.Test.YtnjidpidcmapkaaSyP
import Derived.Test.YtnjidpidcmapkaaSyE
import Derived.Test.YtnjidpidcmapkaaSyK
import Derived.Test.YtnjidpidcmapkaaSyL
import Derived.Test.YtnjidpidcmapkaaSyM
import Derived.Test.YtnjidpidcmapkaaSyN
import Derived.Test.YtnjidpidcmapkaaSyO
import Derived.Test.YtnjidpidcmapkaaSyQ
import Derived.Test.YtnjidpidcmapkaaSyR
import Derived.Test.YtnjidpidcmapkaaSyU
import Derived.Test.YtnjidpidcmapkaaSyV
import Derived.Test.YtnjidpidcmapkaaSyW
import Derived.Test.YtnjidpidcmapkaaSyX
import Derived.Test.YtnjidpidcmapkaaSyZ
import Derived.Test.YtnjidpidcmapkaaX0
import Derived.Test.YtnjidpidcmapkaaX1
import Derived.Test.YtnjidpidcmapkaaX2
import Derived.Test.YtnjidpidcmapkaaX3
import Derived.Test.YtnjidpidcmapkaaX4
import Derived.Test.YtnjidpidcmapkaaX5
import Derived.Test.YtnjidpidcmapkaaX6
import Derived.Test.YtnjidpidcmapkaaX7
import Derived.Test.YtnjidpidcmapkaaX8
import Derived.Test.YtnjidpidcmapkaaX9
import Derived.Test.YtnjidpidcmapkaaXA
import Derived.Test.YtnjidpidcmapkaaXB
import Derived.Test.YtnjidpidcmapkaaXC
import Derived.Test.YtnjidpidcmapkaaXE
import Derived.Test.YtnjidpidcmapkaaXI
import Derived.Test.YtnjidpidcmapkaaXD
import Derived.Test.YtnjidpidcmapkaaXG
import Derived.Test.YtnjidpidcmapkaaXJ
namespace Go.Proofs.Ytnjidpidcmapkaa.lexerBlanks
open Go.ChangeShapes Go.WideShapes Go.ChangeAt Go.RowKit
open Go.ChangeMaps (open_string shut_string)
set_option linter.unusedVariables false

theorem own : ownKnob Try.prog.godebug = none := by kernel_rfl
theorem laidOut : laidOutB Try.prog = true := by kernel_rfl

theorem walk (a0 : Option Addr) (len0 cap0 : Nat) (z0 : List Int) (b1 : Int) (w : World) (w0 : IsRow .i64 w a0 len0 cap0 z0) (w1 : (Lit.int .u8 b1).wf = true) :
    Calls Try.prog 5 #[.slice a0 len0 cap0, .int .u8 b1] w fun e w' => e = .returned (.bool true) ∧ Below w.heap.size w w' := by
  have hn : 0 ≤ b1 ∧ b1 < 256 := by
    simp [Lit.wf, IntKind.min, IntKind.max, IntKind.signed, IntKind.bits] at w1
    omega
  obtain ⟨E, rh, r0⟩ := one_row w0 1
  obtain ⟨_, hlen, hmax, _⟩ := w0.facts
  refine CallOK.lawB (blanks_any (z0.take len0) (by omega) b1 hn) (fun id o ho => ?_) (cargs := [_, .int .u8 b1]) (E := E) ?_ rh
  · obtain ⟨rfl, rfl⟩ := find_one ho; rfl
  · exact ⟨_, _, rfl, r0, _, _, rfl, rfl, rfl⟩

set_option maxRecDepth 100000 in
theorem lifted (os : Os) (started : os.Started) (H : Type) (enc : TypeId × Value → H) :
    ReturnsInHanded {} Try.checked os 5 .any (Rows.lexerBlanksSpec.pre6 enc Try.prog Try.f5 Rows.lexerBlanksRow.domain false) (Rows.lexerBlanksSpec.post enc Try.prog Try.f5 false true false false) := by
  refine returnsInHanded_of_change (C := Try.checked) own started (by kernel_rfl) Try.func5
    (ChangeSpec.witness6 (enc := enc) (C := Try.checked) false ⟨#[], #[.slice none 0 0, .int .u8 0], []⟩ 8 (by kernel_rfl) (by kernel_rfl) (by kernel_rfl) (by kernel_rfl)) ?_
  intro W base args ds gs before hval0 hW hcnd _
  have hval : ∀ (j : Nat) t v, Try.f5.params[j]? = some t → args[j]? = some v → Value.okWide Try.prog W .any base t v := hval0
  have hW' := hW
  obtain ⟨p, q, hA0, hV, rfl, hfz, hnd⟩ := hW
  have hA : DataW.TrodAll enc Try.prog W 0 (fun _ => true) true Try.f5.params.toList args.toList ds p := hA0
  rw [Try.params5] at hA hval
  obtain ⟨v0, vs0, d0, ds0, p0, q0, hargs, rfl, rfl, h0, r0⟩ := trodAll_cons hA
  obtain ⟨v1, vs1, d1, ds1, p1, q1, rfl, rfl, rfl, h1, r1⟩ := trodAll_cons r0
  obtain ⟨rfl, rfl, rfl⟩ := trodAll_nil r1
  obtain rfl : args = #[v0, v1] := by cases args; simp_all
  obtain ⟨rfl, rfl⟩ := trodVars_none hV
  obtain ⟨a0, len0, cap0, rfl⟩ := okWide_slice Try.underlying24 (hval 0 24 v0 rfl rfl)
  have k0 := h0
  have lt0 : ∀ x ∈ p0, x.block < W.heap.size := by obtain ⟨m, hm⟩ := k0; exact DataW.trod_lt m _ _ _ hm
  obtain ⟨z0, w0⟩ : ∃ zs, IsRow .i64 W a0 len0 cap0 zs := by
    obtain ⟨fuel, hf⟩ := h0
    rcases open_ints Try.underlying24 Try.underlying3 (by kernel_rfl) hf with ⟨hcs, _⟩ | ⟨x, l, c, zs, hcs, _, hl, hm, hz, _, hcell, hwz⟩
    · simp [Value.cells] at hcs
      obtain ⟨rfl, rfl, rfl⟩ := hcs
      exact ⟨[], .inl ⟨rfl, rfl, rfl, rfl⟩⟩
    · simp [Value.cells] at hcs
      obtain ⟨rfl, rfl, rfl⟩ := hcs
      exact ⟨zs, .inr ⟨_, rfl, hl, hm, by simpa using hz, hcell, hwz⟩⟩
  obtain ⟨a1, rfl, rfl, rfl, w1⟩ := open_int Try.underlying5 (hval 1 5 v1 rfl rfl) h1
  clear hA0 hval0
  refine (walk a0 len0 cap0 z0 a1 W w0 w1).mono fun e W' ⟨he, bel⟩ => ?_
  subst he
  exact ⟨_, rfl, _, _, _, [], _, [], hW', trodAll_mk1 (shut_bool Try.underlying4 _), (trodAll_cons_mk (Below.trod laidOut (by kernel_rfl) (of_decide_eq_true (by kernel_rfl)) k0 bel lt0) (trodAll_cons_mk (shut_int Try.underlying5 w1) trodAll_mk0)), rfl, bel.frame _, fun h => by cases h⟩

theorem over : Rows.lexerBlanksRow.holds Try.pinned (OpenSpec.ofChange Rows.lexerBlanksSpec) :=
  OpenClaim.holds_of_wide 5 Try.f5 rfl rfl rfl rfl rfl rfl rfl ⟨rfl, rfl, rfl, rfl, rfl⟩ rfl rfl rfl rfl rfl (by kernel_rfl) Try.func5 (by kernel_rfl)
    (of_decide_eq_true (by kernel_rfl)) (by unfold Func.isWrapper; first | (rw [if_pos (by decide +kernel)]; kernel_rfl) | (rw [if_neg (by decide +kernel)]; exact ⟨rfl, rfl⟩))
    (fun os started H enc _ => lifted os started H enc)

theorem proved : Rows.LexerBlanksSaid := over
#print axioms proved
end Go.Proofs.Ytnjidpidcmapkaa.lexerBlanks
