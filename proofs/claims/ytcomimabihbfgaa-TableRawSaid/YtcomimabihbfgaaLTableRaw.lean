/- TableRaw: for every two lists of targets and every two numbers. No condition. -/
import Derived.Test.YtcomimabihbfgaaRows
import Derived.WalkKit
import Derived.ProofKit
import Derived.OpenShut
import Derived.ShutString
import Derived.ChangeOld
import Derived.Below
import Derived.Carry
import Derived.Test.YtcomimabihbfgaaSyA
import Derived.Test.YtcomimabihbfgaaSyB
import Derived.Test.YtcomimabihbfgaaSyC
import Derived.Test.YtcomimabihbfgaaSyD
import Derived.Test.YtcomimabihbfgaaSyF
import Derived.Test.YtcomimabihbfgaaSyG
import Derived.Test.YtcomimabihbfgaaSyH
import Derived.Test.YtcomimabihbfgaaSyI
import Derived.Test.YtcomimabihbfgaaSyJ
import Derived.Test.YtcomimabihbfgaaSyK
import Derived.Test.YtcomimabihbfgaaSyL
import Derived.Test.YtcomimabihbfgaaSyM
import Derived.Test.YtcomimabihbfgaaSyN
import Derived.Test.YtcomimabihbfgaaSyO
import Derived.Test.YtcomimabihbfgaaSyQ
import Derived.Test.YtcomimabihbfgaaSyR
import Derived.Test.YtcomimabihbfgaaSyU
import Derived.Test.YtcomimabihbfgaaTa
import Derived.Test.YtcomimabihbfgaaTb
import Derived.Test.YtcomimabihbfgaaTc
import Derived.Test.YtcomimabihbfgaaTd
import Derived.Test.YtcomimabihbfgaaTe
import Derived.Test.YtcomimabihbfgaaTf
import Derived.Test.YtcomimabihbfgaaTg
import Derived.Test.YtcomimabihbfgaaTh
import Derived.Test.YtcomimabihbfgaaTi
import Derived.Test.YtcomimabihbfgaaTj
import Derived.Test.YtcomimabihbfgaaTk
import Derived.Test.YtcomimabihbfgaaTl
import Derived.Test.YtcomimabihbfgaaTm
import Derived.Test.YtcomimabihbfgaaTn
import Derived.Test.YtcomimabihbfgaaTo
namespace Go.Proofs.Ytcomimabihbfgaa.tableRaw
open Go.ChangeShapes Go.WideShapes Go.ChangeAt Go.RowKit
open Go.ChangeMaps (open_string shut_string)
set_option linter.unusedVariables false

theorem own : ownKnob Try.prog.godebug = none := by kernel_rfl
theorem laidOut : laidOutB Try.prog = true := by kernel_rfl

theorem walk {H : Type} {enc : TypeId × Value → H} {base : Nat} {d0 d1 : DataW H} {p0 p1 : List MemPlace} (v0 v1 : Value) (a2 a3 : Int) (w : World) (ok0 : Value.okWide Try.prog w .any base 22 v0) (k0 : DataW.Trod enc Try.prog w 0 (fun _ => true) true 22 v0 d0 p0) (ok1 : Value.okWide Try.prog w .any base 22 v1) (k1 : DataW.Trod enc Try.prog w 0 (fun _ => true) true 22 v1 d1 p1) (w2 : (Lit.int .i64 a2).wf = true) (w3 : (Lit.int .i64 a3).wf = true) :
    Calls Try.prog 3 #[v0, v1, .int .i64 a2, .int .i64 a3] w fun e w' => e = .returned (.bool true) ∧ Below w.heap.size w w' := by
  obtain ⟨x0, c0, L, rfl, hl, hL⟩ := open_targets ok0 k0
  obtain ⟨x1, c1, M, rfl, hm, hM⟩ := open_targets ok1 k1
  obtain ⟨E, rh, r0, r1⟩ := two_tables hL hM
  have i2 : -9223372036854775808 ≤ a2 ∧ a2 ≤ 9223372036854775807 := by
    simp [Lit.wf, IntKind.min, IntKind.max, IntKind.signed, IntKind.bits] at w2
    simpa using w2
  have i3 : -9223372036854775808 ≤ a3 ∧ a3 ≤ 9223372036854775807 := by
    simp [Lit.wf, IntKind.min, IntKind.max, IntKind.signed, IntKind.bits] at w3
    simpa using w3
  refine CallOK.law (raw_any L M a2 a3 hl hm i2 i3) (fun id o ho => ?_) (cargs := [_, _, _, _]) (E := E) ?_ rh
  · simp only [find] at ho
    split at ho
    · obtain rfl := Option.some.inj ho; rfl
    · split at ho
      · obtain rfl := Option.some.inj ho; rfl
      · cases ho
  · exact ⟨_, _, rfl, r0, _, _, rfl, r1, _, _, rfl, rfl, _, _, rfl, rfl, rfl⟩

set_option maxRecDepth 100000 in
theorem lifted (os : Os) (started : os.Started) (H : Type) (enc : TypeId × Value → H) :
    ReturnsInHanded {} Try.checked os 3 .any (Rows.tableRawSpec.pre6 enc Try.prog Try.f3 Rows.tableRawRow.domain false) (Rows.tableRawSpec.post enc Try.prog Try.f3 false true false false) := by
  refine returnsInHanded_of_change (C := Try.checked) own started (by kernel_rfl) Try.func3
    (ChangeSpec.witness6 (enc := enc) (C := Try.checked) false ⟨#[], #[.slice none 0 0, .slice none 0 0, .int .i64 0, .int .i64 0], []⟩ 8 (by kernel_rfl) (by kernel_rfl) (by kernel_rfl) (by kernel_rfl)) ?_
  intro W base args ds gs before hval0 hW hcnd _
  have hval : ∀ (j : Nat) t v, Try.f3.params[j]? = some t → args[j]? = some v → Value.okWide Try.prog W .any base t v := hval0
  have hW' := hW
  obtain ⟨p, q, hA0, hV, rfl, hfz, hnd⟩ := hW
  have hA : DataW.TrodAll enc Try.prog W 0 (fun _ => true) true Try.f3.params.toList args.toList ds p := hA0
  rw [Try.params3] at hA hval
  obtain ⟨v0, vs0, d0, ds0, p0, q0, hargs, rfl, rfl, h0, r0⟩ := trodAll_cons hA
  obtain ⟨v1, vs1, d1, ds1, p1, q1, rfl, rfl, rfl, h1, r1⟩ := trodAll_cons r0
  obtain ⟨v2, vs2, d2, ds2, p2, q2, rfl, rfl, rfl, h2, r2⟩ := trodAll_cons r1
  obtain ⟨v3, vs3, d3, ds3, p3, q3, rfl, rfl, rfl, h3, r3⟩ := trodAll_cons r2
  obtain ⟨rfl, rfl, rfl⟩ := trodAll_nil r3
  obtain rfl : args = #[v0, v1, v2, v3] := by cases args; simp_all
  obtain ⟨rfl, rfl⟩ := trodVars_none hV
  have k0 := h0
  have lt0 : ∀ x ∈ p0, x.block < W.heap.size := by obtain ⟨m, hm⟩ := k0; exact DataW.trod_lt m _ _ _ hm
  have ok0 := hval 0 22 v0 rfl rfl
  have k1 := h1
  have lt1 : ∀ x ∈ p1, x.block < W.heap.size := by obtain ⟨m, hm⟩ := k1; exact DataW.trod_lt m _ _ _ hm
  have ok1 := hval 1 22 v1 rfl rfl
  obtain ⟨a2, rfl, rfl, rfl, w2⟩ := open_int Try.underlying3 (hval 2 3 v2 rfl rfl) h2
  obtain ⟨a3, rfl, rfl, rfl, w3⟩ := open_int Try.underlying3 (hval 3 3 v3 rfl rfl) h3
  clear hA0 hval0
  refine (walk v0 v1 a2 a3 W ok0 k0 ok1 k1 w2 w3).mono fun e W' ⟨he, bel⟩ => ?_
  subst he
  exact ⟨_, rfl, _, _, _, [], _, [], hW', trodAll_mk1 (shut_bool Try.underlying4 _), (trodAll_cons_mk (Below.trod laidOut (by kernel_rfl) (of_decide_eq_true (by kernel_rfl)) k0 bel lt0) (trodAll_cons_mk (Below.trod laidOut (by kernel_rfl) (of_decide_eq_true (by kernel_rfl)) k1 bel lt1) (trodAll_cons_mk (shut_int Try.underlying3 w2) (trodAll_cons_mk (shut_int Try.underlying3 w3) trodAll_mk0)))), rfl, bel.frame _, fun h => by cases h⟩

theorem over : Rows.tableRawRow.holds Try.pinned (OpenSpec.ofChange Rows.tableRawSpec) :=
  OpenClaim.holds_of_wide 3 Try.f3 rfl rfl rfl rfl rfl rfl rfl ⟨rfl, rfl, rfl, rfl, rfl⟩ rfl rfl rfl rfl rfl (by kernel_rfl) Try.func3 (by kernel_rfl)
    (of_decide_eq_true (by kernel_rfl)) (by unfold Func.isWrapper; first | (rw [if_pos (by decide +kernel)]; kernel_rfl) | (rw [if_neg (by decide +kernel)]; exact ⟨rfl, rfl⟩))
    (fun os started H enc _ => lifted os started H enc)

theorem proved : Rows.TableRawSaid := over
#print axioms proved
end Go.Proofs.Ytcomimabihbfgaa.tableRaw
