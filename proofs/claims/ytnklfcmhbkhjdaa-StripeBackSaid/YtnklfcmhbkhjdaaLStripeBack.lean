/- For every chunk, number of legs, offset and leg (any values of uint8, uint8, uint16, uint8): StripeBack returns true and leaves its arguments as they were. No condition. -/
import Derived.Test.YtnklfcmhbkhjdaaRows
import Derived.WalkKit
import Derived.ProofKit
import Derived.OpenShut
import Derived.ShutString
import Derived.ChangeOld
import Derived.Below
import Derived.Carry
import Derived.Test.YtnklfcmhbkhjdaaC
namespace Go.Proofs.Ytnklfcmhbkhjdaa.stripeBack
open Go.ChangeShapes Go.WideShapes Go.ChangeAt Go.RowKit
open Go.ChangeMaps (open_string shut_string)
set_option linter.unusedVariables false

theorem own : ownKnob Try.prog.godebug = none := by kernel_rfl
theorem laidOut : laidOutB Try.prog = true := by kernel_rfl

/-- arithmetic of the law -/
theorem sb1 (c k a : Int) (h0 : 1 ≤ c) (h2 : 1 ≤ k) (h4 : 0 ≤ a) : ((a/c/k*c + a%c)/c*k + a/c%k)*c + (a/c/k*c + a%c)%c = a := by
  have e8 : a % c < c := Int.emod_lt_of_pos _ (by omega)
  have e7 : 0 ≤ a % c := Int.emod_nonneg _ (by omega)
  have e1 : (a/c/k*c + a%c)/c = a/c/k := by
    rw [Int.add_comm, Int.add_mul_ediv_right _ _ (by omega), Int.ediv_eq_zero_of_lt e7 e8]; omega
  have e2 : (a/c/k*c + a%c)%c = a%c := by
    rw [Int.add_comm, Int.add_mul_emod_self_right]; exact Int.emod_eq_of_lt e7 e8
  rw [e1, e2, Int.ediv_mul_add_emod, Int.ediv_mul_add_emod]

theorem sb2 (c k l a : Int) (h0 : 1 ≤ c) (h2 : 1 ≤ k) (h4 : 0 ≤ a) (h6 : 0 ≤ l) (h7 : l < k) :
    ((a/c*k+l)*c + a%c)/c % k = l ∧ ((a/c*k+l)*c + a%c)/c/k*c + ((a/c*k+l)*c + a%c)%c = a := by
  have e8 : a % c < c := Int.emod_lt_of_pos _ (by omega)
  have e7 : 0 ≤ a % c := Int.emod_nonneg _ (by omega)
  have e1 : ((a/c*k+l)*c + a%c)/c = a/c*k + l := by
    rw [Int.add_comm, Int.add_mul_ediv_right _ _ (by omega), Int.ediv_eq_zero_of_lt e7 e8]; omega
  have e2 : ((a/c*k+l)*c + a%c)%c = a%c := by
    rw [Int.add_comm, Int.add_mul_emod_self_right]; exact Int.emod_eq_of_lt e7 e8
  have e3 : (a/c*k + l) / k = a/c := by
    rw [Int.add_comm, Int.add_mul_ediv_right _ _ (by omega), Int.ediv_eq_zero_of_lt h6 h7]; omega
  have e4 : (a/c*k + l) % k = l := by
    rw [Int.add_comm, Int.add_mul_emod_self_right]; exact Int.emod_eq_of_lt h6 h7
  rw [e1, e2, e3, e4, Int.ediv_mul_add_emod]
  exact ⟨rfl, rfl⟩


theorem place_ex (c k a : Int) (h0 : 1 ≤ c) (h1 : c ≤ 65536) (h2 : 1 ≤ k) (h3 : k ≤ 6) (h4 : 0 ≤ a) (h5 : a ≤ 1073741824) (w : World) :
    Calls Try.prog 8 #[.int .i64 c, .int .i64 k, .int .i64 a] w fun e w' => ∃ i o : Int, e = .returned (.tuple #[.int .i64 i, .int .i64 o, .int .i64 0]) ∧ 0 ≤ i ∧ i < k ∧ 0 ≤ o ∧ o ≤ a ∧ Hid (i = a/c%k ∧ o = a/c/k*c + a%c) ∧ Below w.heap.size w w' := by
  obtain ⟨e1, e2, e3, e4, e5, e6, e7, e8⟩ := pl1 a c k h0 h2 h4
  exact (place_ok c k a h0 h1 h2 h3 h4 h5 w).mono fun e w' ⟨he, hb⟩ => ⟨_, _, he, Int.emod_nonneg _ (by omega), Int.emod_lt_of_pos _ (by omega), by omega, by omega, ⟨rfl, rfl⟩, hb⟩

theorem back_of_place (c k a i o : Int) (h0 : 1 ≤ c) (h1 : c ≤ 65536) (h2 : 1 ≤ k) (h3 : k ≤ 6) (h4 : 0 ≤ a) (h5 : a ≤ 1073741824) (p1 : 0 ≤ i) (p2 : i < k) (p3 : 0 ≤ o) (p4 : o ≤ a) (H : Hid (i = a/c%k ∧ o = a/c/k*c + a%c)) (w : World) :
    Calls Try.prog 10 #[.int .i64 c, .int .i64 k, .int .i64 i, .int .i64 o] w fun e w' => e = .returned (.tuple #[.int .i64 a, .int .i64 0]) ∧ Below w.heap.size w w' := by
  have e := sb1 c k a h0 h2 h4
  rw [← H.out.2, ← H.out.1] at e
  have := back_ok c k i o h0 h1 h2 h3 p3 (by omega) p1 p2 w
  rwa [e] at this

theorem back_ex (c k l a : Int) (h0 : 1 ≤ c) (h1 : c ≤ 16) (h2 : 1 ≤ k) (h3 : k ≤ 6) (h4 : 0 ≤ a) (h5 : a ≤ 65535) (h6 : 0 ≤ l) (h7 : l < k) (w : World) :
    Calls Try.prog 10 #[.int .i64 c, .int .i64 k, .int .i64 l, .int .i64 a] w fun e w' => ∃ y : Int, e = .returned (.tuple #[.int .i64 y, .int .i64 0]) ∧ 0 ≤ y ∧ y ≤ 1073741824 ∧ Hid (y = (a/c*k+l)*c + a%c) ∧ Below w.heap.size w w' := by
  obtain ⟨e1, e2, e3, e4, e5, e6, e7, e8⟩ := pl1 a c k h0 h2 h4
  have g1 : 0 ≤ a/c*k := Int.mul_nonneg e1 (by omega)
  have g2 : a/c*k ≤ 65535 * 6 := Int.mul_le_mul (by omega) h3 (by omega) (by omega)
  have g3 : (a/c*k+l)*c ≤ 393216 * 16 := Int.mul_le_mul (by omega) h1 (by omega) (by omega)
  have g4 : 0 ≤ (a/c*k+l)*c := Int.mul_nonneg (by omega) (by omega)
  exact (back_ok c k l a h0 (by omega) h2 h3 h4 (by omega) h6 h7 w).mono fun e w' ⟨he, hb⟩ => ⟨_, he, by omega, by omega, rfl, hb⟩

theorem place_of_back (c k l a y : Int) (h0 : 1 ≤ c) (h1 : c ≤ 16) (h2 : 1 ≤ k) (h3 : k ≤ 6) (h4 : 0 ≤ a) (h5 : a ≤ 65535) (h6 : 0 ≤ l) (h7 : l < k) (p1 : 0 ≤ y) (p2 : y ≤ 1073741824) (H : Hid (y = (a/c*k+l)*c + a%c)) (w : World) :
    Calls Try.prog 8 #[.int .i64 c, .int .i64 k, .int .i64 y] w fun e w' => e = .returned (.tuple #[.int .i64 l, .int .i64 a, .int .i64 0]) ∧ Below w.heap.size w w' := by
  obtain ⟨e1, e2⟩ := sb2 c k l a h0 h2 h4 h6 h7
  have := place_ok c k y h0 (by omega) h2 h3 p1 p2 w
  rw [← H.out] at e1 e2
  rwa [e1, e2] at this

theorem walk (a0 : Int) (a1 : Int) (a2 : Int) (a3 : Int) (w : World) (w0 : (Lit.int .u8 a0).wf = true) (w1 : (Lit.int .u8 a1).wf = true) (w2 : (Lit.int .u16 a2).wf = true) (w3 : (Lit.int .u8 a3).wf = true) :
    Calls Try.prog 4 #[.int .u8 a0, .int .u8 a1, .int .u16 a2, .int .u8 a3] w fun e w' => e = .returned (.bool true) ∧ Below w.heap.size w w' := by
  obtain ⟨q0, q1⟩ : 0 ≤ a0 ∧ a0 ≤ 255 := by simp [Lit.wf, IntKind.min, IntKind.max, IntKind.signed, IntKind.bits] at w0; omega
  obtain ⟨q2, q3⟩ : 0 ≤ a1 ∧ a1 ≤ 255 := by simp [Lit.wf, IntKind.min, IntKind.max, IntKind.signed, IntKind.bits] at w1; omega
  obtain ⟨q4, q5⟩ : 0 ≤ a2 ∧ a2 ≤ 65535 := by simp [Lit.wf, IntKind.min, IntKind.max, IntKind.signed, IntKind.bits] at w2; omega
  obtain ⟨q6, q7⟩ : 0 ≤ a3 ∧ a3 ≤ 255 := by simp [Lit.wf, IntKind.min, IntKind.max, IntKind.signed, IntKind.bits] at w3; omega
  clear w0 w1 w2 w3
  have q8 : 0 ≤ a3 % (1 + a1 % 6) := Int.emod_nonneg _ (by omega)
  have q9 : a3 % (1 + a1 % 6) < 1 + a1 % 6 := Int.emod_lt_of_pos _ (by omega)
  go_enter Try.func4, Try.ntmps4
  go_wp2_with fail
  refine (place_ex _ _ _ (by omega) (by omega) (by omega) (by omega) (by omega) (by omega) _).mono ?_
  rintro e w1 ⟨i, o, rfl, p1, p2, p3, p4, HP, hb1⟩
  go_wp2_with fail
  refine (back_of_place _ _ _ _ _ (by omega) (by omega) (by omega) (by omega) (by omega) (by omega) p1 p2 p3 p4 HP _).mono ?_
  rintro e w2 ⟨rfl, hb2⟩
  go_wp2_with fail
  refine (back_ex _ _ _ _ (by omega) (by omega) (by omega) (by omega) (by omega) (by omega) q8 q9 _).mono ?_
  rintro e w3 ⟨y, rfl, r1, r2, HY, hb3⟩
  go_wp2_with fail
  refine (place_of_back _ _ _ _ _ (by omega) (by omega) (by omega) (by omega) (by omega) (by omega) q8 q9 r1 r2 HY _).mono ?_
  rintro e w4 ⟨rfl, hb4⟩
  go_wp2_with fail
  refine (awake_ok _).mono ?_
  rintro e w5 ⟨rfl, hb5⟩
  go_wp2_with fail
  go_ret
  exact ⟨rfl, bt (bt (bt (bt hb1 hb2) hb3) hb4) hb5⟩

set_option maxRecDepth 100000 in
theorem lifted (os : Os) (started : os.Started) (H : Type) (enc : TypeId × Value → H) :
    ReturnsInHanded {} Try.checked os 4 .any (Rows.stripeBackSpec.pre6 enc Try.prog Try.f4 Rows.stripeBackRow.domain false) (Rows.stripeBackSpec.post enc Try.prog Try.f4 false true false false) := by
  refine returnsInHanded_of_change (C := Try.checked) own started (by kernel_rfl) Try.func4
    (ChangeSpec.witness6 (enc := enc) (C := Try.checked) false ⟨#[], #[.int .u8 0, .int .u8 0, .int .u16 0, .int .u8 0], []⟩ 8 (by kernel_rfl) (by kernel_rfl) (by kernel_rfl) (by kernel_rfl)) ?_
  intro W base args ds gs before hval0 hW hcnd _
  have hval : ∀ (j : Nat) t v, Try.f4.params[j]? = some t → args[j]? = some v → Value.okWide Try.prog W .any base t v := hval0
  have hW' := hW
  obtain ⟨p, q, hA0, hV, rfl, hfz, hnd⟩ := hW
  have hA : DataW.TrodAll enc Try.prog W 0 (fun _ => true) true Try.f4.params.toList args.toList ds p := hA0
  rw [Try.params4] at hA hval
  obtain ⟨v0, vs0, d0, ds0, p0, q0, hargs, rfl, rfl, h0, r0⟩ := trodAll_cons hA
  obtain ⟨v1, vs1, d1, ds1, p1, q1, rfl, rfl, rfl, h1, r1⟩ := trodAll_cons r0
  obtain ⟨v2, vs2, d2, ds2, p2, q2, rfl, rfl, rfl, h2, r2⟩ := trodAll_cons r1
  obtain ⟨v3, vs3, d3, ds3, p3, q3, rfl, rfl, rfl, h3, r3⟩ := trodAll_cons r2
  obtain ⟨rfl, rfl, rfl⟩ := trodAll_nil r3
  obtain rfl : args = #[v0, v1, v2, v3] := by cases args; simp_all
  obtain ⟨rfl, rfl⟩ := trodVars_none hV
  obtain ⟨a0, rfl, rfl, rfl, w0⟩ := open_int Try.underlying5 (hval 0 5 v0 rfl rfl) h0
  obtain ⟨a1, rfl, rfl, rfl, w1⟩ := open_int Try.underlying5 (hval 1 5 v1 rfl rfl) h1
  obtain ⟨a2, rfl, rfl, rfl, w2⟩ := open_int Try.underlying33 (hval 2 33 v2 rfl rfl) h2
  obtain ⟨a3, rfl, rfl, rfl, w3⟩ := open_int Try.underlying5 (hval 3 5 v3 rfl rfl) h3
  clear hA0 hval0
  refine (walk a0 a1 a2 a3 W w0 w1 w2 w3).mono fun e W' ⟨he, bel⟩ => ?_
  subst he
  exact ⟨_, rfl, _, _, _, [], _, [], hW', trodAll_mk1 (shut_bool Try.underlying4 _), (trodAll_cons_mk (shut_int Try.underlying5 w0) (trodAll_cons_mk (shut_int Try.underlying5 w1) (trodAll_cons_mk (shut_int Try.underlying33 w2) (trodAll_cons_mk (shut_int Try.underlying5 w3) trodAll_mk0)))), rfl, bel.frame _, fun h => by cases h⟩

theorem over : Rows.stripeBackRow.holds Try.pinned (OpenSpec.ofChange Rows.stripeBackSpec) :=
  OpenClaim.holds_of_wide 4 Try.f4 rfl rfl rfl rfl rfl rfl rfl ⟨rfl, rfl, rfl, rfl, rfl⟩ rfl rfl rfl rfl rfl (by kernel_rfl) Try.func4 (by kernel_rfl)
    (of_decide_eq_true (by kernel_rfl)) (by unfold Func.isWrapper; first | (rw [if_pos (by decide +kernel)]; kernel_rfl) | (rw [if_neg (by decide +kernel)]; exact ⟨rfl, rfl⟩))
    (fun os started H enc _ => lifted os started H enc)

theorem proved : Rows.StripeBackSaid := over
#print axioms proved
end Go.Proofs.Ytnklfcmhbkhjdaa.stripeBack
