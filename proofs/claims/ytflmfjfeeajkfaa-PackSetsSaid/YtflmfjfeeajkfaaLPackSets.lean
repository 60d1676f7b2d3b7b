/- For all lists l of words, all n, m, x and y: PackSets returns true and leaves its arguments as they were. No condition. -/
import Derived.Test.YtflmfjfeeajkfaaRows
import Derived.WalkKit
import Derived.ProofKit
import Derived.OpenShut
import Derived.ShutString
import Derived.ChangeOld
import Derived.Below
import Derived.Carry
import Derived.Test.YtflmfjfeeajkfaaA
import Derived.Test.YtflmfjfeeajkfaaT
namespace Go.Proofs.Ytflmfjfeeajkfaa.packSets
open Go.ChangeShapes Go.WideShapes Go.ChangeAt Go.RowKit
open Go.ChangeMaps (open_string shut_string)
set_option linter.unusedVariables false

theorem own : ownKnob Try.prog.godebug = none := by kernel_rfl
theorem laidOut : laidOutB Try.prog = true := by kernel_rfl

set_option linter.unusedSimpArgs false
theorem below_drewN (k : Nat) (w : World) (n : Nat) : Below k w (w.drewN n) := ⟨rfl, rfl, rfl, Nat.le_refl _, fun _ _ => rfl⟩
theorem sames (W w0 : World) (hW : Below W.heap.size W w0) (a b : Option Addr) (len cap cap' : Nat) (ws : List Nat) (hl : len ≤ 9223372036854775807) (hA : Wd w0.heap.size w0 a len cap ws) (hB : Wd w0.heap.size w0 b len cap' ws) :
    Calls Try.prog 12 #[.slice a len cap, .slice b len cap'] w0 fun e w' => e = .returned (.bool true) ∧ Below w0.heap.size w0 w' :=
  (same_yes a b len cap cap' w0.heap.size ws w0 hl hA hB).mono fun e w' ⟨he, n, hw⟩ => ⟨he, by rw [hw]; exact below_drewN _ _ _⟩

theorem set_st (a : Option Addr) (len cap i q r : Nat) (ws : List Nat) (is : Bool) (hl : len ≤ 100000) (hn : i = 64 * q + r) (hr : r < 64) (h : q < len) (w : World) (hW : Wd w.heap.size w a len cap ws) :
    Calls Try.prog 26 #[.slice a len cap, .int .i64 (i : Int), .bool is] w fun e w' => ∃ a' cap', e = .returned (.tuple #[.slice a' len cap', .int .i64 0]) ∧ Hid (Wd w'.heap.size w' a' len cap' (st ws q r is)) ∧ Below w.heap.size w w' :=
  set_ok a len cap i q r ws is hl hn hr h w hW

set_option maxRecDepth 100000 in
set_option maxHeartbeats 1000000 in
theorem core (a : Option Addr) (len cap i k q r q' r' : Nat) (n m : Nat) (ws : List Nat) (x y0 y : Bool) (W : World) (h1 : 1 ≤ len) (h4 : len ≤ 4) (hn : n < 256) (hm : m < 256) (hni : i = n % (64 * len)) (hmk : k = m % (64 * len)) (hi : i = 64 * q + r) (hk : k = 64 * q' + r') (hr : r < 64) (hr' : r' < 64) (hq : q < len) (hq' : q' < len) (hy : y = if i = k then x else y0) (hW : Wd W.heap.size W a len cap ws) :
    Calls Try.prog 8 #[.slice a len cap, .int .u8 (n : Int), .int .u8 (m : Int), .bool x, .bool y0] W fun e w' => e = .returned (.bool true) ∧ Below W.heap.size W w' := by
  have hlen := hid hW.1
  have hlt : Lt ws := fun j hj => hW.2.1 j (by rw [hW.1] at hj; exact hj)
  have hxy : q = q' → r = r' → x = y := fun e1 e2 => by rw [hy, if_pos (by rw [hi, hk, e1, e2])]
  have E1 := hid (st_comm hlt (by rw [hlen.out]; exact hq) (by rw [hlen.out]; exact hq') hr hr' hxy)
  have E2 := hid (st_back hlt (by rw [hlen.out]; exact hq) (by rw [hlen.out]; exact hq') hr hr' hxy)
  have HW := hid hW
  have hl1 : ¬ (len : Int) < 1 := by omega
  have hl4 : ¬ 4 < (len : Int) := by omega
  have t1 : (n : Int) % (64 * (len : Int)) = (i : Int) := by rw [hni]; simp
  have t2 : (m : Int) % (64 * (len : Int)) = (k : Int) := by rw [hmk]; simp
  have t3 : (n : Int).tmod (64 * (len : Int)) = (i : Int) := by rw [Int.tmod_eq_emod_of_nonneg (by omega)]; exact t1
  have t4 : (m : Int).tmod (64 * (len : Int)) = (k : Int) := by rw [Int.tmod_eq_emod_of_nonneg (by omega)]; exact t2
  have t5 : IntKind.i64.wrap (n : Int) = (n : Int) := IntWalk.i64_in _ (by omega)
  have t6 : IntKind.i64.wrap (m : Int) = (m : Int) := IntWalk.i64_in _ (by omega)
  have t7 : IntKind.i64.wrap (64 * (len : Int)) = 64 * (len : Int) := IntWalk.i64_in _ (by omega)
  have t8 : IntKind.i64.wrap (i : Int) = (i : Int) := IntWalk.i64_in _ (by omega)
  have t9 : IntKind.i64.wrap (k : Int) = (k : Int) := IntWalk.i64_in _ (by omega)
  have HI := hid hi; have HK := hid hk
  have HY := hid hy
  have hne : (64 * (len : Int) == 0) = false := beq_eq_false_iff_ne.2 (by omega)
  clear hW hlt hxy hi hk hni hmk hy
  have HM := hid hm
  clear hm hn
  by_cases hik : i = k
  · have hb : ((i : Int) == (k : Int)) = true := by rw [hik]; exact beq_self_eq_true _
    obtain rfl : y = x := by rw [HY.out, if_pos hik]
    have HIK := hid hik
    clear hik
    go_enter Try.func8, Try.ntmps8
    go_wp2_with fail
    go_quiet (fail)
    go_wp2_with fail
    have HB0 := hid (below_drewN W.heap.size W nq)
    have HW1 := hid (HW.out.kept HB0.out)
    clear HW
    generalize W.drewN nq = W1 at *
    refine (set_st _ _ _ _ q r ws _ (by omega) HI.out hr hq _ HW1.out).mono ?_
    rintro e w1 ⟨a1, cap1, rfl, D1, hb1⟩
    have HB1 := hid (bt HB0.out hb1)
    have A1 := hid (HW1.out.kept hb1)
    clear hb1 HB0 HW1
    go_wp2_with fail
    refine (set_st _ _ _ _ q' r' _ _ (by omega) HK.out hr' hq' _ D1.out).mono ?_
    rintro e w2 ⟨a2, cap2, rfl, D2, hb2⟩
    have HB2 := hid (bt HB1.out hb2)
    have A2 := hid (A1.out.kept hb2)
    clear hb2 HB1 A1 D1
    go_wp2_with fail
    refine (set_st _ _ _ _ q' r' _ _ (by omega) HK.out hr' hq' _ A2.out).mono ?_
    rintro e w3 ⟨a3, cap3, rfl, D3, hb3⟩
    have HB3 := hid (bt HB2.out hb3)
    have B3 := hid (D2.out.kept hb3)
    clear hb3 HB2 A2 D2
    go_wp2_with fail
    refine (set_st _ _ _ _ q r _ _ (by omega) HI.out hr hq _ D3.out).mono ?_
    rintro e w4 ⟨a4, cap4, rfl, D4, hb4⟩
    have HB4 := hid (bt HB3.out hb4)
    have B4 := hid (B3.out.kept hb4)
    clear hb4 HB3 B3 D3
    go_wp2_with fail
    refine (set_st _ _ _ _ q r _ _ (by omega) HI.out hr hq _ B4.out).mono ?_
    rintro e w5 ⟨a5, cap5, rfl, D5, hb5⟩
    have HB5 := hid (bt HB4.out hb5)
    have B5 := hid (B4.out.kept hb5)
    have C5 := hid (D4.out.kept hb5)
    clear hb5 HB4 B4 D4
    rw [← E1.out] at C5
    rw [E2.out] at D5
    go_wp2_with fail
    refine (sames w5 w5 (Below.refl _ _) _ _ _ _ _ _ (by omega) B5.out C5.out).mono ?_
    rintro e w6 ⟨rfl, hb6⟩
    have HB6 := hid (bt HB5.out hb6)
    have B6 := hid (B5.out.kept hb6)
    have D6 := hid (D5.out.kept hb6)
    clear hb6 HB5 B5 C5 D5
    go_wp2_with fail
    refine (sames w6 w6 (Below.refl _ _) _ _ _ _ _ _ (by omega) B6.out D6.out).mono ?_
    rintro e w7 ⟨rfl, hb7⟩
    have HB7 := hid (bt HB6.out hb7)
    clear hb7 HB6 B6 D6
    go_wp2_with fail
    refine (awake_ok _).mono ?_
    rintro e w8 ⟨rfl, hb8⟩
    have HB8 := hid (bt HB7.out hb8)
    clear hb8 HB7
    go_wp2_with fail
    go_ret
    exact ⟨rfl, HB8.out⟩
  · have hb : ((i : Int) == (k : Int)) = false := beq_eq_false_iff_ne.2 (by omega)
    obtain rfl : y = y0 := by rw [HY.out, if_neg hik]
    have HIK := hid hik
    clear hik
    go_enter Try.func8, Try.ntmps8
    go_wp2_with fail
    go_quiet (fail)
    go_wp2_with fail
    have HB0 := hid (below_drewN W.heap.size W nq)
    have HW1 := hid (HW.out.kept HB0.out)
    clear HW
    generalize W.drewN nq = W1 at *
    refine (set_st _ _ _ _ q r ws _ (by omega) HI.out hr hq _ HW1.out).mono ?_
    rintro e w1 ⟨a1, cap1, rfl, D1, hb1⟩
    have HB1 := hid (bt HB0.out hb1)
    have A1 := hid (HW1.out.kept hb1)
    clear hb1 HB0 HW1
    go_wp2_with fail
    refine (set_st _ _ _ _ q' r' _ _ (by omega) HK.out hr' hq' _ D1.out).mono ?_
    rintro e w2 ⟨a2, cap2, rfl, D2, hb2⟩
    have HB2 := hid (bt HB1.out hb2)
    have A2 := hid (A1.out.kept hb2)
    clear hb2 HB1 A1 D1
    go_wp2_with fail
    refine (set_st _ _ _ _ q' r' _ _ (by omega) HK.out hr' hq' _ A2.out).mono ?_
    rintro e w3 ⟨a3, cap3, rfl, D3, hb3⟩
    have HB3 := hid (bt HB2.out hb3)
    have B3 := hid (D2.out.kept hb3)
    clear hb3 HB2 A2 D2
    go_wp2_with fail
    refine (set_st _ _ _ _ q r _ _ (by omega) HI.out hr hq _ D3.out).mono ?_
    rintro e w4 ⟨a4, cap4, rfl, D4, hb4⟩
    have HB4 := hid (bt HB3.out hb4)
    have B4 := hid (B3.out.kept hb4)
    clear hb4 HB3 B3 D3
    go_wp2_with fail
    refine (set_st _ _ _ _ q r _ _ (by omega) HI.out hr hq _ B4.out).mono ?_
    rintro e w5 ⟨a5, cap5, rfl, D5, hb5⟩
    have HB5 := hid (bt HB4.out hb5)
    have B5 := hid (B4.out.kept hb5)
    have C5 := hid (D4.out.kept hb5)
    clear hb5 HB4 B4 D4
    rw [← E1.out] at C5
    rw [E2.out] at D5
    go_wp2_with fail
    refine (sames w5 w5 (Below.refl _ _) _ _ _ _ _ _ (by omega) B5.out C5.out).mono ?_
    rintro e w6 ⟨rfl, hb6⟩
    have HB6 := hid (bt HB5.out hb6)
    have B6 := hid (B5.out.kept hb6)
    have D6 := hid (D5.out.kept hb6)
    clear hb6 HB5 B5 C5 D5
    go_wp2_with fail
    refine (sames w6 w6 (Below.refl _ _) _ _ _ _ _ _ (by omega) B6.out D6.out).mono ?_
    rintro e w7 ⟨rfl, hb7⟩
    have HB7 := hid (bt HB6.out hb7)
    clear hb7 HB6 B6 D6
    go_wp2_with fail
    refine (awake_ok _).mono ?_
    rintro e w8 ⟨rfl, hb8⟩
    have HB8 := hid (bt HB7.out hb8)
    clear hb8 HB7
    go_wp2_with fail
    go_ret
    exact ⟨rfl, HB8.out⟩

theorem walk (a0 : Option Addr) (len0 cap0 : Nat) (z0 : List Int) (a1 a2 : Int) (a3 a4 : Bool) (w : World) (w0 : IsRow .u64 w a0 len0 cap0 z0) (w1 : (Lit.int .u8 a1).wf = true) (w2 : (Lit.int .u8 a2).wf = true) :
    Calls Try.prog 8 #[.slice a0 len0 cap0, .int .u8 a1, .int .u8 a2, .bool a3, .bool a4] w fun e w' => e = .returned (.bool true) ∧ Below w.heap.size w w' := by
  obtain ⟨n, rfl, hn⟩ : ∃ a : Nat, a1 = a ∧ a < 256 := by simp [Lit.wf, IntKind.min, IntKind.max, IntKind.signed, IntKind.bits] at w1; exact ⟨a1.toNat, by omega, by omega⟩
  obtain ⟨m, rfl, hm⟩ : ∃ a : Nat, a2 = a ∧ a < 256 := by simp [Lit.wf, IntKind.min, IntKind.max, IntKind.signed, IntKind.bits] at w2; exact ⟨a2.toNat, by omega, by omega⟩
  by_cases h1 : (len0 : Int) < 1
  · go_enter Try.func8, Try.ntmps8
    go_wp2_with fail
    refine (awake_ok _).mono ?_
    rintro e w1 ⟨rfl, hb1⟩
    go_wp2_with fail
    go_ret
    exact ⟨rfl, hb1⟩
  by_cases h4 : 4 < (len0 : Int)
  · go_enter Try.func8, Try.ntmps8
    go_wp2_with fail
    refine (awake_ok _).mono ?_
    rintro e w1 ⟨rfl, hb1⟩
    go_wp2_with fail
    go_ret
    exact ⟨rfl, hb1⟩
  have hp : 0 < 64 * len0 := by omega
  have m1 := Nat.mod_lt n hp
  have m2 := Nat.mod_lt m hp
  exact core a0 len0 cap0 (n % (64 * len0)) (m % (64 * len0)) (n % (64 * len0) / 64) (n % (64 * len0) % 64) (m % (64 * len0) / 64) (m % (64 * len0) % 64) n m _ a3 a4 _ w (by omega) (by omega) hn hm rfl rfl (by omega) (by omega) (by omega) (by omega) (by omega) (by omega) rfl (wd_of w0)

set_option maxRecDepth 100000 in
theorem lifted (os : Os) (started : os.Started) (H : Type) (enc : TypeId × Value → H) :
    ReturnsInHanded {} Try.checked os 8 .any (Rows.packSetsSpec.pre6 enc Try.prog Try.f8 Rows.packSetsRow.domain false) (Rows.packSetsSpec.post enc Try.prog Try.f8 false true false false) := by
  refine returnsInHanded_of_change (C := Try.checked) own started (by kernel_rfl) Try.func8
    (ChangeSpec.witness6 (enc := enc) (C := Try.checked) false ⟨#[], #[.slice none 0 0, .int .u8 0, .int .u8 0, .bool false, .bool false], []⟩ 8 (by kernel_rfl) (by kernel_rfl) (by kernel_rfl) (by kernel_rfl)) ?_
  intro W base args ds gs before hval0 hW hcnd _
  have hval : ∀ (j : Nat) t v, Try.f8.params[j]? = some t → args[j]? = some v → Value.okWide Try.prog W .any base t v := hval0
  have hW' := hW
  obtain ⟨p, q, hA0, hV, rfl, hfz, hnd⟩ := hW
  have hA : DataW.TrodAll enc Try.prog W 0 (fun _ => true) true Try.f8.params.toList args.toList ds p := hA0
  rw [Try.params8] at hA hval
  obtain ⟨v0, vs0, d0, ds0, p0, q0, hargs, rfl, rfl, h0, r0⟩ := trodAll_cons hA
  obtain ⟨v1, vs1, d1, ds1, p1, q1, rfl, rfl, rfl, h1, r1⟩ := trodAll_cons r0
  obtain ⟨v2, vs2, d2, ds2, p2, q2, rfl, rfl, rfl, h2, r2⟩ := trodAll_cons r1
  obtain ⟨v3, vs3, d3, ds3, p3, q3, rfl, rfl, rfl, h3, r3⟩ := trodAll_cons r2
  obtain ⟨v4, vs4, d4, ds4, p4, q4, rfl, rfl, rfl, h4, r4⟩ := trodAll_cons r3
  obtain ⟨rfl, rfl, rfl⟩ := trodAll_nil r4
  obtain rfl : args = #[v0, v1, v2, v3, v4] := by cases args; simp_all
  obtain ⟨rfl, rfl⟩ := trodVars_none hV
  obtain ⟨a0, len0, cap0, rfl⟩ := okWide_slice Try.underlying23 (hval 0 23 v0 rfl rfl)
  have k0 := h0
  have lt0 : ∀ x ∈ p0, x.block < W.heap.size := by obtain ⟨m, hm⟩ := k0; exact DataW.trod_lt m _ _ _ hm
  obtain ⟨z0, w0⟩ : ∃ zs, IsRow .u64 W a0 len0 cap0 zs := by
    obtain ⟨fuel, hf⟩ := h0
    rcases open_ints Try.underlying23 Try.underlying32 (by kernel_rfl) hf with ⟨hcs, _⟩ | ⟨x, l, c, zs, hcs, _, hl, hm, hz, _, hcell, hwz⟩
    · simp [Value.cells] at hcs
      obtain ⟨rfl, rfl, rfl⟩ := hcs
      exact ⟨[], .inl ⟨rfl, rfl, rfl, rfl⟩⟩
    · simp [Value.cells] at hcs
      obtain ⟨rfl, rfl, rfl⟩ := hcs
      exact ⟨zs, .inr ⟨_, rfl, hl, hm, by simpa using hz, hcell, hwz⟩⟩
  obtain ⟨a1, rfl, rfl, rfl, w1⟩ := open_int Try.underlying5 (hval 1 5 v1 rfl rfl) h1
  obtain ⟨a2, rfl, rfl, rfl, w2⟩ := open_int Try.underlying5 (hval 2 5 v2 rfl rfl) h2
  obtain ⟨a3, rfl, rfl, rfl⟩ := open_bool Try.underlying4 (hval 3 4 v3 rfl rfl) h3
  obtain ⟨a4, rfl, rfl, rfl⟩ := open_bool Try.underlying4 (hval 4 4 v4 rfl rfl) h4
  clear hA0 hval0
  refine (walk a0 len0 cap0 z0 a1 a2 a3 a4 W w0 w1 w2).mono fun e W' ⟨he, bel⟩ => ?_
  subst he
  exact ⟨_, rfl, _, _, _, [], _, [], hW', trodAll_mk1 (shut_bool Try.underlying4 _), (trodAll_cons_mk (Below.trod laidOut (by kernel_rfl) (of_decide_eq_true (by kernel_rfl)) k0 bel lt0) (trodAll_cons_mk (shut_int Try.underlying5 w1) (trodAll_cons_mk (shut_int Try.underlying5 w2) (trodAll_cons_mk (shut_bool Try.underlying4 _) (trodAll_cons_mk (shut_bool Try.underlying4 _) trodAll_mk0))))), rfl, bel.frame _, fun h => by cases h⟩

theorem over : Rows.packSetsRow.holds Try.pinned (OpenSpec.ofChange Rows.packSetsSpec) :=
  OpenClaim.holds_of_wide 8 Try.f8 rfl rfl rfl rfl rfl rfl rfl ⟨rfl, rfl, rfl, rfl, rfl⟩ rfl rfl rfl rfl rfl (by kernel_rfl) Try.func8 (by kernel_rfl)
    (of_decide_eq_true (by kernel_rfl)) (by unfold Func.isWrapper; first | (rw [if_pos (by decide +kernel)]; kernel_rfl) | (rw [if_neg (by decide +kernel)]; exact ⟨rfl, rfl⟩))
    (fun os started H enc _ => lifted os started H enc)

theorem proved : Rows.PackSetsSaid := over
#print axioms proved
end Go.Proofs.Ytflmfjfeeajkfaa.packSets
