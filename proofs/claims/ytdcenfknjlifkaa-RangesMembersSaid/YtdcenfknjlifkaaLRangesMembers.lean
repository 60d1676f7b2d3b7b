/- For all lists a and b of ranges and all n: RangesMembers returns true and leaves its arguments as they were. No condition. -/
import Derived.Test.YtdcenfknjlifkaaRows
import Derived.WalkKit
import Derived.ProofKit
import Derived.OpenShut
import Derived.ShutString
import Derived.ChangeOld
import Derived.Below
import Derived.Carry
import Derived.Test.YtdcenfknjlifkaaZ
namespace Go.Proofs.Ytdcenfknjlifkaa.rangesMembers
open Go.ChangeShapes Go.WideShapes Go.ChangeAt Go.RowKit
open Go.ChangeMaps (open_string shut_string)
set_option linter.unusedVariables false

theorem own : ownKnob Try.prog.godebug = none := by kernel_rfl
theorem laidOut : laidOutB Try.prog = true := by kernel_rfl

set_option linter.unusedSimpArgs false

set_option maxRecDepth 100000 in
set_option maxHeartbeats 2000000 in
theorem walk {H : Type} {enc : TypeId × Value → H} {base : Nat} {d0 d1 : DataW H} {p0 p1 : List MemPlace} (v0 v1 : Value) (a2 : Int) (w : World) (ok0 : Value.okWide Try.prog w .any base 22 v0) (k0 : DataW.Trod enc Try.prog w 0 (fun _ => true) true 22 v0 d0 p0) (ok1 : Value.okWide Try.prog w .any base 22 v1) (k1 : DataW.Trod enc Try.prog w 0 (fun _ => true) true 22 v1 d1 p1) (w2 : (Lit.int .i64 a2).wf = true) :
    Calls Try.prog 5 #[v0, v1, .int .i64 a2] w fun e w' => e = .returned (.bool true) ∧ Below w.heap.size w w' := by
  obtain ⟨a, len, cap, rs, rfl, hl, hR⟩ := open_ranges ok0 k0
  obtain ⟨b, len2, cap2, rs2, rfl, hl2, hR2⟩ := open_ranges ok1 k1
  have HR := hid hR; have HR2 := hid hR2
  clear hR hR2 ok0 k0 ok1 k1 w2
  have h127 := hid (show bits .and .i64 a2 127 = a2 % 128 from and_mask 7 (by omega) a2)
  obtain ⟨m, hm⟩ : ∃ m, m = a2 % 128 := ⟨_, rfl⟩
  rw [← hm] at h127
  have hm0 : I64 m := by unfold I64; omega
  have HM := hid hm0
  clear hm hm0
  have hv1 := hid (tm_ok rs); have hv2 := hid (tm_ok rs2)
  have hl1 := tm_length rs; have hl2' := tm_length rs2
  go_enter Try.func5, Try.ntmps5
  go_wp2_with fail
  refine (tame_any a len cap rs hl w HR.out).mono ?_
  rintro e w1 ⟨a', ca, rfl, H1⟩
  have HA := hid H1.out.1
  have HB1 := hid H1.out.2
  have HR2' := hid (HR2.out.kept HB1.out)
  clear H1 HR HR2
  go_wp2_with fail
  refine (tame_any b len2 cap2 rs2 hl2 w1 HR2'.out).mono ?_
  rintro e w2 ⟨b', cb, rfl, H2⟩
  have HB := hid H2.out.1
  have HA2 := hid (HA.out.kept H2.out.2)
  have HB2 := hid (bt HB1.out H2.out.2)
  clear H2 HA HB1 HR2'
  generalize tm rs = A at *
  generalize tm rs2 = B at *
  have h128 := h127.out
  go_wp2_with fail
  refine (union_any a' b' A.length ca B.length cb A B (by omega) (by omega) hv1.out hv2.out w2 HA2.out HB.out).mono ?_
  rintro e w3 ⟨x, nx', cx, rfl, X, rfl, hX, ⟨hXl, hXm⟩, H3⟩
  have HX := hid H3.out.1
  have HA3 := hid (HA2.out.kept H3.out.2); have HB3 := hid (HB.out.kept H3.out.2)
  have HW3 := hid (bt HB2.out H3.out.2)
  clear H3 HA2 HB HB2
  go_wp2_with fail
  refine (minus_any a' b' A.length ca B.length cb A B (by omega) (by omega) hv1.out hv2.out w3 HA3.out HB3.out).mono ?_
  rintro e w4 ⟨y, ny, cy, rfl, Y, rfl, hY, ⟨hYl, hYm⟩, H4⟩
  have HY := hid H4.out.1
  have HX4 := hid (HX.out.kept H4.out.2)
  have HA4 := hid (HA3.out.kept H4.out.2); have HB4 := hid (HB3.out.kept H4.out.2)
  have HW4 := hid (bt HW3.out H4.out.2)
  clear H4 HA3 HB3 HX HW3
  go_wp2_with fail
  refine (meet_any a' b' A.length ca B.length cb A B (by omega) (by omega) hv1.out hv2.out w4 HA4.out HB4.out).mono ?_
  rintro e w5 ⟨z, nz, cz, rfl, Z, rfl, hZ, ⟨hZl, hZm⟩, H5⟩
  have HZ := hid H5.out.1
  have HX5 := hid (HX4.out.kept H5.out.2); have HY5 := hid (HY.out.kept H5.out.2)
  have HA5 := hid (HA4.out.kept H5.out.2); have HB5 := hid (HB4.out.kept H5.out.2)
  have HW5 := hid (bt HW4.out H5.out.2)
  clear H5 HA4 HB4 HX4 HY HW4
  go_wp2_with fail
  refine (has_any a' A.length ca A m HM.out (by omega) hv1.out w5 HA5.out).mono ?_
  rintro e w6 ⟨rfl, hb⟩
  have HB6 := hid (HB5.out.kept hb)
  have HX6 := hid (HX5.out.kept hb); have HY6 := hid (HY5.out.kept hb); have HZ6 := hid (HZ.out.kept hb)
  have HW6 := hid (bt HW5.out hb)
  clear hb HA5 HB5 HX5 HY5 HZ HW5
  go_wp2_with fail
  refine (has_any b' B.length cb B m HM.out (by omega) hv2.out w6 HB6.out).mono ?_
  rintro e w7 ⟨rfl, hb⟩
  have HX7 := hid (HX6.out.kept hb); have HY7 := hid (HY6.out.kept hb); have HZ7 := hid (HZ6.out.kept hb)
  have HW7 := hid (bt HW6.out hb)
  clear hb HB6 HX6 HY6 HZ6 HW6
  have FX := hid (fun w h => has_any x X.length cx X m HM.out (by omega) (nf_vld hX) w h)
  have FY := hid (fun w h => has_any y Y.length cy Y m HM.out (by omega) (nf_vld hY) w h)
  have FZ := hid (fun w h => has_any z Z.length cz Z m HM.out (by omega) (nf_vld hZ) w h)
  have eX : decide (Mem X m) = (decide (Mem A m) || decide (Mem B m)) := by have := hXm m; by_cases p : Mem A m <;> by_cases q : Mem B m <;> simp [this, p, q]
  have eY : decide (Mem Y m) = (decide (Mem A m) && !decide (Mem B m)) := by have := hYm m; by_cases p : Mem A m <;> by_cases q : Mem B m <;> simp [this, p, q]
  have eZ : decide (Mem Z m) = (decide (Mem A m) && decide (Mem B m)) := by have := hZm m; by_cases p : Mem A m <;> by_cases q : Mem B m <;> simp [this, p, q]
  rw [eX] at FX
  rw [eY] at FY
  rw [eZ] at FZ
  clear eX eY eZ hX hY hZ hXm hYm hZm hXl hYl hZl
  generalize decide (Mem A m) = bp at *
  generalize decide (Mem B m) = bq at *
  cases bp <;> cases bq <;>
   (go_wp2_with fail
    refine (FX.out _ HX7.out).mono ?_
    rintro e w8 ⟨rfl, hb⟩
    have HY8 := hid (HY7.out.kept hb); have HZ8 := hid (HZ7.out.kept hb)
    have HW8 := hid (bt HW7.out hb)
    clear hb
    go_wp2_with fail
    refine (FY.out _ HY8.out).mono ?_
    rintro e w9 ⟨rfl, hb⟩
    have HZ9 := hid (HZ8.out.kept hb)
    have HW9 := hid (bt HW8.out hb)
    clear hb
    go_wp2_with fail
    refine (FZ.out _ HZ9.out).mono ?_
    rintro e w10 ⟨rfl, hb⟩
    have HW10 := hid (bt HW9.out hb)
    clear hb
    go_wp2_with fail
    refine (awake_ok _).mono ?_
    rintro e w11 ⟨rfl, hb⟩
    have HW11 := hid (bt HW10.out hb)
    clear hb
    go_wp2_with fail
    go_ret
    exact ⟨rfl, HW11.out⟩)

set_option maxRecDepth 100000 in
theorem lifted (os : Os) (started : os.Started) (H : Type) (enc : TypeId × Value → H) :
    ReturnsInHanded {} Try.checked os 5 .any (Rows.rangesMembersSpec.pre6 enc Try.prog Try.f5 Rows.rangesMembersRow.domain false) (Rows.rangesMembersSpec.post enc Try.prog Try.f5 false true false false) := by
  refine returnsInHanded_of_change (C := Try.checked) own started (by kernel_rfl) Try.func5
    (ChangeSpec.witness6 (enc := enc) (C := Try.checked) false ⟨#[], #[.slice none 0 0, .slice none 0 0, .int .i64 0], []⟩ 8 (by kernel_rfl) (by kernel_rfl) (by kernel_rfl) (by kernel_rfl)) ?_
  intro W base args ds gs before hval0 hW hcnd _
  have hval : ∀ (j : Nat) t v, Try.f5.params[j]? = some t → args[j]? = some v → Value.okWide Try.prog W .any base t v := hval0
  have hW' := hW
  obtain ⟨p, q, hA0, hV, rfl, hfz, hnd⟩ := hW
  have hA : DataW.TrodAll enc Try.prog W 0 (fun _ => true) true Try.f5.params.toList args.toList ds p := hA0
  rw [Try.params5] at hA hval
  obtain ⟨v0, vs0, d0, ds0, p0, q0, hargs, rfl, rfl, h0, r0⟩ := trodAll_cons hA
  obtain ⟨v1, vs1, d1, ds1, p1, q1, rfl, rfl, rfl, h1, r1⟩ := trodAll_cons r0
  obtain ⟨v2, vs2, d2, ds2, p2, q2, rfl, rfl, rfl, h2, r2⟩ := trodAll_cons r1
  obtain ⟨rfl, rfl, rfl⟩ := trodAll_nil r2
  obtain rfl : args = #[v0, v1, v2] := by cases args; simp_all
  obtain ⟨rfl, rfl⟩ := trodVars_none hV
  have k0 := h0
  have lt0 : ∀ x ∈ p0, x.block < W.heap.size := by obtain ⟨m, hm⟩ := k0; exact DataW.trod_lt m _ _ _ hm
  have ok0 := hval 0 22 v0 rfl rfl
  have k1 := h1
  have lt1 : ∀ x ∈ p1, x.block < W.heap.size := by obtain ⟨m, hm⟩ := k1; exact DataW.trod_lt m _ _ _ hm
  have ok1 := hval 1 22 v1 rfl rfl
  obtain ⟨a2, rfl, rfl, rfl, w2⟩ := open_int Try.underlying3 (hval 2 3 v2 rfl rfl) h2
  clear hA0 hval0
  refine (walk v0 v1 a2 W ok0 k0 ok1 k1 w2).mono fun e W' ⟨he, bel⟩ => ?_
  subst he
  exact ⟨_, rfl, _, _, _, [], _, [], hW', trodAll_mk1 (shut_bool Try.underlying4 _), (trodAll_cons_mk (Below.trod laidOut (by kernel_rfl) (of_decide_eq_true (by kernel_rfl)) k0 bel lt0) (trodAll_cons_mk (Below.trod laidOut (by kernel_rfl) (of_decide_eq_true (by kernel_rfl)) k1 bel lt1) (trodAll_cons_mk (shut_int Try.underlying3 w2) trodAll_mk0))), rfl, bel.frame _, fun h => by cases h⟩

theorem over : Rows.rangesMembersRow.holds Try.pinned (OpenSpec.ofChange Rows.rangesMembersSpec) :=
  OpenClaim.holds_of_wide 5 Try.f5 rfl rfl rfl rfl rfl rfl rfl ⟨rfl, rfl, rfl, rfl, rfl⟩ rfl rfl rfl rfl rfl (by kernel_rfl) Try.func5 (by kernel_rfl)
    (of_decide_eq_true (by kernel_rfl)) (by unfold Func.isWrapper; first | (rw [if_pos (by decide +kernel)]; kernel_rfl) | (rw [if_neg (by decide +kernel)]; exact ⟨rfl, rfl⟩))
    (fun os started H enc _ => lifted os started H enc)

theorem proved : Rows.RangesMembersSaid := over
#print axioms proved
end Go.Proofs.Ytdcenfknjlifkaa.rangesMembers
