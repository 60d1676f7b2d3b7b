/- For all lists a of ranges and all n: RangesTakes returns true and leaves its arguments as they were. No condition. -/
import Derived.Test.YtdcenfknjlifkaaRows
import Derived.WalkKit
import Derived.ProofKit
import Derived.OpenShut
import Derived.ShutString
import Derived.ChangeOld
import Derived.Below
import Derived.Carry
import Derived.Test.YtdcenfknjlifkaaZ
import Derived.Test.YtdcenfknjlifkaaT
import Derived.Test.YtdcenfknjlifkaaPR
namespace Go.Proofs.Ytdcenfknjlifkaa.rangesTakes
open Go.ChangeShapes Go.WideShapes Go.ChangeAt Go.RowKit
open Go.ChangeMaps (open_string shut_string)
set_option linter.unusedVariables false

theorem own : ownKnob Try.prog.godebug = none := by kernel_rfl
theorem laidOut : laidOutB Try.prog = true := by kernel_rfl

set_option linter.unusedSimpArgs false
attribute [local go_sem] Oper.semAt_some putAll

theorem le_at (T : List Rn) (p : Nat) (hp : T.length = p + 1) : le T = (T[p]?.getD (0, 0)).1 + (T[p]?.getD (0, 0)).2 := by
  unfold le
  rw [List.getLast?_eq_getElem?, hp, Nat.add_sub_cancel, List.getElem?_eq_getElem (by omega)]
  rfl

set_option maxRecDepth 100000 in
set_option maxHeartbeats 4000000 in
theorem walk {H : Type} {enc : TypeId × Value → H} {base : Nat} {d0 : DataW H} {p0 : List MemPlace} (v0 : Value) (a1 : Int) (w : World) (ok0 : Value.okWide Try.prog w .any base 22 v0) (k0 : DataW.Trod enc Try.prog w 0 (fun _ => true) true 22 v0 d0 p0) (w1 : (Lit.int .i64 a1).wf = true) :
    Calls Try.prog 7 #[v0, .int .i64 a1] w fun e w' => e = .returned (.bool true) ∧ Below w.heap.size w w' := by
  obtain ⟨a, len, cap, rs, rfl, hl, hR⟩ := open_ranges ok0 k0
  have HR := hid hR
  clear hR ok0 k0 w1
  have h31 := hid (show bits .and .i64 a1 31 = a1 % 32 from and_mask 5 (by omega) a1)
  obtain ⟨n, hn⟩ : ∃ n, n = a1 % 32 := ⟨_, rfl⟩
  rw [← hn] at h31
  have hn0 : 0 ≤ n ∧ n < 32 := by omega
  obtain ⟨hn0, hn1⟩ := hn0
  clear hn
  have hv1 := hid (tm_ok rs)
  have hl1 := tm_length rs
  have hmx : Try.prog.follows .mixedOrders = true := by kernel_rfl
  go_enter Try.func7, Try.ntmps7
  go_wp2_with fail
  refine (tame_any a len cap rs hl w HR.out).mono ?_
  rintro e w1 ⟨a', ca, rfl, H1⟩
  have HA := hid H1.out.1
  have HB1 := hid H1.out.2
  clear H1 HR
  generalize tm rs = A at *
  have h32 := h31.out
  go_wp2_with fail
  refine (take_any a' A.length ca A n hn0 (by omega) (by omega) hv1.out w1 HA.out).mono ?_
  rintro e w2 ⟨x, nx', cx, E, rfl, X, hX, hXl, hXm, T, hE, H2⟩
  have HT := hid H2.out.1
  have HA2 := hid (HA.out.kept H2.out.2)
  have HB2 := hid (bt HB1.out H2.out.2)
  clear H2 HA HB1
  go_wp2_with fail
  refine (count_any a' A.length ca A (by omega) hv1.out w2 HA2.out).mono ?_
  rintro e w3 ⟨c, rfl, X2, hX2, hX2m, rfl, hb⟩
  obtain rfl : X2 = X := nf_unique X2 X hX2 hX fun n => (hX2m n).trans (hXm n).symm
  have HT3 := hid (HT.out.kept hb.out)
  have HA3 := hid (HA2.out.kept hb.out)
  have HB3 := hid (bt HB2.out hb.out)
  clear hb HA2 HB2 HT hX2 hX2m h32
  rcases hE with ⟨rfl, hc, hTl, hTn, hTs, hTl2, hTm⟩ | ⟨rfl, hc, rfl, rfl⟩
  · have hc2 : n ≤ sm X2 := hc
    go_wp2_with fail
    refine (minus_any a' x A.length ca nx' cx A T (by omega) (by omega) hv1.out (nf_vld hTn) w3 HA3.out HT3.out).mono ?_
    rintro e w4 ⟨y, ny, cy, rfl, Y, rfl, hY, ⟨hYl, hYm⟩, H4⟩
    have HY := hid H4.out.1
    have HT4 := hid (HT3.out.kept H4.out.2)
    have HB4 := hid (bt HB3.out H4.out.2)
    clear H4 HA3 HB3 HT3
    go_wp2_with fail
    refine (count_any x nx' cx T (by omega) (nf_vld hTn) w4 HT4.out).mono ?_
    rintro e w5 ⟨c2, rfl, T2, hT2, hT2m, rfl, hb⟩
    obtain rfl : T2 = T := nf_unique T2 T hT2 hTn hT2m
    have HY5 := hid (HY.out.kept hb.out)
    have HT5 := hid (HT4.out.kept hb.out)
    have HB5 := hid (bt HB4.out hb.out)
    have HMem := hid (show ∀ j, Mem Y j → le T2 ≤ j from fun j hj => by
      refine Decidable.byContradiction fun hlt => ?_
      have h1 := (hYm j).1 hj
      exact h1.2 ((hTm j).2 ⟨(hXm j).2 h1.1, by omega⟩))
    have HTn := hid hTn
    have HYn := hid hY
    clear hb HY HT4 HB4 hT2 hT2m hYm hTm hTn hY hX hXm
    rw [hTs]
    have hbn : (n == n) = true := by simp
    subst hTl
    have HB6 := hid (show Below w.heap.size w w5.drew from HB5.out.drew)
    by_cases hx0 : T2.length = 0
    · rw [hx0]
      go_wp2_with fail
      obtain ⟨WP, q0, q1⟩ : ∃ WP : Nat → World → Prop, WP 0 = (fun w' => w' = w5.drew) ∧ WP 1 = (fun w' => Below w5.drew.heap.size w5.drew w') := ⟨fun k => match k with | 0 => (fun w' => w' = w5.drew) | _ => (fun w' => Below w5.drew.heap.size w5.drew w'), rfl, rfl⟩
      refine (wpIn_wide (n := 5)).1 ?_
      refine wpIn_region_planR (ro := none) (aF := ?aFa) [.slice x 0 cx, .int .i64 0, .bool true, .bool true, undef, undef, undef, .bool true, .bool true, undef, undef, undef, undef, undef, undef, undef, undef, undef, undef, undef, undef, undef, undef, undef, undef, undef, undef, undef, undef, .bool true, .bool true, .bool true, .bool true, .bool true] ?hEa [] [31] [[(0, 0)], [(0, 0)], [(0, 0)], [(0, 0)], [(0, 0)], [(0, 0)], [(0, 0)], [(0, 0)], [(0, 0)], [(0, 0)], [(0, 0)], [(0, 0)], [(0, 0)], [(0, 0)], [(0, 0)], [(0, 0)], [(0, 0)], [(0, 0)], [(0, 0)], [(0, 0)], [(0, 0)], [(0, 0)], [(0, 0)], [(0, 0)], [(0, 0)], [(0, 0)], [(0, 0)], [(0, 0)], [(0, 0)], [(0, 0)], [(0, 0)], [(0, 1)], [(1, 1)], [(1, 1)]] WP 100 ?hNa hmx (by kernel_rfl) (by kernel_rfl) ?haFa (by rw [q0]; exact rfl) ?sta ?fina
      case hEa =>
        go_simp
        rfl
      case hNa => kernel_rfl
      case haFa => kernel_rfl
      case sta =>
       refine StepsR.cons rfl (stepR1 ?a0) (StepsR.cons rfl (stepR1 ?a1) (StepsR.cons rfl (stepR1 ?a2) (StepsR.cons rfl (stepR1 ?a3) (StepsR.cons rfl (stepR1 ?a4) (StepsR.cons rfl (stepR1 ?a5) (StepsR.cons rfl (stepR1 ?a6) (StepsR.cons rfl (stepR1 ?a7) (StepsR.cons rfl (stepR1 ?a8) (StepsR.cons rfl (stepR1 ?a9) (StepsR.cons rfl (stepR1 ?a10) (StepsR.cons rfl (stepR1 ?a11) (StepsR.cons rfl (stepR1 ?a12) (StepsR.cons rfl (stepR1 ?a13) (StepsR.cons rfl (stepR1 ?a14) (StepsR.cons rfl (stepR1 ?a15) (StepsR.cons rfl (stepR1 ?a16) (StepsR.cons rfl (stepR1 ?a17) (StepsR.cons rfl (stepR1 ?a18) (StepsR.cons rfl (stepR1 ?a19) (StepsR.cons rfl (stepR1 ?a20) (StepsR.cons rfl (stepR1 ?a21) (StepsR.cons rfl (stepR1 ?a22) (StepsR.cons rfl (stepR1 ?a23) (StepsR.cons rfl (stepR1 ?a24) (StepsR.cons rfl (stepR1 ?a25) (StepsR.cons rfl (stepR1 ?a26) (StepsR.cons rfl (stepR1 ?a27) (StepsR.cons rfl (stepR1 ?a28) (StepsR.cons rfl (stepR1 ?a29) (StepsR.cons rfl (stepR1 ?a30) (StepsR.cons rfl (stepR1 ?a31) (StepsR.cons rfl (stepR1 ?a32) (StepsR.cons rfl (stepR1 ?a33) StepsR.nil)))))))))))))))))))))))))))))))))
       case a0 =>
        rw [q0]
        rintro wx rfl
        refine StepR.want (by kernel_rfl) ?_
        go_simp
       case a1 =>
        rw [q0]
        rintro wx rfl
        refine StepR.want (by kernel_rfl) ?_
        go_simp
       case a2 =>
        rw [q0]
        rintro wx rfl
        refine StepR.want (by kernel_rfl) ?_
        go_simp
       case a3 =>
        rw [q0]
        rintro wx rfl
        refine StepR.want (by kernel_rfl) ?_
        go_simp
       case a4 =>
        rw [q0]
        rintro wx rfl
        exact StepR.skip (by kernel_rfl) (by kernel_rfl) rfl
       case a5 =>
        rw [q0]
        rintro wx rfl
        exact StepR.skip (by kernel_rfl) (by kernel_rfl) rfl
       case a6 =>
        rw [q0]
        rintro wx rfl
        exact StepR.skip (by kernel_rfl) (by kernel_rfl) rfl
       case a7 =>
        rw [q0]
        rintro wx rfl
        refine StepR.want (by kernel_rfl) ?_
        go_simp
       case a8 =>
        rw [q0]
        rintro wx rfl
        refine StepR.want (by kernel_rfl) ?_
        go_simp
       case a9 =>
        rw [q0]
        rintro wx rfl
        exact StepR.skip (by kernel_rfl) (by kernel_rfl) rfl
       case a10 =>
        rw [q0]
        rintro wx rfl
        exact StepR.skip (by kernel_rfl) (by kernel_rfl) rfl
       case a11 =>
        rw [q0]
        rintro wx rfl
        exact StepR.skip (by kernel_rfl) (by kernel_rfl) rfl
       case a12 =>
        rw [q0]
        rintro wx rfl
        exact StepR.skip (by kernel_rfl) (by kernel_rfl) rfl
       case a13 =>
        rw [q0]
        rintro wx rfl
        exact StepR.skip (by kernel_rfl) (by kernel_rfl) rfl
       case a14 =>
        rw [q0]
        rintro wx rfl
        exact StepR.skip (by kernel_rfl) (by kernel_rfl) rfl
       case a15 =>
        rw [q0]
        rintro wx rfl
        exact StepR.skip (by kernel_rfl) (by kernel_rfl) rfl
       case a16 =>
        rw [q0]
        rintro wx rfl
        exact StepR.skip (by kernel_rfl) (by kernel_rfl) rfl
       case a17 =>
        rw [q0]
        rintro wx rfl
        exact StepR.skip (by kernel_rfl) (by kernel_rfl) rfl
       case a18 =>
        rw [q0]
        rintro wx rfl
        exact StepR.skip (by kernel_rfl) (by kernel_rfl) rfl
       case a19 =>
        rw [q0]
        rintro wx rfl
        exact StepR.skip (by kernel_rfl) (by kernel_rfl) rfl
       case a20 =>
        rw [q0]
        rintro wx rfl
        exact StepR.skip (by kernel_rfl) (by kernel_rfl) rfl
       case a21 =>
        rw [q0]
        rintro wx rfl
        exact StepR.skip (by kernel_rfl) (by kernel_rfl) rfl
       case a22 =>
        rw [q0]
        rintro wx rfl
        exact StepR.skip (by kernel_rfl) (by kernel_rfl) rfl
       case a23 =>
        rw [q0]
        rintro wx rfl
        exact StepR.skip (by kernel_rfl) (by kernel_rfl) rfl
       case a24 =>
        rw [q0]
        rintro wx rfl
        exact StepR.skip (by kernel_rfl) (by kernel_rfl) rfl
       case a25 =>
        rw [q0]
        rintro wx rfl
        exact StepR.skip (by kernel_rfl) (by kernel_rfl) rfl
       case a26 =>
        rw [q0]
        rintro wx rfl
        exact StepR.skip (by kernel_rfl) (by kernel_rfl) rfl
       case a27 =>
        rw [q0]
        rintro wx rfl
        exact StepR.skip (by kernel_rfl) (by kernel_rfl) rfl
       case a28 =>
        rw [q0]
        rintro wx rfl
        exact StepR.skip (by kernel_rfl) (by kernel_rfl) rfl
       case a29 =>
        rw [q0]
        rintro wx rfl
        refine StepR.want (by kernel_rfl) ?_
        go_simp
       case a30 =>
        rw [q0]
        rintro wx rfl
        refine StepR.want (by kernel_rfl) ?_
        go_simp
       case a31 =>
        rw [q0, q1]
        rintro wx rfl
        refine StepR.want (by kernel_rfl) ?_
        go_simp
        refine (awake_ok _).mono ?_
        rintro e w7 ⟨rfl, hb⟩
        exact ⟨rfl, hb⟩
       case a32 =>
        rw [q1]
        intro wx hx
        refine StepR.want (by kernel_rfl) ?_
        have hx2 := hx
        go_simp
        try exact hx2
       case a33 =>
        rw [q1]
        intro wx hx
        refine StepR.want (by kernel_rfl) ?_
        have hx2 := hx
        go_simp
        try exact hx2
      case fina =>
        intro w7 hb
        have hb : Below w5.drew.heap.size w5.drew w7 := by have h9 : WP 1 w7 := hb; rwa [q1] at h9
        have HB7 := hid (bt HB6.out hb)
        clear hb q0 q1
        go_wp2_with fail
        go_ret
        exact ⟨rfl, HB7.out⟩
    · by_cases hy0 : Y.length = 0
      · rw [hy0]
        have hxb : ((T2.length : Int) == 0) = false := beq_eq_false_iff_ne.2 (by omega)
        have hxne : ¬ (T2.length : Int) = 0 := by omega
        generalize T2.length = nn at *
        go_wp2_with fail
        obtain ⟨WP, q0, q1⟩ : ∃ WP : Nat → World → Prop, WP 0 = (fun w' => w' = w5.drew) ∧ WP 1 = (fun w' => Below w5.drew.heap.size w5.drew w') := ⟨fun k => match k with | 0 => (fun w' => w' = w5.drew) | _ => (fun w' => Below w5.drew.heap.size w5.drew w'), rfl, rfl⟩
        refine (wpIn_wide (n := 5)).1 ?_
        refine wpIn_region_planR (ro := none) (aF := ?aFb) [.slice x nn cx, .int .i64 nn, .bool false, .bool false, .slice y 0 cy, .int .i64 0, .bool true, .bool true, .bool true, undef, undef, undef, undef, undef, undef, undef, undef, undef, undef, undef, undef, undef, undef, undef, undef, undef, undef, undef, undef, .bool true, .bool true, .bool true, .bool true, .bool true] ?hEb [] [31] [[(0, 0)], [(0, 0)], [(0, 0)], [(0, 0)], [(0, 0)], [(0, 0)], [(0, 0)], [(0, 0)], [(0, 0)], [(0, 0)], [(0, 0)], [(0, 0)], [(0, 0)], [(0, 0)], [(0, 0)], [(0, 0)], [(0, 0)], [(0, 0)], [(0, 0)], [(0, 0)], [(0, 0)], [(0, 0)], [(0, 0)], [(0, 0)], [(0, 0)], [(0, 0)], [(0, 0)], [(0, 0)], [(0, 0)], [(0, 0)], [(0, 0)], [(0, 1)], [(1, 1)], [(1, 1)]] WP 100 ?hNb hmx (by kernel_rfl) (by kernel_rfl) ?haFb (by rw [q0]; exact rfl) ?stb ?finb
        case hEb =>
          go_simp
          rfl
        case hNb => kernel_rfl
        case haFb => kernel_rfl
        case stb =>
         refine StepsR.cons rfl (stepR1 ?b0) (StepsR.cons rfl (stepR1 ?b1) (StepsR.cons rfl (stepR1 ?b2) (StepsR.cons rfl (stepR1 ?b3) (StepsR.cons rfl (stepR1 ?b4) (StepsR.cons rfl (stepR1 ?b5) (StepsR.cons rfl (stepR1 ?b6) (StepsR.cons rfl (stepR1 ?b7) (StepsR.cons rfl (stepR1 ?b8) (StepsR.cons rfl (stepR1 ?b9) (StepsR.cons rfl (stepR1 ?b10) (StepsR.cons rfl (stepR1 ?b11) (StepsR.cons rfl (stepR1 ?b12) (StepsR.cons rfl (stepR1 ?b13) (StepsR.cons rfl (stepR1 ?b14) (StepsR.cons rfl (stepR1 ?b15) (StepsR.cons rfl (stepR1 ?b16) (StepsR.cons rfl (stepR1 ?b17) (StepsR.cons rfl (stepR1 ?b18) (StepsR.cons rfl (stepR1 ?b19) (StepsR.cons rfl (stepR1 ?b20) (StepsR.cons rfl (stepR1 ?b21) (StepsR.cons rfl (stepR1 ?b22) (StepsR.cons rfl (stepR1 ?b23) (StepsR.cons rfl (stepR1 ?b24) (StepsR.cons rfl (stepR1 ?b25) (StepsR.cons rfl (stepR1 ?b26) (StepsR.cons rfl (stepR1 ?b27) (StepsR.cons rfl (stepR1 ?b28) (StepsR.cons rfl (stepR1 ?b29) (StepsR.cons rfl (stepR1 ?b30) (StepsR.cons rfl (stepR1 ?b31) (StepsR.cons rfl (stepR1 ?b32) (StepsR.cons rfl (stepR1 ?b33) StepsR.nil)))))))))))))))))))))))))))))))))
         case b0 =>
          rw [q0]
          rintro wx rfl
          refine StepR.want (by kernel_rfl) ?_
          go_simp
         case b1 =>
          rw [q0]
          rintro wx rfl
          refine StepR.want (by kernel_rfl) ?_
          go_simp
         case b2 =>
          rw [q0]
          rintro wx rfl
          refine StepR.want (by kernel_rfl) ?_
          have c := hxb
          go_simp
         case b3 =>
          rw [q0]
          rintro wx rfl
          refine StepR.want (by kernel_rfl) ?_
          go_simp
         case b4 =>
          rw [q0]
          rintro wx rfl
          refine StepR.want (by kernel_rfl) ?_
          go_simp
         case b5 =>
          rw [q0]
          rintro wx rfl
          refine StepR.want (by kernel_rfl) ?_
          go_simp
         case b6 =>
          rw [q0]
          rintro wx rfl
          refine StepR.want (by kernel_rfl) ?_
          go_simp
         case b7 =>
          rw [q0]
          rintro wx rfl
          refine StepR.want (by kernel_rfl) ?_
          go_simp
         case b8 =>
          rw [q0]
          rintro wx rfl
          refine StepR.want (by kernel_rfl) ?_
          go_simp
         case b9 =>
          rw [q0]
          rintro wx rfl
          exact StepR.skip (by kernel_rfl) (by kernel_rfl) rfl
         case b10 =>
          rw [q0]
          rintro wx rfl
          exact StepR.skip (by kernel_rfl) (by kernel_rfl) rfl
         case b11 =>
          rw [q0]
          rintro wx rfl
          exact StepR.skip (by kernel_rfl) (by kernel_rfl) rfl
         case b12 =>
          rw [q0]
          rintro wx rfl
          exact StepR.skip (by kernel_rfl) (by kernel_rfl) rfl
         case b13 =>
          rw [q0]
          rintro wx rfl
          exact StepR.skip (by kernel_rfl) (by kernel_rfl) rfl
         case b14 =>
          rw [q0]
          rintro wx rfl
          exact StepR.skip (by kernel_rfl) (by kernel_rfl) rfl
         case b15 =>
          rw [q0]
          rintro wx rfl
          exact StepR.skip (by kernel_rfl) (by kernel_rfl) rfl
         case b16 =>
          rw [q0]
          rintro wx rfl
          exact StepR.skip (by kernel_rfl) (by kernel_rfl) rfl
         case b17 =>
          rw [q0]
          rintro wx rfl
          exact StepR.skip (by kernel_rfl) (by kernel_rfl) rfl
         case b18 =>
          rw [q0]
          rintro wx rfl
          exact StepR.skip (by kernel_rfl) (by kernel_rfl) rfl
         case b19 =>
          rw [q0]
          rintro wx rfl
          exact StepR.skip (by kernel_rfl) (by kernel_rfl) rfl
         case b20 =>
          rw [q0]
          rintro wx rfl
          exact StepR.skip (by kernel_rfl) (by kernel_rfl) rfl
         case b21 =>
          rw [q0]
          rintro wx rfl
          exact StepR.skip (by kernel_rfl) (by kernel_rfl) rfl
         case b22 =>
          rw [q0]
          rintro wx rfl
          exact StepR.skip (by kernel_rfl) (by kernel_rfl) rfl
         case b23 =>
          rw [q0]
          rintro wx rfl
          exact StepR.skip (by kernel_rfl) (by kernel_rfl) rfl
         case b24 =>
          rw [q0]
          rintro wx rfl
          exact StepR.skip (by kernel_rfl) (by kernel_rfl) rfl
         case b25 =>
          rw [q0]
          rintro wx rfl
          exact StepR.skip (by kernel_rfl) (by kernel_rfl) rfl
         case b26 =>
          rw [q0]
          rintro wx rfl
          exact StepR.skip (by kernel_rfl) (by kernel_rfl) rfl
         case b27 =>
          rw [q0]
          rintro wx rfl
          exact StepR.skip (by kernel_rfl) (by kernel_rfl) rfl
         case b28 =>
          rw [q0]
          rintro wx rfl
          exact StepR.skip (by kernel_rfl) (by kernel_rfl) rfl
         case b29 =>
          rw [q0]
          rintro wx rfl
          refine StepR.want (by kernel_rfl) ?_
          go_simp
         case b30 =>
          rw [q0]
          rintro wx rfl
          refine StepR.want (by kernel_rfl) ?_
          go_simp
         case b31 =>
          rw [q0, q1]
          rintro wx rfl
          refine StepR.want (by kernel_rfl) ?_
          go_simp
          refine (awake_ok _).mono ?_
          rintro e w7 ⟨rfl, hb⟩
          exact ⟨rfl, hb⟩
         case b32 =>
          rw [q1]
          intro wx hx
          refine StepR.want (by kernel_rfl) ?_
          have hx2 := hx
          go_simp
          try exact hx2
         case b33 =>
          rw [q1]
          intro wx hx
          refine StepR.want (by kernel_rfl) ?_
          have hx2 := hx
          go_simp
          try exact hx2
        case finb =>
          intro w7 hb
          have hb : Below w5.drew.heap.size w5.drew w7 := by have h9 : WP 1 w7 := hb; rwa [q1] at h9
          have HB7 := hid (bt HB6.out hb)
          clear hb q0 q1
          go_wp2_with fail
          go_ret
          exact ⟨rfl, HB7.out⟩
      · obtain ⟨p, hp⟩ : ∃ p, T2.length = p + 1 := ⟨T2.length - 1, by omega⟩
        obtain ⟨g, off, rfl, hgl, hall⟩ := HT5.out.2.2.resolve_left (by omega)
        obtain ⟨g2, off2, rfl, hgl2, hall2⟩ := HY5.out.2.2.resolve_left (by omega)
        obtain ⟨c0, c1⟩ := hall p (by omega)
        obtain ⟨d0, _⟩ := hall2 0 (by omega)
        have hTi := HTn.out.1 _ (at_mem T2 p (by omega))
        have hYi := HYn.out.1 _ (at_mem Y 0 (by omega))
        have hle := HMem.out (Y[0]?.getD (0, 0)).1 ⟨_, at_mem Y 0 (by omega), Int.le_refl _, by omega⟩
        rw [le_at T2 p hp] at hle
        obtain ⟨⟨s, l⟩, hr⟩ : ∃ r : Rn, r = T2[p]?.getD (0, 0) := ⟨_, rfl⟩
        obtain ⟨⟨s2, l2⟩, hr2⟩ : ∃ r : Rn, r = Y[0]?.getD (0, 0) := ⟨_, rfl⟩
        rw [← hr] at c0 c1 hTi hle
        rw [← hr2] at d0 hYi hle
        simp only [Nat.zero_mul, Nat.add_zero] at c0 c1 d0 hTi hYi hle
        clear hr hr2 hall hall2
        have C0 := hid (show w5.drew.cell? ⟨g, off + p * 2, none⟩ = some (.int .i64 s) from c0)
        have C1 := hid (show w5.drew.cell? ⟨g, off + p * 2 + 1, none⟩ = some (.int .i64 l) from c1)
        have D0 := hid (show w5.drew.cell? ⟨g2, off2, none⟩ = some (.int .i64 s2) from d0)
        have hxb : ((T2.length : Int) == 0) = false := beq_eq_false_iff_ne.2 (by omega)
        have hxne : ¬ (T2.length : Int) = 0 := by omega
        have hyb : ((Y.length : Int) == 0) = false := beq_eq_false_iff_ne.2 (by omega)
        have hyne : ¬ (Y.length : Int) = 0 := by omega
        have hypos : (0 : Int) < (Y.length : Int) := by omega
        have K1 := hid (show IntKind.i64.wrap ((T2.length : Int) - 1) = (p : Int) ∧ (T2.length : Int) - 1 = (p : Int) ∧ IntKind.i64.wrap (p : Int) = (p : Int) from ⟨by rw [show (T2.length : Int) - 1 = (p : Int) by omega]; exact IntWalk.i64_in _ (by omega), by omega, IntWalk.i64_in _ (by omega)⟩)
        have hpl : (p : Int) < (T2.length : Int) := by omega
        have KP := hid hpl
        have KS := hid (show IntKind.i64.wrap (s + l) = s + l from IntWalk.i64_in _ (by omega))
        have KL := hid hle
        have KY := hid hypos
        clear hp c0 c1 d0 hle hTi hYi hpl hypos HT5 HY5 HMem HTn HYn hx0 hy0 hTl2 hYl hTs hc hc2 hXl hv1 h31
        generalize T2.length = nn at *
        generalize Y.length = ny at *
        go_wp2_with fail
        obtain ⟨WP, q0, q1⟩ : ∃ WP : Nat → World → Prop, WP 0 = (fun w' => w' = w5.drew) ∧ WP 1 = (fun w' => Below w5.drew.heap.size w5.drew w') := ⟨fun k => match k with | 0 => (fun w' => w' = w5.drew) | _ => (fun w' => Below w5.drew.heap.size w5.drew w'), rfl, rfl⟩
        refine (wpIn_wide (n := 5)).1 ?_
        refine wpIn_region_planR (ro := none) (aF := ?aFc) [.slice (some ⟨g, off, none⟩) nn cx, .int .i64 nn, .bool false, .bool false, .slice (some ⟨g2, off2, none⟩) ny cy, .int .i64 ny, .bool false, .bool false, .bool false, .slice (some ⟨g, off, none⟩) nn cx, .slice (some ⟨g, off, none⟩) nn cx, .int .i64 nn, .int .i64 p, .pointer (some ⟨g, off + p * 2, none⟩), .pointer (some ⟨g, off + p * 2, none⟩), .int .i64 s, .slice (some ⟨g, off, none⟩) nn cx, .slice (some ⟨g, off, none⟩) nn cx, .int .i64 nn, .int .i64 p, .pointer (some ⟨g, off + p * 2, none⟩), .pointer (some ⟨g, off + p * 2 + 1, none⟩), .int .i64 l, .int .i64 (s + l), .slice (some ⟨g2, off2, none⟩) ny cy, .pointer (some ⟨g2, off2, none⟩), .pointer (some ⟨g2, off2, none⟩), .int .i64 s2, .bool true, .bool true, .bool true, .bool true, .bool true, .bool true] ?hEc [] [31] [[(0, 0)], [(0, 0)], [(0, 0)], [(0, 0)], [(0, 0)], [(0, 0)], [(0, 0)], [(0, 0)], [(0, 0)], [(0, 0)], [(0, 0)], [(0, 0)], [(0, 0)], [(0, 0)], [(0, 0)], [(0, 0)], [(0, 0)], [(0, 0)], [(0, 0)], [(0, 0)], [(0, 0)], [(0, 0)], [(0, 0)], [(0, 0)], [(0, 0)], [(0, 0)], [(0, 0)], [(0, 0)], [(0, 0)], [(0, 0)], [(0, 0)], [(0, 1)], [(1, 1)], [(1, 1)]] WP 100 ?hNc hmx (by kernel_rfl) (by kernel_rfl) ?haFc (by rw [q0]; exact rfl) ?stc ?finc
        case hEc =>
          go_simp
          rfl
        case hNc => kernel_rfl
        case haFc => kernel_rfl
        case stc =>
         refine StepsR.cons rfl (stepR1 ?c0) (StepsR.cons rfl (stepR1 ?c1) (StepsR.cons rfl (stepR1 ?c2) (StepsR.cons rfl (stepR1 ?c3) (StepsR.cons rfl (stepR1 ?c4) (StepsR.cons rfl (stepR1 ?c5) (StepsR.cons rfl (stepR1 ?c6) (StepsR.cons rfl (stepR1 ?c7) (StepsR.cons rfl (stepR1 ?c8) (StepsR.cons rfl (stepR1 ?c9) (StepsR.cons rfl (stepR1 ?c10) (StepsR.cons rfl (stepR1 ?c11) (StepsR.cons rfl (stepR1 ?c12) (StepsR.cons rfl (stepR1 ?c13) (StepsR.cons rfl (stepR1 ?c14) (StepsR.cons rfl (stepR1 ?c15) (StepsR.cons rfl (stepR1 ?c16) (StepsR.cons rfl (stepR1 ?c17) (StepsR.cons rfl (stepR1 ?c18) (StepsR.cons rfl (stepR1 ?c19) (StepsR.cons rfl (stepR1 ?c20) (StepsR.cons rfl (stepR1 ?c21) (StepsR.cons rfl (stepR1 ?c22) (StepsR.cons rfl (stepR1 ?c23) (StepsR.cons rfl (stepR1 ?c24) (StepsR.cons rfl (stepR1 ?c25) (StepsR.cons rfl (stepR1 ?c26) (StepsR.cons rfl (stepR1 ?c27) (StepsR.cons rfl (stepR1 ?c28) (StepsR.cons rfl (stepR1 ?c29) (StepsR.cons rfl (stepR1 ?c30) (StepsR.cons rfl (stepR1 ?c31) (StepsR.cons rfl (stepR1 ?c32) (StepsR.cons rfl (stepR1 ?c33) StepsR.nil)))))))))))))))))))))))))))))))))
         case c0 =>
          rw [q0]
          rintro wx rfl
          refine StepR.want (by kernel_rfl) ?_
          go_simp
         case c1 =>
          rw [q0]
          rintro wx rfl
          refine StepR.want (by kernel_rfl) ?_
          go_simp
         case c2 =>
          rw [q0]
          rintro wx rfl
          refine StepR.want (by kernel_rfl) ?_
          have c := hxb
          go_simp
         case c3 =>
          rw [q0]
          rintro wx rfl
          refine StepR.want (by kernel_rfl) ?_
          go_simp
         case c4 =>
          rw [q0]
          rintro wx rfl
          refine StepR.want (by kernel_rfl) ?_
          go_simp
         case c5 =>
          rw [q0]
          rintro wx rfl
          refine StepR.want (by kernel_rfl) ?_
          go_simp
         case c6 =>
          rw [q0]
          rintro wx rfl
          refine StepR.want (by kernel_rfl) ?_
          have c := hyb
          go_simp
         case c7 =>
          rw [q0]
          rintro wx rfl
          refine StepR.want (by kernel_rfl) ?_
          go_simp
         case c8 =>
          rw [q0]
          rintro wx rfl
          refine StepR.want (by kernel_rfl) ?_
          go_simp
         case c9 =>
          rw [q0]
          rintro wx rfl
          refine StepR.want (by kernel_rfl) ?_
          go_simp
         case c10 =>
          rw [q0]
          rintro wx rfl
          refine StepR.want (by kernel_rfl) ?_
          go_simp
         case c11 =>
          rw [q0]
          rintro wx rfl
          refine StepR.want (by kernel_rfl) ?_
          go_simp
         case c12 =>
          rw [q0]
          rintro wx rfl
          refine StepR.want (by kernel_rfl) ?_
          have c := K1.out
          go_simp
         case c13 =>
          rw [q0]
          rintro wx rfl
          refine StepR.want (by kernel_rfl) ?_
          have c := KP.out
          go_simp
         case c14 =>
          rw [q0]
          rintro wx rfl
          refine StepR.want (by kernel_rfl) ?_
          go_simp
         case c15 =>
          rw [q0]
          rintro wx rfl
          refine StepR.want (by kernel_rfl) ?_
          have c := C0.out
          go_simp
         case c16 =>
          rw [q0]
          rintro wx rfl
          refine StepR.want (by kernel_rfl) ?_
          go_simp
         case c17 =>
          rw [q0]
          rintro wx rfl
          refine StepR.want (by kernel_rfl) ?_
          go_simp
         case c18 =>
          rw [q0]
          rintro wx rfl
          refine StepR.want (by kernel_rfl) ?_
          go_simp
         case c19 =>
          rw [q0]
          rintro wx rfl
          refine StepR.want (by kernel_rfl) ?_
          have c := K1.out
          go_simp
         case c20 =>
          rw [q0]
          rintro wx rfl
          refine StepR.want (by kernel_rfl) ?_
          have c := KP.out
          go_simp
         case c21 =>
          rw [q0]
          rintro wx rfl
          refine StepR.want (by kernel_rfl) ?_
          go_simp
         case c22 =>
          rw [q0]
          rintro wx rfl
          refine StepR.want (by kernel_rfl) ?_
          have c := C1.out
          go_simp
         case c23 =>
          rw [q0]
          rintro wx rfl
          refine StepR.want (by kernel_rfl) ?_
          have c := KS.out
          go_simp
         case c24 =>
          rw [q0]
          rintro wx rfl
          refine StepR.want (by kernel_rfl) ?_
          go_simp
         case c25 =>
          rw [q0]
          rintro wx rfl
          refine StepR.want (by kernel_rfl) ?_
          have c := KY.out
          have c2 : 0 < ny := by have := KY.out; omega
          go_simp
         case c26 =>
          rw [q0]
          rintro wx rfl
          refine StepR.want (by kernel_rfl) ?_
          go_simp
         case c27 =>
          rw [q0]
          rintro wx rfl
          refine StepR.want (by kernel_rfl) ?_
          have c := D0.out
          go_simp
         case c28 =>
          rw [q0]
          rintro wx rfl
          refine StepR.want (by kernel_rfl) ?_
          have c := KL.out
          go_simp
         case c29 =>
          rw [q0]
          rintro wx rfl
          refine StepR.want (by kernel_rfl) ?_
          go_simp
         case c30 =>
          rw [q0]
          rintro wx rfl
          refine StepR.want (by kernel_rfl) ?_
          go_simp
         case c31 =>
          rw [q0, q1]
          rintro wx rfl
          refine StepR.want (by kernel_rfl) ?_
          go_simp
          refine (awake_ok _).mono ?_
          rintro e w7 ⟨rfl, hb⟩
          exact ⟨rfl, hb⟩
         case c32 =>
          rw [q1]
          intro wx hx
          refine StepR.want (by kernel_rfl) ?_
          have hx2 := hx
          go_simp
          try exact hx2
         case c33 =>
          rw [q1]
          intro wx hx
          refine StepR.want (by kernel_rfl) ?_
          have hx2 := hx
          go_simp
          try exact hx2
        case finc =>
          intro w7 hb
          have hb : Below w5.drew.heap.size w5.drew w7 := by have h9 : WP 1 w7 := hb; rwa [q1] at h9
          have HB7 := hid (bt HB6.out hb)
          clear hb q0 q1
          go_wp2_with fail
          go_ret
          exact ⟨rfl, HB7.out⟩
  · have hc2 : ¬ n ≤ sm X2 := by omega
    go_wp2_with fail
    refine (awake_ok _).mono ?_
    rintro e w4 ⟨rfl, hb⟩
    have HB4 := hid (bt HB3.out hb)
    clear hb
    go_wp2_with fail
    go_ret
    exact ⟨rfl, HB4.out⟩

set_option maxRecDepth 100000 in
theorem lifted (os : Os) (started : os.Started) (H : Type) (enc : TypeId × Value → H) :
    ReturnsInHanded {} Try.checked os 7 .any (Rows.rangesTakesSpec.pre6 enc Try.prog Try.f7 Rows.rangesTakesRow.domain false) (Rows.rangesTakesSpec.post enc Try.prog Try.f7 false true false false) := by
  refine returnsInHanded_of_change (C := Try.checked) own started (by kernel_rfl) Try.func7
    (ChangeSpec.witness6 (enc := enc) (C := Try.checked) false ⟨#[], #[.slice none 0 0, .int .i64 0], []⟩ 8 (by kernel_rfl) (by kernel_rfl) (by kernel_rfl) (by kernel_rfl)) ?_
  intro W base args ds gs before hval0 hW hcnd _
  have hval : ∀ (j : Nat) t v, Try.f7.params[j]? = some t → args[j]? = some v → Value.okWide Try.prog W .any base t v := hval0
  have hW' := hW
  obtain ⟨p, q, hA0, hV, rfl, hfz, hnd⟩ := hW
  have hA : DataW.TrodAll enc Try.prog W 0 (fun _ => true) true Try.f7.params.toList args.toList ds p := hA0
  rw [Try.params7] at hA hval
  obtain ⟨v0, vs0, d0, ds0, p0, q0, hargs, rfl, rfl, h0, r0⟩ := trodAll_cons hA
  obtain ⟨v1, vs1, d1, ds1, p1, q1, rfl, rfl, rfl, h1, r1⟩ := trodAll_cons r0
  obtain ⟨rfl, rfl, rfl⟩ := trodAll_nil r1
  obtain rfl : args = #[v0, v1] := by cases args; simp_all
  obtain ⟨rfl, rfl⟩ := trodVars_none hV
  have k0 := h0
  have lt0 : ∀ x ∈ p0, x.block < W.heap.size := by obtain ⟨m, hm⟩ := k0; exact DataW.trod_lt m _ _ _ hm
  have ok0 := hval 0 22 v0 rfl rfl
  obtain ⟨a1, rfl, rfl, rfl, w1⟩ := open_int Try.underlying3 (hval 1 3 v1 rfl rfl) h1
  clear hA0 hval0
  refine (walk v0 a1 W ok0 k0 w1).mono fun e W' ⟨he, bel⟩ => ?_
  subst he
  exact ⟨_, rfl, _, _, _, [], _, [], hW', trodAll_mk1 (shut_bool Try.underlying4 _), (trodAll_cons_mk (Below.trod laidOut (by kernel_rfl) (of_decide_eq_true (by kernel_rfl)) k0 bel lt0) (trodAll_cons_mk (shut_int Try.underlying3 w1) trodAll_mk0)), rfl, bel.frame _, fun h => by cases h⟩

theorem over : Rows.rangesTakesRow.holds Try.pinned (OpenSpec.ofChange Rows.rangesTakesSpec) :=
  OpenClaim.holds_of_wide 7 Try.f7 rfl rfl rfl rfl rfl rfl rfl ⟨rfl, rfl, rfl, rfl, rfl⟩ rfl rfl rfl rfl rfl (by kernel_rfl) Try.func7 (by kernel_rfl)
    (of_decide_eq_true (by kernel_rfl)) (by unfold Func.isWrapper; first | (rw [if_pos (by decide +kernel)]; kernel_rfl) | (rw [if_neg (by decide +kernel)]; exact ⟨rfl, rfl⟩))
    (fun os started H enc _ => lifted os started H enc)

theorem proved : Rows.RangesTakesSaid := over
#print axioms proved
end Go.Proofs.Ytdcenfknjlifkaa.rangesTakes
