/- For all lists a of ranges and all n: RangesNormal returns true and leaves its arguments as they were. No condition. -/
import Derived.Test.YtdcenfknjlifkaaRows
import Derived.WalkKit
import Derived.ProofKit
import Derived.OpenShut
import Derived.ShutString
import Derived.ChangeOld
import Derived.Below
import Derived.Carry
import Derived.Test.YtdcenfknjlifkaaZ
import Derived.Test.YtdcenfknjlifkaaQ
namespace Go.Proofs.Ytdcenfknjlifkaa.rangesNormal
open Go.ChangeShapes Go.WideShapes Go.ChangeAt Go.RowKit
open Go.ChangeMaps (open_string shut_string)
set_option linter.unusedVariables false

theorem own : ownKnob Try.prog.godebug = none := by kernel_rfl
theorem laidOut : laidOutB Try.prog = true := by kernel_rfl

set_option linter.unusedSimpArgs false
attribute [local go_sem] Oper.semAt_some putAll

theorem nf_at {X : List Rn} (h : NF X) (i : Nat) (hi : i < X.length) : 1 ≤ (X[i]?.getD (0, 0)).2 ∧ 0 ≤ (X[i]?.getD (0, 0)).1 ∧ (X[i]?.getD (0, 0)).1 + (X[i]?.getD (0, 0)).2 ≤ 1073741824 := by
  have := h.1 _ (at_mem X i hi)
  omega
theorem nf_next {X : List Rn} (h : NF X) (j : Nat) (hi : j + 1 < X.length) : (X[j]?.getD (0, 0)).1 + (X[j]?.getD (0, 0)).2 < (X[j + 1]?.getD (0, 0)).1 := by
  rw [List.getElem?_eq_getElem hi, List.getElem?_eq_getElem (by omega : j < X.length)]
  exact List.pairwise_iff_getElem.1 h.2 j (j + 1) (by omega) hi (by omega)

theorem StepP.want {P : Program} {ops : Array Oper} {aF : Act} {o : Oper} {w w' : World} (hw : Region.wanted o (yielded ops aF.tmps) = true) (h : o.wp P aF w (fun a' w'' => a' = aF ∧ w'' = w') (fun _ _ _ => False)) : StepP P ops aF o w w' := by
  unfold StepP
  rw [if_pos hw]
  exact h
theorem StepP.skip {P : Program} {ops : Array Oper} {aF : Act} {o : Oper} {w : World} (hw : Region.wanted o (yielded ops aF.tmps) = false) (h : aF.put o.dst undef = aF) : StepP P ops aF o w w := by
  unfold StepP
  rw [if_neg (by rw [hw]; simp)]
  exact ⟨h, rfl⟩
set_option maxRecDepth 100000 in
set_option maxHeartbeats 2000000 in
theorem walk {H : Type} {enc : TypeId × Value → H} {base : Nat} {d0 : DataW H} {p0 : List MemPlace} (v0 : Value) (a1 : Int) (w : World) (ok0 : Value.okWide Try.prog w .any base 22 v0) (k0 : DataW.Trod enc Try.prog w 0 (fun _ => true) true 22 v0 d0 p0) (w1 : (Lit.int .i64 a1).wf = true) :
    Calls Try.prog 8 #[v0, .int .i64 a1] w fun e w' => e = .returned (.bool true) ∧ Below w.heap.size w w' := by
  obtain ⟨a, len, cap, rs, rfl, hl, hR⟩ := open_ranges ok0 k0
  have HR := hid hR
  clear hR ok0 k0 w1
  have h127 := hid (show bits .and .i64 a1 127 = a1 % 128 from and_mask 7 (by omega) a1)
  obtain ⟨m, hm⟩ : ∃ m, m = a1 % 128 := ⟨_, rfl⟩
  rw [← hm] at h127
  have hm0 : I64 m := by unfold I64; omega
  have HM := hid hm0
  clear hm hm0
  have hv1 := hid (tm_ok rs)
  have hl1 := tm_length rs
  have hmx : Try.prog.follows .mixedOrders = true := by kernel_rfl
  go_enter Try.func8, Try.ntmps8
  go_wp2_with fail
  refine (tame_any a len cap rs hl w HR.out).mono ?_
  rintro e w1 ⟨a', ca, rfl, H1⟩
  have HA := hid H1.out.1
  have HB1 := hid H1.out.2
  clear H1 HR
  generalize tm rs = A at *
  go_wp2_with fail
  refine (norm_any a' A.length ca A (by omega) hv1.out w1 HA.out).mono ?_
  rintro e w2 ⟨x, nx', cx, rfl, X, rfl, hX, ⟨hXl, hXm⟩, H2⟩
  have HX := hid H2.out.1
  have HA2 := hid (HA.out.kept H2.out.2)
  have HB2 := hid (bt HB1.out H2.out.2)
  clear H2 HA HB1
  go_wp2_with fail
  refine (norm_any x X.length cx X (by omega) (nf_vld hX) w2 HX.out).mono ?_
  rintro e w3 ⟨y, ny', cy, rfl, Y, rfl, hY, ⟨hYl, hYm⟩, H3⟩
  obtain rfl : Y = X := nf_unique Y X hY hX hYm
  have HY := hid H3.out.1
  have HX3 := hid (HX.out.kept H3.out.2)
  have HA3 := hid (HA2.out.kept H3.out.2)
  have HB3 := hid (bt HB2.out H3.out.2)
  have HNF := hid hX
  have HXm := hid hXm
  clear H3 HA2 HX HB2 hY hYm hXm
  go_wp2_with fail
  go_loopw [9] (fun iv wr => ∃ k q : Nat, k ≤ Y.length ∧ iv = .int .i64 (k : Int) ∧ wr = w3.drewN q) (fun iv _ => Y.length - (intOf iv).toNat)
  case atStart => exact ⟨0, 0, by omega, rfl, rfl⟩
  case round =>
    obtain ⟨k, q, hk, rfl, rfl⟩ := hrel
    by_cases hlt : k < Y.length
    · have h3 : (k : Int) < (Y.length : Int) := by omega
      obtain ⟨g, off, rfl, hgl, hall⟩ := HX3.out.2.2.resolve_left (by omega)
      obtain ⟨n1, n2, n3⟩ := nf_at HNF.out k hlt
      obtain ⟨c0, c1⟩ := hall k hlt
      by_cases hk0 : 0 < k
      · obtain ⟨j, hj⟩ : ∃ j, k = j + 1 := ⟨k - 1, by omega⟩
        have n5 := nf_next HNF.out j (by omega)
        rw [← hj] at n5
        obtain ⟨d0, d1⟩ := hall j (by omega)
        obtain ⟨n10, n7, n8⟩ := nf_at HNF.out j (by omega)
        obtain ⟨⟨s, l⟩, hr⟩ : ∃ r : Rn, r = Y[k]?.getD (0, 0) := ⟨_, rfl⟩
        obtain ⟨⟨s2, l2⟩, hr2⟩ : ∃ r : Rn, r = Y[j]?.getD (0, 0) := ⟨_, rfl⟩
        rw [← hr] at c0 c1 n1 n2 n3 n5
        rw [← hr2] at d0 d1 n5 n7 n8 n10
        simp only at c0 c1 d0 d1 n1 n2 n3 n5 n7 n8 n10
        clear hall hr hr2
        have n4 : ¬ l < 1 := by omega
        have n6 : ¬ s ≤ s2 + l2 := by omega
        have n9 : (0 : Int) < (k : Int) := by omega
        have hjl : (j : Int) < (Y.length : Int) := by omega
        have hkj : IntKind.i64.wrap ((k : Int) - 1) = (j : Int) ∧ (k : Int) - 1 = (j : Int) ∧ IntKind.i64.wrap (j : Int) = (j : Int) := ⟨by rw [show (k : Int) - 1 = (j : Int) by omega]; exact IntWalk.i64_in _ (by omega), by omega, IntWalk.i64_in _ (by omega)⟩
        have w55 : IntKind.i64.wrap (s2 + l2) = s2 + l2 := IntWalk.i64_in _ (by omega)
        clear hj
        have C0 := hid (show (w3.drewN (q + 1)).cell? ⟨g, off + k * 2, none⟩ = some (.int .i64 s) from c0)
        have C1 := hid (show (w3.drewN (q + 1)).cell? ⟨g, off + k * 2 + 1, none⟩ = some (.int .i64 l) from c1)
        have D0 := hid (show (w3.drewN (q + 1)).cell? ⟨g, off + j * 2, none⟩ = some (.int .i64 s2) from d0)
        have D1 := hid (show (w3.drewN (q + 1)).cell? ⟨g, off + j * 2 + 1, none⟩ = some (.int .i64 l2) from d1)
        clear c0 c1 d0 d1
        go_wp2_with fail
        obtain ⟨Ws, w0⟩ : ∃ Ws : Nat → World, Ws 0 = (w3.drewN q).drew := ⟨fun _ => (w3.drewN q).drew, rfl⟩
        refine (wpIn_wide (n := 5)).1 ?_
        refine wpIn_region_plan_v (ro := none) (aF := ?aF) [.slice (some ⟨g, off, none⟩) Y.length cx, .int .i64 (k : Int), .pointer (some ⟨g, off + k * 2, none⟩), .pointer (some ⟨g, off + k * 2 + 1, none⟩), .int .i64 l, .bool false, .bool false, .int .i64 (k : Int), .bool true, .bool true, .slice (some ⟨g, off, none⟩) Y.length cx, .int .i64 (k : Int), .pointer (some ⟨g, off + k * 2, none⟩), .pointer (some ⟨g, off + k * 2, none⟩), .int .i64 s, .slice (some ⟨g, off, none⟩) Y.length cx, .int .i64 (k : Int), .int .i64 (j : Int), .pointer (some ⟨g, off + j * 2, none⟩), .pointer (some ⟨g, off + j * 2, none⟩), .int .i64 s2, .slice (some ⟨g, off, none⟩) Y.length cx, .int .i64 (k : Int), .int .i64 (j : Int), .pointer (some ⟨g, off + j * 2, none⟩), .pointer (some ⟨g, off + j * 2 + 1, none⟩), .int .i64 l2, .int .i64 (s2 + l2), .bool false, .bool false, .bool false] ?hE [] [] [[(0, 0)], [(0, 0)], [(0, 0)], [(0, 0)], [(0, 0)], [(0, 0)], [(0, 0)], [(0, 0)], [(0, 0)], [(0, 0)], [(0, 0)], [(0, 0)], [(0, 0)], [(0, 0)], [(0, 0)], [(0, 0)], [(0, 0)], [(0, 0)], [(0, 0)], [(0, 0)], [(0, 0)], [(0, 0)], [(0, 0)], [(0, 0)], [(0, 0)], [(0, 0)], [(0, 0)], [(0, 0)], [(0, 0)], [(0, 0)], [(0, 0)]] Ws 89 ?hN hmx (by kernel_rfl) (by kernel_rfl) ?haF w0 ?st ?fin
        case hE =>
          go_simp
          rfl
        case hN => kernel_rfl
        case haF => kernel_rfl
        case st =>
         refine StepsP.cons rfl (step1 ?s0) (StepsP.cons rfl (step1 ?s1) (StepsP.cons rfl (step1 ?s2) (StepsP.cons rfl (step1 ?s3) (StepsP.cons rfl (step1 ?s4) (StepsP.cons rfl (step1 ?s5) (StepsP.cons rfl (step1 ?s6) (StepsP.cons rfl (step1 ?s7) (StepsP.cons rfl (step1 ?s8) (StepsP.cons rfl (step1 ?s9) (StepsP.cons rfl (step1 ?s10) (StepsP.cons rfl (step1 ?s11) (StepsP.cons rfl (step1 ?s12) (StepsP.cons rfl (step1 ?s13) (StepsP.cons rfl (step1 ?s14) (StepsP.cons rfl (step1 ?s15) (StepsP.cons rfl (step1 ?s16) (StepsP.cons rfl (step1 ?s17) (StepsP.cons rfl (step1 ?s18) (StepsP.cons rfl (step1 ?s19) (StepsP.cons rfl (step1 ?s20) (StepsP.cons rfl (step1 ?s21) (StepsP.cons rfl (step1 ?s22) (StepsP.cons rfl (step1 ?s23) (StepsP.cons rfl (step1 ?s24) (StepsP.cons rfl (step1 ?s25) (StepsP.cons rfl (step1 ?s26) (StepsP.cons rfl (step1 ?s27) (StepsP.cons rfl (step1 ?s28) (StepsP.cons rfl (step1 ?s29) (StepsP.cons rfl (step1 ?s30) StepsP.nil))))))))))))))))))))))))))))))
         case s0 =>
          rw [w0]
          refine StepP.want (by kernel_rfl) ?_
          go_simp
         case s1 =>
          rw [w0]
          refine StepP.want (by kernel_rfl) ?_
          go_simp
         case s2 =>
          rw [w0]
          refine StepP.want (by kernel_rfl) ?_
          have c := h3
          go_simp
         case s3 =>
          rw [w0]
          refine StepP.want (by kernel_rfl) ?_
          go_simp
         case s4 =>
          rw [w0]
          refine StepP.want (by kernel_rfl) ?_
          have c := C1.out
          go_simp
         case s5 =>
          rw [w0]
          refine StepP.want (by kernel_rfl) ?_
          have c := n4
          go_simp
         case s6 =>
          rw [w0]
          refine StepP.want (by kernel_rfl) ?_
          go_simp
         case s7 =>
          rw [w0]
          refine StepP.want (by kernel_rfl) ?_
          go_simp
         case s8 =>
          rw [w0]
          refine StepP.want (by kernel_rfl) ?_
          have c := n9
          go_simp
         case s9 =>
          rw [w0]
          refine StepP.want (by kernel_rfl) ?_
          go_simp
         case s10 =>
          rw [w0]
          refine StepP.want (by kernel_rfl) ?_
          go_simp
         case s11 =>
          rw [w0]
          refine StepP.want (by kernel_rfl) ?_
          go_simp
         case s12 =>
          rw [w0]
          refine StepP.want (by kernel_rfl) ?_
          have c := h3
          go_simp
         case s13 =>
          rw [w0]
          refine StepP.want (by kernel_rfl) ?_
          go_simp
         case s14 =>
          rw [w0]
          refine StepP.want (by kernel_rfl) ?_
          have c := C0.out
          go_simp
         case s15 =>
          rw [w0]
          refine StepP.want (by kernel_rfl) ?_
          go_simp
         case s16 =>
          rw [w0]
          refine StepP.want (by kernel_rfl) ?_
          go_simp
         case s17 =>
          rw [w0]
          refine StepP.want (by kernel_rfl) ?_
          have c := hkj
          go_simp
         case s18 =>
          rw [w0]
          refine StepP.want (by kernel_rfl) ?_
          have c := hjl
          go_simp
         case s19 =>
          rw [w0]
          refine StepP.want (by kernel_rfl) ?_
          go_simp
         case s20 =>
          rw [w0]
          refine StepP.want (by kernel_rfl) ?_
          have c := D0.out
          go_simp
         case s21 =>
          rw [w0]
          refine StepP.want (by kernel_rfl) ?_
          go_simp
         case s22 =>
          rw [w0]
          refine StepP.want (by kernel_rfl) ?_
          go_simp
         case s23 =>
          rw [w0]
          refine StepP.want (by kernel_rfl) ?_
          have c := hkj
          go_simp
         case s24 =>
          rw [w0]
          refine StepP.want (by kernel_rfl) ?_
          have c := hjl
          go_simp
         case s25 =>
          rw [w0]
          refine StepP.want (by kernel_rfl) ?_
          go_simp
         case s26 =>
          rw [w0]
          refine StepP.want (by kernel_rfl) ?_
          have c := D1.out
          go_simp
         case s27 =>
          rw [w0]
          refine StepP.want (by kernel_rfl) ?_
          have c := w55
          go_simp
         case s28 =>
          rw [w0]
          refine StepP.want (by kernel_rfl) ?_
          have c := n6
          go_simp
         case s29 =>
          rw [w0]
          refine StepP.want (by kernel_rfl) ?_
          go_simp
         case s30 =>
          rw [w0]
          refine StepP.want (by kernel_rfl) ?_
          go_simp
        case fin =>
          have e9 : Ws ([] : List Nat).length = Ws 0 := rfl
          rw [e9, w0]
          clear e9 w0
          go_wp2_with fail
          go_roundw
          case rel => exact ⟨k + 1, q + 1, by omega, by go_num, by first | rfl | rw [World.drewN_drewN]⟩
          case measure => simp [intOf]; omega
      · obtain ⟨⟨s, l⟩, hr⟩ : ∃ r : Rn, r = Y[k]?.getD (0, 0) := ⟨_, rfl⟩
        rw [← hr] at c0 c1 n1 n2 n3
        simp only at c0 c1 n1 n2 n3
        clear hall hr
        have n4 : ¬ l < 1 := by omega
        have n5 : ¬ (0 : Int) < (k : Int) := by omega
        have C1 := hid (show (w3.drewN (q + 1)).cell? ⟨g, off + k * 2 + 1, none⟩ = some (.int .i64 l) from c1)
        clear c0 c1
        go_wp2_with fail
        obtain ⟨Ws, w0⟩ : ∃ Ws : Nat → World, Ws 0 = (w3.drewN q).drew := ⟨fun _ => (w3.drewN q).drew, rfl⟩
        refine (wpIn_wide (n := 5)).1 ?_
        refine wpIn_region_plan_v (ro := none) (aF := ?aG) [.slice (some ⟨g, off, none⟩) Y.length cx, .int .i64 (k : Int), .pointer (some ⟨g, off + k * 2, none⟩), .pointer (some ⟨g, off + k * 2 + 1, none⟩), .int .i64 l, .bool false, .bool false, .int .i64 (k : Int), .bool false, .bool false, undef, undef, undef, undef, undef, undef, undef, undef, undef, undef, undef, undef, undef, undef, undef, undef, undef, undef, undef, .bool false, .bool false] ?hE2 [] [] [[(0, 0)], [(0, 0)], [(0, 0)], [(0, 0)], [(0, 0)], [(0, 0)], [(0, 0)], [(0, 0)], [(0, 0)], [(0, 0)], [(0, 0)], [(0, 0)], [(0, 0)], [(0, 0)], [(0, 0)], [(0, 0)], [(0, 0)], [(0, 0)], [(0, 0)], [(0, 0)], [(0, 0)], [(0, 0)], [(0, 0)], [(0, 0)], [(0, 0)], [(0, 0)], [(0, 0)], [(0, 0)], [(0, 0)], [(0, 0)], [(0, 0)]] Ws 89 ?hN2 hmx (by kernel_rfl) (by kernel_rfl) ?haF2 w0 ?st2 ?fin2
        case hE2 =>
          go_simp
          rfl
        case hN2 => kernel_rfl
        case haF2 => kernel_rfl
        case st2 =>
         refine StepsP.cons rfl (step1 ?t0) (StepsP.cons rfl (step1 ?t1) (StepsP.cons rfl (step1 ?t2) (StepsP.cons rfl (step1 ?t3) (StepsP.cons rfl (step1 ?t4) (StepsP.cons rfl (step1 ?t5) (StepsP.cons rfl (step1 ?t6) (StepsP.cons rfl (step1 ?t7) (StepsP.cons rfl (step1 ?t8) (StepsP.cons rfl (step1 ?t9) (StepsP.cons rfl (step1 ?t10) (StepsP.cons rfl (step1 ?t11) (StepsP.cons rfl (step1 ?t12) (StepsP.cons rfl (step1 ?t13) (StepsP.cons rfl (step1 ?t14) (StepsP.cons rfl (step1 ?t15) (StepsP.cons rfl (step1 ?t16) (StepsP.cons rfl (step1 ?t17) (StepsP.cons rfl (step1 ?t18) (StepsP.cons rfl (step1 ?t19) (StepsP.cons rfl (step1 ?t20) (StepsP.cons rfl (step1 ?t21) (StepsP.cons rfl (step1 ?t22) (StepsP.cons rfl (step1 ?t23) (StepsP.cons rfl (step1 ?t24) (StepsP.cons rfl (step1 ?t25) (StepsP.cons rfl (step1 ?t26) (StepsP.cons rfl (step1 ?t27) (StepsP.cons rfl (step1 ?t28) (StepsP.cons rfl (step1 ?t29) (StepsP.cons rfl (step1 ?t30) StepsP.nil))))))))))))))))))))))))))))))
         case t0 =>
          rw [w0]
          refine StepP.want (by kernel_rfl) ?_
          go_simp
         case t1 =>
          rw [w0]
          refine StepP.want (by kernel_rfl) ?_
          go_simp
         case t2 =>
          rw [w0]
          refine StepP.want (by kernel_rfl) ?_
          have c := h3
          go_simp
         case t3 =>
          rw [w0]
          refine StepP.want (by kernel_rfl) ?_
          go_simp
         case t4 =>
          rw [w0]
          refine StepP.want (by kernel_rfl) ?_
          have c := C1.out
          go_simp
         case t5 =>
          rw [w0]
          refine StepP.want (by kernel_rfl) ?_
          have c := n4
          go_simp
         case t6 =>
          rw [w0]
          refine StepP.want (by kernel_rfl) ?_
          go_simp
         case t7 =>
          rw [w0]
          refine StepP.want (by kernel_rfl) ?_
          go_simp
         case t8 =>
          rw [w0]
          refine StepP.want (by kernel_rfl) ?_
          have c := n5
          go_simp
         case t9 =>
          rw [w0]
          refine StepP.want (by kernel_rfl) ?_
          go_simp
         case t10 =>
          rw [w0]
          exact StepP.skip (by kernel_rfl) (by kernel_rfl)
         case t11 =>
          rw [w0]
          exact StepP.skip (by kernel_rfl) (by kernel_rfl)
         case t12 =>
          rw [w0]
          exact StepP.skip (by kernel_rfl) (by kernel_rfl)
         case t13 =>
          rw [w0]
          exact StepP.skip (by kernel_rfl) (by kernel_rfl)
         case t14 =>
          rw [w0]
          exact StepP.skip (by kernel_rfl) (by kernel_rfl)
         case t15 =>
          rw [w0]
          exact StepP.skip (by kernel_rfl) (by kernel_rfl)
         case t16 =>
          rw [w0]
          exact StepP.skip (by kernel_rfl) (by kernel_rfl)
         case t17 =>
          rw [w0]
          exact StepP.skip (by kernel_rfl) (by kernel_rfl)
         case t18 =>
          rw [w0]
          exact StepP.skip (by kernel_rfl) (by kernel_rfl)
         case t19 =>
          rw [w0]
          exact StepP.skip (by kernel_rfl) (by kernel_rfl)
         case t20 =>
          rw [w0]
          exact StepP.skip (by kernel_rfl) (by kernel_rfl)
         case t21 =>
          rw [w0]
          exact StepP.skip (by kernel_rfl) (by kernel_rfl)
         case t22 =>
          rw [w0]
          exact StepP.skip (by kernel_rfl) (by kernel_rfl)
         case t23 =>
          rw [w0]
          exact StepP.skip (by kernel_rfl) (by kernel_rfl)
         case t24 =>
          rw [w0]
          exact StepP.skip (by kernel_rfl) (by kernel_rfl)
         case t25 =>
          rw [w0]
          exact StepP.skip (by kernel_rfl) (by kernel_rfl)
         case t26 =>
          rw [w0]
          exact StepP.skip (by kernel_rfl) (by kernel_rfl)
         case t27 =>
          rw [w0]
          exact StepP.skip (by kernel_rfl) (by kernel_rfl)
         case t28 =>
          rw [w0]
          exact StepP.skip (by kernel_rfl) (by kernel_rfl)
         case t29 =>
          rw [w0]
          refine StepP.want (by kernel_rfl) ?_
          go_simp
         case t30 =>
          rw [w0]
          refine StepP.want (by kernel_rfl) ?_
          go_simp
        case fin2 =>
          have e9 : Ws ([] : List Nat).length = Ws 0 := rfl
          rw [e9, w0]
          clear e9 w0
          go_wp2_with fail
          go_roundw
          case rel => exact ⟨k + 1, q + 1, by omega, by go_num, by first | rfl | rw [World.drewN_drewN]⟩
          case measure => simp [intOf]; omega
    · obtain rfl : k = Y.length := by omega
      have h3 : ¬ (Y.length : Int) < (Y.length : Int) := by omega
      have hbd : Below w3.heap.size w3 (w3.drewN q) := ⟨rfl, rfl, rfl, Nat.le_refl _, fun _ _ => rfl⟩
      have HX4 := hid (HX3.out.kept hbd)
      have HY4 := hid (HY.out.kept hbd)
      have HA4 := hid (HA3.out.kept hbd)
      have HB4 := hid (bt HB3.out hbd)
      clear hbd HX3 HY HA3 HB3
      have FA := hid (fun w h => has_any a' A.length ca A m HM.out (by omega) hv1.out w h)
      have FX := hid (fun w h => has_any x Y.length cx Y m HM.out (by omega) (nf_vld HNF.out) w h)
      have eX : decide (Mem Y m) = decide (Mem A m) := by have := HXm.out m; by_cases p : Mem A m <;> simp [this, p]
      rw [eX] at FX
      clear eX
      generalize w3.drewN q = w4 at *
      have h128 := h127.out
      have hbq : ∀ b : Bool, (b == b) = true := fun b => by cases b <;> rfl
      generalize decide (Mem A m) = bp at *
      go_wp2_with fail
      refine (same_any x y Y.length cx cy Y (by omega) w4 HX4.out HY4.out).mono ?_
      rintro e w5 ⟨rfl, hb⟩
      have HX5 := hid (HX4.out.kept hb)
      have HA5 := hid (HA4.out.kept hb)
      have HB5 := hid (bt HB4.out hb)
      clear hb HX4 HY4 HA4 HB4
      go_wp2_with fail
      refine (equal_yes a' x A.length ca Y.length cx A Y (by omega) (by omega) hv1.out (nf_vld HNF.out) (fun n => (HXm.out n).symm) w5 HA5.out HX5.out).mono ?_
      rintro e w6 ⟨rfl, hb⟩
      have HX6 := hid (HX5.out.kept hb)
      have HA6 := hid (HA5.out.kept hb)
      have HB6 := hid (bt HB5.out hb)
      clear hb HX5 HA5 HB5
      go_wp2_with fail
      refine (FA.out w6 HA6.out).mono ?_
      rintro e w7 ⟨rfl, hb⟩
      have HX7 := hid (HX6.out.kept hb)
      have HB7 := hid (bt HB6.out hb)
      clear hb HX6 HA6 HB6
      go_wp2_with fail
      refine (FX.out w7 HX7.out).mono ?_
      rintro e w8 ⟨rfl, hb⟩
      have HB8 := hid (bt HB7.out hb)
      clear hb HX7 HB7
      have hbb := hbq bp
      go_wp2_with fail
      refine (awake_ok _).mono ?_
      rintro e w9 ⟨rfl, hb⟩
      have HB9 := hid (bt HB8.out hb)
      clear hb HB8
      go_wp2_with fail
      go_ret
      exact ⟨rfl, HB9.out⟩

set_option maxRecDepth 100000 in
theorem lifted (os : Os) (started : os.Started) (H : Type) (enc : TypeId × Value → H) :
    ReturnsInHanded {} Try.checked os 8 .any (Rows.rangesNormalSpec.pre6 enc Try.prog Try.f8 Rows.rangesNormalRow.domain false) (Rows.rangesNormalSpec.post enc Try.prog Try.f8 false true false false) := by
  refine returnsInHanded_of_change (C := Try.checked) own started (by kernel_rfl) Try.func8
    (ChangeSpec.witness6 (enc := enc) (C := Try.checked) false ⟨#[], #[.slice none 0 0, .int .i64 0], []⟩ 8 (by kernel_rfl) (by kernel_rfl) (by kernel_rfl) (by kernel_rfl)) ?_
  intro W base args ds gs before hval0 hW hcnd _
  have hval : ∀ (j : Nat) t v, Try.f8.params[j]? = some t → args[j]? = some v → Value.okWide Try.prog W .any base t v := hval0
  have hW' := hW
  obtain ⟨p, q, hA0, hV, rfl, hfz, hnd⟩ := hW
  have hA : DataW.TrodAll enc Try.prog W 0 (fun _ => true) true Try.f8.params.toList args.toList ds p := hA0
  rw [Try.params8] at hA hval
  obtain ⟨v0, vs0, d0, ds0, p0, q0, hargs, rfl, rfl, h0, r0⟩ := trodAll_cons hA
  obtain ⟨v1, vs1, d1, ds1, p1, q1, rfl, rfl, rfl, h1, r1⟩ := trodAll_cons r0
  obtain ⟨rfl, rfl, rfl⟩ := trodAll_nil r1
  obtain rfl : args = #[v0, v1] := by cases args; simp_all
  obtain ⟨rfl, rfl⟩ := trodVars_none hV
  have k0 := h0
  have lt0 : ∀ x ∈ p0, x.block < W.heap.size := by obtain ⟨m, hm⟩ := k0; exact DataW.trod_lt m _ _ _ hm
  have ok0 := hval 0 22 v0 rfl rfl
  obtain ⟨a1, rfl, rfl, rfl, w1⟩ := open_int Try.underlying3 (hval 1 3 v1 rfl rfl) h1
  clear hA0 hval0
  refine (walk v0 a1 W ok0 k0 w1).mono fun e W' ⟨he, bel⟩ => ?_
  subst he
  exact ⟨_, rfl, _, _, _, [], _, [], hW', trodAll_mk1 (shut_bool Try.underlying4 _), (trodAll_cons_mk (Below.trod laidOut (by kernel_rfl) (of_decide_eq_true (by kernel_rfl)) k0 bel lt0) (trodAll_cons_mk (shut_int Try.underlying3 w1) trodAll_mk0)), rfl, bel.frame _, fun h => by cases h⟩

theorem over : Rows.rangesNormalRow.holds Try.pinned (OpenSpec.ofChange Rows.rangesNormalSpec) :=
  OpenClaim.holds_of_wide 8 Try.f8 rfl rfl rfl rfl rfl rfl rfl ⟨rfl, rfl, rfl, rfl, rfl⟩ rfl rfl rfl rfl rfl (by kernel_rfl) Try.func8 (by kernel_rfl)
    (of_decide_eq_true (by kernel_rfl)) (by unfold Func.isWrapper; first | (rw [if_pos (by decide +kernel)]; kernel_rfl) | (rw [if_neg (by decide +kernel)]; exact ⟨rfl, rfl⟩))
    (fun os started H enc _ => lifted os started H enc)

theorem proved : Rows.RangesNormalSaid := over
#print axioms proved
end Go.Proofs.Ytdcenfknjlifkaa.rangesNormal
