/- For all lists of requests: DiskCandidates returns true. No condition. -/
import Derived.Test.YtfaeieeokelokaaRows
import Derived.WalkKit
import Derived.ProofKit
import Derived.OpenShut
import Derived.ShutString
import Derived.ChangeOld
import Derived.Below
import Derived.Carry
import Derived.Test.YtfaeieeokelokaaZ
import Derived.Test.YtfaeieeokelokaaAe
import Derived.Test.YtfaeieeokelokaaPR
import Derived.Test.YtfaeieeokelokaaZ
import Derived.Test.YtfaeieeokelokaaAe
import Derived.Test.YtfaeieeokelokaaPR
namespace Go.Proofs.Ytfaeieeokelokaa.diskCandidates
open Go.ChangeShapes Go.WideShapes Go.ChangeAt Go.RowKit
open Go.ChangeMaps (open_string shut_string)
set_option linter.unusedVariables false

theorem own : ownKnob Try.prog.godebug = none := by kernel_rfl
theorem laidOut : laidOutB Try.prog = true := by kernel_rfl

set_option linter.unusedSimpArgs false
attribute [local go_sem] Oper.semAt_some putAll
theorem mk5 (w : World) : (Instr.makeSlice 36 (.int .i64 5) (.int .i64 5)).run Try.prog w = .ok (.slice (some ⟨w.heap.size, 0, none⟩) 5 5) (w.alloc (.cells (madeCells #[.int .u64 0] 5) 26)) := by
  obtain ⟨i0, hi, hz0, hz1, hz2⟩ := info_parts Try.info26
  have := run_make (P := Try.prog) w 36 26 i0 (.int .u64 0) Try.underlying36 hi hz0 .i64 .i64 5 5 (by omega) (Int.le_refl _) (by rw [hz2]; omega) (by omega)
  rw [hz1] at this
  simpa [Value.cells] using this
theorem row_made (w : World) (z : Nat) (hz : z ≤ 1000000) : Row (w.alloc (.cells (madeCells #[.int .u64 0] z) 26)) w.heap.size z (List.replicate z 0) := by
  have hv : (madeCells #[(.int .u64 0 : Value)] z).toList = vu (List.replicate z 0) := by rw [toList_madeCells_one]; simp [vu]
  have := World.ownsRow_lit (base := 0) (e := 26) (size := 1) w (madeCells #[.int .u64 0] z) z (Nat.zero_le _) (by unfold maxLen; omega) (by rw [size_madeCells]; omega)
  unfold Row
  rw [List.length_replicate, ← hv]
  exact this
set_option maxRecDepth 100000 in
set_option maxHeartbeats 8000000 in
theorem ot_draw {B : Nat} {W0 W : World} {A : Nat} {k : Dk} {t : Nat} {f : Nat → Sc} (h : OT B W0 W A k t f) : OT B W0 W.drew A k t f := by
  obtain ⟨R, b, cb, G, h1, h2, h3⟩ := h
  have hb := (Below.refl W.heap.size W).drew
  exact ⟨R, b, cb, G, (h1.below hb).1, h2.below hb, h3⟩
theorem step2 {P : Program} {ops : Array Oper} {aF : Act} {WP : Nat → World → Prop} {o : Oper} {a b c d : Nat} (h : ∀ w, WP a w → StepR P ops aF o w (WP b)) (h2 : ∀ w, WP c w → StepR P ops aF o w (WP d)) : ∀ q ∈ [(a, b), (c, d)], ∀ w, WP q.1 w → StepR P ops aF o w (WP q.2) := fun q hq => by
  rcases List.mem_cons.1 hq with rfl | hq
  · exact h
  · obtain rfl := List.mem_singleton.1 hq
    exact h2
/-- the array and the track, made -/
theorem ot_made {W W2 W3 : World} {A t b cb : Nat} {G : Nat → Nat × Nat} {f : Nat → Sc} {k : Dk} (h : Own W.heap.size W W2 A k []) (h2 : TK W3 t b cb 5 G f) (hb : Below W2.heap.size W2 W3) (h3 : W2.heap.size ≤ t) (h4 : W2.heap.size ≤ b) (h5 : ∀ i, i < 5 → W2.heap.size ≤ (G i).1) : OT W.heap.size W W3 A k t f := by
  have l1 := own_lt h2.blk
  have l2 := own_lt h2.row
  refine ⟨_, b, cb, G, h.grow [] (fun x hx => by cases hx) (Gr.of_below hb []) (t :: b :: (List.range 5).map fun i => (G i).1) (fun r hr => .inr ?_), h2, by simp, by simp, fun i hi => List.mem_append_left _ (List.mem_cons_of_mem _ (List.mem_cons_of_mem _ (List.mem_map.2 ⟨i, List.mem_range.2 hi, rfl⟩)))⟩
  rcases List.mem_cons.1 hr with rfl | hr
  · exact ⟨h3, l1⟩
  · rcases List.mem_cons.1 hr with rfl | hr
    · exact ⟨h4, l2⟩
    · obtain ⟨i, hi, rfl⟩ := List.mem_map.1 hr
      have hi := List.mem_range.1 hi
      exact ⟨h5 i hi, (h2.inn i hi).lt⟩
theorem fl_made : Fl (nk [5]) (fun i => ⟨[ge (List.replicate 5 0) i], true, ge (List.replicate 5 0) i⟩) 0 :=
  ⟨{ ul := rfl, l0 := rfl, d0 := rfl, m0 := rfl, bd := fun _ _ => rfl, fz := (by show (0 : Int) ≤ 0 ∧ (0 : Int) ≤ 5; omega), F0 := fun w hw => (by cases hw), fl := Nat.le_refl _, wr := (by show (0 : Int) ≤ 0 ∧ (0 : Int) ≤ ((0 : Nat) : Int); omega), ap := rfl
     sl := fun j hj => (by show 1 ≤ 1; omega), dS := fun j hj => (by show ge (List.replicate 5 0) j ∈ [ge (List.replicate 5 0) j]; simp), FS := fun w hw => (by cases hw) }, rfl, fun j hj => ⟨rfl, rfl⟩⟩
set_option maxRecDepth 100000 in
set_option maxHeartbeats 16000000 in
theorem walk {H : Type} {enc : TypeId × Value → H} {base : Nat} {d0 : DataW H} {p0 : List MemPlace} (v0 : Value) (W : World) (ok0 : Value.okWide Try.prog W .any base 30 v0) (k0 : DataW.Trod enc Try.prog W 0 (fun _ => true) true 30 v0 d0 p0) :
    Calls Try.prog 7 #[v0] W fun e w' => e = .returned (.bool true) ∧ Below W.heap.size W w' := by
  obtain ⟨a, len, cap, F, rfl, hl, hS⟩ := open_steps ok0 k0
  have HS := hid hS
  have HFW := hid ((few_ok a len cap W).mono (R' := fun e w' => e = .returned (.bool (decide (len ≤ 24))) ∧ W = w') (fun e w' h => ⟨h.1, h.2.symm⟩))
  have hmx : Try.prog.follows .mixedOrders = true := by kernel_rfl
  clear hS ok0 k0
  by_cases hfew : len ≤ 24
  · rw [decide_eq_true hfew] at HFW
    have HB0 := hid ((Below.refl W.heap.size W).alloc (Nat.le_refl _) (.cells #[.int .i64 5] 3))
    have hAr : Ar (W.alloc (.cells #[.int .i64 5] 3)) (some ⟨W.heap.size, 0, none⟩) [5] := .inr ⟨W.heap.size, 0, rfl, by simp, fun i hi => by
      obtain rfl : i = 0 := by simp at hi; omega
      go_simp; rfl⟩
    have HN := hid (own_new (some ⟨W.heap.size, 0, none⟩) 1 [5] (W.alloc (.cells #[.int .i64 5] 3)) (by decide) (fun i hi => by
      obtain rfl : i = 0 := by simp at hi; omega
      exact ⟨by decide, by decide⟩) hAr W.heap.size W HB0.out (Nat.le_refl _))
    clear hAr
    go_enter Try.func7, Try.ntmps7
    go_wp2_with fail
    refine HFW.out.mono ?_
    rintro e w0 ⟨rfl, rfl⟩
    go_wp2_with fail
    refine HN.out.mono ?_
    rintro e w1 ⟨A, rfl, H1⟩
    have O1 := hid H1.out.1
    clear HN HB0 H1 HFW
    have hm5 := mk5
    have hb2 := (Below.refl w1.heap.size w1).alloc (Nat.le_refl _) (.cells (madeCells #[.int .u64 0] 5) 26)
    have O2 := hid (O1.out.below hb2).1
    have HTK := hid (tracked_ok (row_made w1 5 (by omega)) (by decide) (by decide))
    clear hb2 O1
    go_wp2_with fail
    clear hm5
    refine HTK.out.mono ?_
    rintro e w3 ⟨tk, rfl, H3⟩
    obtain ⟨bk, cbk, G, h1, h2, h3, h4, h5⟩ := H3.out
    have O3 := hid (ot_made O2.out h1 h2 h3 h4 h5)
    clear HTK H3 h1 h2 h3 h4 h5 O2
    go_wp2_with fail
    go_loopw [6] (fun iv wr => ∃ (i : Nat) (k : Dk) (f : Nat → Sc), i ≤ len ∧ iv = .int .i64 (i : Int) ∧ Hid (OT W.heap.size W wr A k tk f) ∧ Hid (Fl k f i)) (fun iv _ => len - (intOf iv).toNat)
    case atStart => exact ⟨0, nk [5], _, by omega, rfl, O3, hid fl_made⟩
    case round =>
      clear O3
      obtain ⟨i, k, f, hi, rfl, O, HI⟩ := hrel
      by_cases hlt : i < len
      · have hlt' : (i : Int) < (len : Int) := by omega
        have hw := (HS.out.below O.out.bel.1)
        obtain ⟨b, o, rfl, hb, hc⟩ := hw.2.resolve_left (by omega)
        obtain ⟨x0, x1, x2, x3⟩ := hc i hlt
        have hI := hw.1 i hlt
        unfold I64 at hI
        have HC := hid (fun (w' : World) (h : Below W.heap.size W w') => (show w'.cell? ⟨b, o + i * 4, none⟩ = some (.int .i64 (F i).kind) ∧ w'.cell? ⟨b, o + i * 4 + 1, none⟩ = some (.int .i64 (F i).at') ∧ w'.cell? ⟨b, o + i * 4 + 2, none⟩ = some (.int .u64 (F i).v) ∧ w'.cell? ⟨b, o + i * 4 + 3, none⟩ = some (.int .u64 (F i).keep) by
          obtain ⟨b', o', e, _, hc9⟩ := (HS.out.below h).2.resolve_left (by omega)
          simp only [Option.some.injEq, Addr.mk.injEq, and_true] at e
          obtain ⟨rfl, rfl⟩ := e
          exact hc9 i hlt))
        have hq1 := Int.lt_tmod_of_pos (F i).at' (show (0 : Int) < 5 by omega)
        have hq2 := Int.tmod_lt_of_pos (F i).at' (show (0 : Int) < 5 by omega)
        obtain ⟨t, ht⟩ : ∃ t : Nat, (F i).at'.tmod 5 % 5 = (t : Int) := ⟨((F i).at'.tmod 5 % 5).toNat, by omega⟩
        have htl : t < 5 := by omega
        generalize (F i).at' = y at *
        generalize (F i).v = z at *
        generalize (F i).keep = kp0 at *
        have HC0 := hid (fun w' h => (HC.out w' h).1)
        have HC2 := hid (fun w' h => (HC.out w' h).2.2.1)
        have HC3 := hid (fun w' h => (HC.out w' h).2.2.2)
        have HTL := hid htl
        have HSL := hid (show (f t).S.length ≤ 1000 by have := HI.out.wk.sl t htl; omega)
        have HBn := hid (HI.out.wk.bnd (show i ≤ 100 by omega))
        clear hc hw x2 x3 HC
        by_cases k0 : (F i).kind = 0
        · rw [k0] at x0 HC0
          clear k0
          by_cases hf : k.fuse = 1
          · have HW := hid (HI.out.wr_no htl z hf)
            have HWK := hid HW.out.2.2
            have HFK := hid (show (wrK k ((0 : Nat) : Int) (t : Int) z).F.length ≤ 2 ^ 32 by have := HW.out.2.2.fl; omega)
            clear HI hf
            have HT := hid ht
            go_wp2_with fail
            clear hI hq1 hq2 ht x0 x1
            rw [show (y.tmod 5 + 5) % 5 = (t : Int) by have := HT.out; omega]
            obtain ⟨WP, q0, q1, q2⟩ : ∃ WP : Nat → World → Prop, WP 0 = (fun w' => OT W.heap.size W w' A k tk f) ∧ WP 1 = (fun w' => OT W.heap.size W w' A (wrK k ((0 : Nat) : Int) (t : Int) z) tk f) ∧ WP 2 = (fun w' => OT W.heap.size W w' A (wrK k ((0 : Nat) : Int) (t : Int) z) tk (wrS f t z false)) := ⟨fun n => match n with | 0 => (fun w' => OT W.heap.size W w' A k tk f) | 1 => (fun w' => OT W.heap.size W w' A (wrK k ((0 : Nat) : Int) (t : Int) z) tk f) | _ => (fun w' => OT W.heap.size W w' A (wrK k ((0 : Nat) : Int) (t : Int) z) tk (wrS f t z false)), rfl, rfl, rfl⟩
            refine (wpIn_wide (n := 5)).1 ?_
            refine wpIn_region_planR (ro := none) (aF := ?aFa) [.pointer (some ⟨tk, 0, none⟩), .int .i64 (t : Int), .slice (some ⟨b, o, none⟩) len cap, .int .i64 (i : Int), .pointer (some ⟨b, o + i * 4, none⟩), .pointer (some ⟨b, o + i * 4 + 2, none⟩), .int .u64 z, .pointer (some ⟨A, 0, none⟩), .int .i64 (t : Int), .slice (some ⟨b, o, none⟩) len cap, .int .i64 (i : Int), .pointer (some ⟨b, o + i * 4, none⟩), .pointer (some ⟨b, o + i * 4 + 2, none⟩), .int .u64 z, .int .i64 5, .bool false, .tuple #[]] ?hEa [] [14, 16] [[(0, 0), (1, 1)], [(0, 0), (1, 1)], [(0, 0), (1, 1)], [(0, 0), (1, 1)], [(0, 0), (1, 1)], [(0, 0), (1, 1)], [(0, 0), (1, 1)], [(0, 0)], [(0, 0)], [(0, 0)], [(0, 0)], [(0, 0)], [(0, 0)], [(0, 0)], [(0, 1)], [(1, 1)], [(1, 2)]] WP 119 ?hNa hmx (by kernel_rfl) (by kernel_rfl) ?haFa (by rw [q0]; exact ot_draw O.out) ?sta ?fina
            case hEa =>
              go_simp
              rfl
            case hNa => kernel_rfl
            case haFa => kernel_rfl
            case sta =>
              refine StepsR.cons rfl (step2 ?a0x ?a0y) (StepsR.cons rfl (step2 ?a1x ?a1y) (StepsR.cons rfl (step2 ?a2x ?a2y) (StepsR.cons rfl (step2 ?a3x ?a3y) (StepsR.cons rfl (step2 ?a4x ?a4y) (StepsR.cons rfl (step2 ?a5x ?a5y) (StepsR.cons rfl (step2 ?a6x ?a6y) (StepsR.cons rfl (stepR1 ?a7) (StepsR.cons rfl (stepR1 ?a8) (StepsR.cons rfl (stepR1 ?a9) (StepsR.cons rfl (stepR1 ?a10) (StepsR.cons rfl (stepR1 ?a11) (StepsR.cons rfl (stepR1 ?a12) (StepsR.cons rfl (stepR1 ?a13) (StepsR.cons rfl (stepR1 ?a14) (StepsR.cons rfl (stepR1 ?a15) (StepsR.cons rfl (stepR1 ?a16) StepsR.nil))))))))))))))))
              case a0x =>
                rw [q0]
                intro wx hx
                refine StepR.want (by kernel_rfl) ?_
                have hx2 := hx
                go_simp
                try first | exact hx2 | exact ⟨rfl, hx2⟩ | rfl
              case a0y =>
                rw [q1]
                intro wx hx
                refine StepR.want (by kernel_rfl) ?_
                have hx2 := hx
                go_simp
                try first | exact hx2 | exact ⟨rfl, hx2⟩ | rfl
              case a1x =>
                rw [q0]
                intro wx hx
                refine StepR.want (by kernel_rfl) ?_
                have hx2 := hx
                go_simp
                try first | exact hx2 | exact ⟨rfl, hx2⟩ | rfl
              case a1y =>
                rw [q1]
                intro wx hx
                refine StepR.want (by kernel_rfl) ?_
                have hx2 := hx
                go_simp
                try first | exact hx2 | exact ⟨rfl, hx2⟩ | rfl
              case a2x =>
                rw [q0]
                intro wx hx
                refine StepR.want (by kernel_rfl) ?_
                have hx2 := hx
                go_simp
                try first | exact hx2 | exact ⟨rfl, hx2⟩ | rfl
              case a2y =>
                rw [q1]
                intro wx hx
                refine StepR.want (by kernel_rfl) ?_
                have hx2 := hx
                go_simp
                try first | exact hx2 | exact ⟨rfl, hx2⟩ | rfl
              case a3x =>
                rw [q0]
                intro wx hx
                refine StepR.want (by kernel_rfl) ?_
                have hx2 := hx
                go_simp
                try first | exact hx2 | exact ⟨rfl, hx2⟩ | rfl
              case a3y =>
                rw [q1]
                intro wx hx
                refine StepR.want (by kernel_rfl) ?_
                have hx2 := hx
                go_simp
                try first | exact hx2 | exact ⟨rfl, hx2⟩ | rfl
              case a4x =>
                rw [q0]
                intro wx hx
                refine StepR.want (by kernel_rfl) ?_
                have hx2 := hx
                go_simp
                try first | exact hx2 | exact ⟨rfl, hx2⟩ | rfl
              case a4y =>
                rw [q1]
                intro wx hx
                refine StepR.want (by kernel_rfl) ?_
                have hx2 := hx
                go_simp
                try first | exact hx2 | exact ⟨rfl, hx2⟩ | rfl
              case a5x =>
                rw [q0]
                intro wx hx
                refine StepR.want (by kernel_rfl) ?_
                have hx2 := hx
                go_simp
                try first | exact hx2 | exact ⟨rfl, hx2⟩ | rfl
              case a5y =>
                rw [q1]
                intro wx hx
                refine StepR.want (by kernel_rfl) ?_
                have hx2 := hx
                go_simp
                try first | exact hx2 | exact ⟨rfl, hx2⟩ | rfl
              case a6x =>
                rw [q0]
                intro wx hx
                refine StepR.want (by kernel_rfl) ?_
                have hx2 := hx
                have c := HC2.out wx hx.bel.1
                go_simp
                try first | exact hx2 | exact ⟨rfl, hx2⟩ | rfl
              case a6y =>
                rw [q1]
                intro wx hx
                refine StepR.want (by kernel_rfl) ?_
                have hx2 := hx
                have c := HC2.out wx hx.bel.1
                go_simp
                try first | exact hx2 | exact ⟨rfl, hx2⟩ | rfl
              case a7 =>
                rw [q0]
                intro wx hx
                refine StepR.want (by kernel_rfl) ?_
                have hx2 := hx
                go_simp
                try first | exact hx2 | exact ⟨rfl, hx2⟩ | rfl
              case a8 =>
                rw [q0]
                intro wx hx
                refine StepR.want (by kernel_rfl) ?_
                have hx2 := hx
                go_simp
                try first | exact hx2 | exact ⟨rfl, hx2⟩ | rfl
              case a9 =>
                rw [q0]
                intro wx hx
                refine StepR.want (by kernel_rfl) ?_
                have hx2 := hx
                go_simp
                try first | exact hx2 | exact ⟨rfl, hx2⟩ | rfl
              case a10 =>
                rw [q0]
                intro wx hx
                refine StepR.want (by kernel_rfl) ?_
                have hx2 := hx
                go_simp
                try first | exact hx2 | exact ⟨rfl, hx2⟩ | rfl
              case a11 =>
                rw [q0]
                intro wx hx
                refine StepR.want (by kernel_rfl) ?_
                have hx2 := hx
                go_simp
                try first | exact hx2 | exact ⟨rfl, hx2⟩ | rfl
              case a12 =>
                rw [q0]
                intro wx hx
                refine StepR.want (by kernel_rfl) ?_
                have hx2 := hx
                go_simp
                try first | exact hx2 | exact ⟨rfl, hx2⟩ | rfl
              case a13 =>
                rw [q0]
                intro wx hx
                refine StepR.want (by kernel_rfl) ?_
                have hx2 := hx
                have c := HC2.out wx hx.bel.1
                go_simp
                try first | exact hx2 | exact ⟨rfl, hx2⟩ | rfl
              case a14 =>
                rw [q0, q1]
                intro wx hx
                refine StepR.want (by kernel_rfl) ?_
                go_simp
                refine (ot_write hx ((0 : Nat) : Int) (t : Int) z HBn.out).mono ?_
                rintro e w7 ⟨rfl, hb⟩
                rw [HW.out.1]
                exact ⟨rfl, hb.out⟩
              case a15 =>
                rw [q1]
                intro wx hx
                refine StepR.want (by kernel_rfl) ?_
                have hx2 := hx
                go_simp
                try first | exact hx2 | exact ⟨rfl, hx2⟩ | rfl
              case a16 =>
                rw [q1, q2]
                intro wx hx
                refine StepR.want (by kernel_rfl) ?_
                go_simp
                refine (ot_wrote hx t HTL.out z false HSL.out).mono ?_
                rintro e w7 ⟨rfl, hb⟩
                exact ⟨rfl, hb.out⟩
            case fina =>
              intro w7 hb
              have O7 := hid (show OT W.heap.size W w7 A (wrK k ((0 : Nat) : Int) (t : Int) z) tk (wrS f t z false) by have h9 : WP 2 w7 := hb; rwa [q2] at h9)
              clear hb q0 q1 q2
              have c0 := HC0.out w7 O7.out.bel.1
              go_wp2_with fail
              refine (ot_down O7.out).mono ?_
              rintro e w8 ⟨rfl, rfl⟩
              rw [HW.out.2.1]
              clear c0
              have HFKx := HFK
              go_wp2_with fail
              refine (ot_failed O7.out).mono ?_
              rintro e wa ⟨rfl, Ha⟩
              have Oa := hid Ha.out
              clear Ha O7
              have ca := HC3.out wa Oa.out.bel.1
              go_wp2_with fail
              refine (ot_keep Oa.out kp0 HFK.out).mono ?_
              rintro e wb ⟨g, cc, rfl, Hb⟩
              clear Oa ca
              go_wp2_with fail
              refine Hb.out.mono ?_
              rintro e wc ⟨rfl, Hc⟩
              obtain ⟨kp, hOc⟩ := Hc.out
              have Oc := hid hOc
              have HBK := hid (HWK.out.back kp)
              clear Hb Hc hOc HWK HFK
              generalize reK (wrK k ((0 : Nat) : Int) (t : Int) z) kp = kr at *
              generalize upto 5 pFail (wrS f t z false) = fr at *
              have HSR := hid (fun j (hj : j < 5) => HBK.out.1.sl j hj)
              go_wp2_with fail
              go_loopw [8] (fun jv wq => ∃ j : Nat, j ≤ 5 ∧ jv = .int .i64 (j : Int) ∧ Hid (OT W.heap.size W wq A kr tk (rdS kr fr j))) (fun jv _ => 5 - (intOf jv).toNat)
              case atStart => exact ⟨0, by omega, rfl, hid (by rw [rdS_zero]; exact Oc.out)⟩
              case round =>
                clear Oc
                obtain ⟨j, hj, rfl, OJ⟩ := hrel
                by_cases hj5 : j < 5
                · have hj5' : (j : Int) < 5 := by omega
                  have HR := hid (HBK.out.1.rd HBK.out.2.1 hj5)
                  have HC4 := hid (HBK.out.1.chk HBK.out.2.1 hj5).2
                  have HM := hid (HBK.out.2.2.2.1 j hj5)
                  have HSJ := hid (show (rdS kr fr j j).S.length ≤ 1000 by rw [rdS_at]; have := HSR.out j hj5; omega)
                  go_wp2_with fail
                  refine (ot_read OJ.out ((0 : Nat) : Int) (j : Int)).mono ?_
                  rintro e wd ⟨rfl, Hd⟩
                  rw [HR.out, HC4.out]
                  have Od := hid Hd.out
                  clear Hd OJ HR HC4
                  go_wp2_with fail
                  refine (ot_reads Od.out j hj5 _ (by rw [rdS_at]; exact HM.out.2) (by rw [rdS_at]; exact HM.out.1) HSJ.out).mono ?_
                  rintro e we ⟨rfl, He⟩
                  have Oe := hid (show OT W.heap.size W we A kr tk (rdS kr fr (j + 1)) by rw [← rdS_succ]; exact He.out)
                  clear He Od HM HSJ
                  go_wp2_with fail
                  go_roundw
                  case rel => exact ⟨j + 1, by omega, by go_num, Oe⟩
                  case measure => simp [intOf]; omega
                · obtain rfl : j = 5 := by omega
                  have hj5' : ¬ ((5 : Nat) : Int) < 5 := by omega
                  have HFl2 := hid HBK.out.2.2.2.2
                  clear HBK HSR
                  go_wp2_with fail
                  go_roundw
                  case rel => exact ⟨i + 1, kr, _, by omega, by go_num, OJ, HFl2⟩
                  case measure => simp [intOf]; omega


          · have HW := hid (HI.out.wr_ok htl z hf)
            have HDN := hid HW.out.2.down
            clear HI hf
            have HT := hid ht
            go_wp2_with fail
            clear hI hq1 hq2 ht x0 x1
            rw [show (y.tmod 5 + 5) % 5 = (t : Int) by have := HT.out; omega]
            obtain ⟨WP, q0, q1, q2⟩ : ∃ WP : Nat → World → Prop, WP 0 = (fun w' => OT W.heap.size W w' A k tk f) ∧ WP 1 = (fun w' => OT W.heap.size W w' A (wrK k ((0 : Nat) : Int) (t : Int) z) tk f) ∧ WP 2 = (fun w' => OT W.heap.size W w' A (wrK k ((0 : Nat) : Int) (t : Int) z) tk (wrS f t z true)) := ⟨fun n => match n with | 0 => (fun w' => OT W.heap.size W w' A k tk f) | 1 => (fun w' => OT W.heap.size W w' A (wrK k ((0 : Nat) : Int) (t : Int) z) tk f) | _ => (fun w' => OT W.heap.size W w' A (wrK k ((0 : Nat) : Int) (t : Int) z) tk (wrS f t z true)), rfl, rfl, rfl⟩
            refine (wpIn_wide (n := 5)).1 ?_
            refine wpIn_region_planR (ro := none) (aF := ?aFb) [.pointer (some ⟨tk, 0, none⟩), .int .i64 (t : Int), .slice (some ⟨b, o, none⟩) len cap, .int .i64 (i : Int), .pointer (some ⟨b, o + i * 4, none⟩), .pointer (some ⟨b, o + i * 4 + 2, none⟩), .int .u64 z, .pointer (some ⟨A, 0, none⟩), .int .i64 (t : Int), .slice (some ⟨b, o, none⟩) len cap, .int .i64 (i : Int), .pointer (some ⟨b, o + i * 4, none⟩), .pointer (some ⟨b, o + i * 4 + 2, none⟩), .int .u64 z, .int .i64 0, .bool true, .tuple #[]] ?hEb [] [14, 16] [[(0, 0), (1, 1)], [(0, 0), (1, 1)], [(0, 0), (1, 1)], [(0, 0), (1, 1)], [(0, 0), (1, 1)], [(0, 0), (1, 1)], [(0, 0), (1, 1)], [(0, 0)], [(0, 0)], [(0, 0)], [(0, 0)], [(0, 0)], [(0, 0)], [(0, 0)], [(0, 1)], [(1, 1)], [(1, 2)]] WP 119 ?hNb hmx (by kernel_rfl) (by kernel_rfl) ?haFb (by rw [q0]; exact ot_draw O.out) ?stb ?finb
            case hEb =>
              go_simp
              rfl
            case hNb => kernel_rfl
            case haFb => kernel_rfl
            case stb =>
              refine StepsR.cons rfl (step2 ?b0x ?b0y) (StepsR.cons rfl (step2 ?b1x ?b1y) (StepsR.cons rfl (step2 ?b2x ?b2y) (StepsR.cons rfl (step2 ?b3x ?b3y) (StepsR.cons rfl (step2 ?b4x ?b4y) (StepsR.cons rfl (step2 ?b5x ?b5y) (StepsR.cons rfl (step2 ?b6x ?b6y) (StepsR.cons rfl (stepR1 ?b7) (StepsR.cons rfl (stepR1 ?b8) (StepsR.cons rfl (stepR1 ?b9) (StepsR.cons rfl (stepR1 ?b10) (StepsR.cons rfl (stepR1 ?b11) (StepsR.cons rfl (stepR1 ?b12) (StepsR.cons rfl (stepR1 ?b13) (StepsR.cons rfl (stepR1 ?b14) (StepsR.cons rfl (stepR1 ?b15) (StepsR.cons rfl (stepR1 ?b16) StepsR.nil))))))))))))))))
              case b0x =>
                rw [q0]
                intro wx hx
                refine StepR.want (by kernel_rfl) ?_
                have hx2 := hx
                go_simp
                try first | exact hx2 | exact ⟨rfl, hx2⟩ | rfl
              case b0y =>
                rw [q1]
                intro wx hx
                refine StepR.want (by kernel_rfl) ?_
                have hx2 := hx
                go_simp
                try first | exact hx2 | exact ⟨rfl, hx2⟩ | rfl
              case b1x =>
                rw [q0]
                intro wx hx
                refine StepR.want (by kernel_rfl) ?_
                have hx2 := hx
                go_simp
                try first | exact hx2 | exact ⟨rfl, hx2⟩ | rfl
              case b1y =>
                rw [q1]
                intro wx hx
                refine StepR.want (by kernel_rfl) ?_
                have hx2 := hx
                go_simp
                try first | exact hx2 | exact ⟨rfl, hx2⟩ | rfl
              case b2x =>
                rw [q0]
                intro wx hx
                refine StepR.want (by kernel_rfl) ?_
                have hx2 := hx
                go_simp
                try first | exact hx2 | exact ⟨rfl, hx2⟩ | rfl
              case b2y =>
                rw [q1]
                intro wx hx
                refine StepR.want (by kernel_rfl) ?_
                have hx2 := hx
                go_simp
                try first | exact hx2 | exact ⟨rfl, hx2⟩ | rfl
              case b3x =>
                rw [q0]
                intro wx hx
                refine StepR.want (by kernel_rfl) ?_
                have hx2 := hx
                go_simp
                try first | exact hx2 | exact ⟨rfl, hx2⟩ | rfl
              case b3y =>
                rw [q1]
                intro wx hx
                refine StepR.want (by kernel_rfl) ?_
                have hx2 := hx
                go_simp
                try first | exact hx2 | exact ⟨rfl, hx2⟩ | rfl
              case b4x =>
                rw [q0]
                intro wx hx
                refine StepR.want (by kernel_rfl) ?_
                have hx2 := hx
                go_simp
                try first | exact hx2 | exact ⟨rfl, hx2⟩ | rfl
              case b4y =>
                rw [q1]
                intro wx hx
                refine StepR.want (by kernel_rfl) ?_
                have hx2 := hx
                go_simp
                try first | exact hx2 | exact ⟨rfl, hx2⟩ | rfl
              case b5x =>
                rw [q0]
                intro wx hx
                refine StepR.want (by kernel_rfl) ?_
                have hx2 := hx
                go_simp
                try first | exact hx2 | exact ⟨rfl, hx2⟩ | rfl
              case b5y =>
                rw [q1]
                intro wx hx
                refine StepR.want (by kernel_rfl) ?_
                have hx2 := hx
                go_simp
                try first | exact hx2 | exact ⟨rfl, hx2⟩ | rfl
              case b6x =>
                rw [q0]
                intro wx hx
                refine StepR.want (by kernel_rfl) ?_
                have hx2 := hx
                have c := HC2.out wx hx.bel.1
                go_simp
                try first | exact hx2 | exact ⟨rfl, hx2⟩ | rfl
              case b6y =>
                rw [q1]
                intro wx hx
                refine StepR.want (by kernel_rfl) ?_
                have hx2 := hx
                have c := HC2.out wx hx.bel.1
                go_simp
                try first | exact hx2 | exact ⟨rfl, hx2⟩ | rfl
              case b7 =>
                rw [q0]
                intro wx hx
                refine StepR.want (by kernel_rfl) ?_
                have hx2 := hx
                go_simp
                try first | exact hx2 | exact ⟨rfl, hx2⟩ | rfl
              case b8 =>
                rw [q0]
                intro wx hx
                refine StepR.want (by kernel_rfl) ?_
                have hx2 := hx
                go_simp
                try first | exact hx2 | exact ⟨rfl, hx2⟩ | rfl
              case b9 =>
                rw [q0]
                intro wx hx
                refine StepR.want (by kernel_rfl) ?_
                have hx2 := hx
                go_simp
                try first | exact hx2 | exact ⟨rfl, hx2⟩ | rfl
              case b10 =>
                rw [q0]
                intro wx hx
                refine StepR.want (by kernel_rfl) ?_
                have hx2 := hx
                go_simp
                try first | exact hx2 | exact ⟨rfl, hx2⟩ | rfl
              case b11 =>
                rw [q0]
                intro wx hx
                refine StepR.want (by kernel_rfl) ?_
                have hx2 := hx
                go_simp
                try first | exact hx2 | exact ⟨rfl, hx2⟩ | rfl
              case b12 =>
                rw [q0]
                intro wx hx
                refine StepR.want (by kernel_rfl) ?_
                have hx2 := hx
                go_simp
                try first | exact hx2 | exact ⟨rfl, hx2⟩ | rfl
              case b13 =>
                rw [q0]
                intro wx hx
                refine StepR.want (by kernel_rfl) ?_
                have hx2 := hx
                have c := HC2.out wx hx.bel.1
                go_simp
                try first | exact hx2 | exact ⟨rfl, hx2⟩ | rfl
              case b14 =>
                rw [q0, q1]
                intro wx hx
                refine StepR.want (by kernel_rfl) ?_
                go_simp
                refine (ot_write hx ((0 : Nat) : Int) (t : Int) z HBn.out).mono ?_
                rintro e w7 ⟨rfl, hb⟩
                rw [HW.out.1]
                exact ⟨rfl, hb.out⟩
              case b15 =>
                rw [q1]
                intro wx hx
                refine StepR.want (by kernel_rfl) ?_
                have hx2 := hx
                go_simp
                try first | exact hx2 | exact ⟨rfl, hx2⟩ | rfl
              case b16 =>
                rw [q1, q2]
                intro wx hx
                refine StepR.want (by kernel_rfl) ?_
                go_simp
                refine (ot_wrote hx t HTL.out z true HSL.out).mono ?_
                rintro e w7 ⟨rfl, hb⟩
                exact ⟨rfl, hb.out⟩
            case finb =>
              intro w7 hb
              have O7 := hid (show OT W.heap.size W w7 A (wrK k ((0 : Nat) : Int) (t : Int) z) tk (wrS f t z true) by have h9 : WP 2 w7 := hb; rwa [q2] at h9)
              clear hb q0 q1 q2
              have c0 := HC0.out w7 O7.out.bel.1
              go_wp2_with fail
              refine (ot_down O7.out).mono ?_
              rintro e w8 ⟨rfl, rfl⟩
              rw [HDN.out]
              go_wp2_with fail
              go_roundw
              case rel => exact ⟨i + 1, _, _, by omega, by go_num, O7, hid HW.out.2⟩
              case measure => simp [intOf]; omega

        · have k0b : ((F i).kind == 0) = false := by simpa using k0
          by_cases k2 : (F i).kind = 2
          · rw [k2] at x0 HC0
            clear k0 k0b k2
            have HFF := hid HI.out.flushed
            have HFL := hid (show k.F.length ≤ 2 ^ 32 by have := HI.out.wk.fl; omega)
            have HDN := hid HFF.out.2.down
            clear HI
            go_wp2_with fail
            refine (ot_flush O.out ((0 : Nat) : Int) HFL.out).mono ?_
            rintro e w2 ⟨rfl, H2⟩
            rw [HFF.out.1]
            have O2 := hid H2.out
            clear H2 O x0 x1
            go_wp2_with fail
            refine (ot_flushed O2.out).mono ?_
            rintro e w4 ⟨rfl, H4⟩
            have O4 := hid H4.out
            clear H4 O2
            have c0 := HC0.out w4 O4.out.bel.1
            go_wp2_with fail
            refine (ot_down O4.out).mono ?_
            rintro e w8 ⟨rfl, rfl⟩
            rw [HDN.out]
            go_wp2_with fail
            go_roundw
            case rel => exact ⟨i + 1, _, _, by omega, by go_num, O4, hid HFF.out.2⟩
            case measure => simp [intOf]; omega
          · have k2b : ((F i).kind == 2) = false := by simpa using k2
            by_cases k4 : (F i).kind = 4
            · rw [k4] at x0 HC0
              clear k0 k0b k2 k2b k4
              have HFF := hid (HI.out.fused htl)
              have HDN := hid HFF.out.down
              have ht5 : (t : Int) < 5 := by omega
              have ht0 : 0 ≤ (t : Int) := by omega
              clear HI
              go_wp2_with fail
              refine (ot_fuse O.out (1 + (t : Int))).mono ?_
              rintro e w4 ⟨rfl, H4⟩
              have O4 := hid H4.out
              clear H4 O x0 x1
              have c0 := HC0.out w4 O4.out.bel.1
              go_wp2_with fail
              refine (ot_down O4.out).mono ?_
              rintro e w8 ⟨rfl, rfl⟩
              rw [HDN.out]
              go_wp2_with fail
              go_roundw
              case rel => exact ⟨i + 1, _, _, by omega, by go_num, O4, HFF⟩
              case measure => simp [intOf]; omega
            · have k4b : ((F i).kind == 4) = false := by simpa using k4
              have HDN := hid HI.out.down
              by_cases k3 : (F i).kind = 3
              · rw [k3] at x0 HC0
                clear k0 k0b k2 k2b k4 k4b k3
                have HWK := hid HI.out.wk.more
                have HFK := hid (show k.F.length ≤ 2 ^ 32 by have := HI.out.wk.fl; omega)
                clear HI
                go_wp2_with fail
                refine (ot_down O.out).mono ?_
                rintro e w8 ⟨rfl, rfl⟩
                rw [HDN.out]
                have c0 := HC0.out w8 O.out.bel.1
                go_wp2_with fail
                clear x0 x1 c0
                refine (ot_failed O.out).mono ?_
                rintro e wa ⟨rfl, Ha⟩
                have Oa := hid Ha.out
                clear Ha O
                have ca := HC3.out wa Oa.out.bel.1
                go_wp2_with fail
                refine (ot_keep Oa.out kp0 HFK.out).mono ?_
                rintro e wb ⟨g, cc, rfl, Hb⟩
                clear Oa ca
                go_wp2_with fail
                refine Hb.out.mono ?_
                rintro e wc ⟨rfl, Hc⟩
                obtain ⟨kp, hOc⟩ := Hc.out
                have Oc := hid hOc
                have HBK := hid (HWK.out.back kp)
                clear Hb Hc hOc HWK HFK
                generalize reK k kp = kr at *
                generalize upto 5 pFail f = fr at *
                have HSR := hid (fun j (hj : j < 5) => HBK.out.1.sl j hj)
                go_wp2_with fail
                go_loopw [8] (fun jv wq => ∃ j : Nat, j ≤ 5 ∧ jv = .int .i64 (j : Int) ∧ Hid (OT W.heap.size W wq A kr tk (rdS kr fr j))) (fun jv _ => 5 - (intOf jv).toNat)
                case atStart => exact ⟨0, by omega, rfl, hid (by rw [rdS_zero]; exact Oc.out)⟩
                case round =>
                  clear Oc
                  obtain ⟨j, hj, rfl, OJ⟩ := hrel
                  by_cases hj5 : j < 5
                  · have hj5' : (j : Int) < 5 := by omega
                    have HR := hid (HBK.out.1.rd HBK.out.2.1 hj5)
                    have HC4 := hid (HBK.out.1.chk HBK.out.2.1 hj5).2
                    have HM := hid (HBK.out.2.2.2.1 j hj5)
                    have HSJ := hid (show (rdS kr fr j j).S.length ≤ 1000 by rw [rdS_at]; have := HSR.out j hj5; omega)
                    go_wp2_with fail
                    refine (ot_read OJ.out ((0 : Nat) : Int) (j : Int)).mono ?_
                    rintro e wd ⟨rfl, Hd⟩
                    rw [HR.out, HC4.out]
                    have Od := hid Hd.out
                    clear Hd OJ HR HC4
                    go_wp2_with fail
                    refine (ot_reads Od.out j hj5 _ (by rw [rdS_at]; exact HM.out.2) (by rw [rdS_at]; exact HM.out.1) HSJ.out).mono ?_
                    rintro e we ⟨rfl, He⟩
                    have Oe := hid (show OT W.heap.size W we A kr tk (rdS kr fr (j + 1)) by rw [← rdS_succ]; exact He.out)
                    clear He Od HM HSJ
                    go_wp2_with fail
                    go_roundw
                    case rel => exact ⟨j + 1, by omega, by go_num, Oe⟩
                    case measure => simp [intOf]; omega
                  · obtain rfl : j = 5 := by omega
                    have hj5' : ¬ ((5 : Nat) : Int) < 5 := by omega
                    have HFl2 := hid HBK.out.2.2.2.2
                    clear HBK HSR
                    go_wp2_with fail
                    go_roundw
                    case rel => exact ⟨i + 1, kr, _, by omega, by go_num, OJ, HFl2⟩
                    case measure => simp [intOf]; omega

              · have k3b : ((F i).kind == 3) = false := by simpa using k3
                generalize (F i).kind = kd at *
                have HFF := hid HI.out.more
                clear HI k0 k2 k4 k3
                go_wp2_with fail
                refine (ot_down O.out).mono ?_
                rintro e w8 ⟨rfl, rfl⟩
                rw [HDN.out]
                have c0 := HC0.out w8 O.out.bel.1
                go_wp2_with fail
                go_roundw
                case rel => exact ⟨i + 1, _, _, by omega, by go_num, O, HFF⟩
                case measure => simp [intOf]; omega
      · obtain rfl : i = len := by omega
        have hlt' : ¬ (i : Int) < (i : Int) := by omega
        clear HI
        go_wp2_with fail
        refine (awake_ok _).mono ?_
        rintro e w9 ⟨rfl, hb⟩
        have HBE := hid (show Below W.heap.size W w9 from O.out.bel.1.trans (hb.mono O.out.bel.2))
        clear hb O
        go_wp2_with fail
        go_ret
        exact ⟨rfl, HBE.out⟩
  · rw [decide_eq_false hfew] at HFW
    go_enter Try.func7, Try.ntmps7
    go_wp2_with fail
    refine HFW.out.mono ?_
    rintro e w0 ⟨rfl, rfl⟩
    go_wp2_with fail
    refine (awake_ok _).mono ?_
    rintro e w16 ⟨rfl, hb⟩
    have HBE := hid hb
    clear hb
    go_wp2_with fail
    go_ret
    exact ⟨rfl, HBE.out⟩

set_option maxRecDepth 100000 in
theorem lifted (os : Os) (started : os.Started) (H : Type) (enc : TypeId × Value → H) :
    ReturnsInHanded {} Try.checked os 7 .any (Rows.diskCandidatesSpec.pre6 enc Try.prog Try.f7 Rows.diskCandidatesRow.domain false) (Rows.diskCandidatesSpec.post enc Try.prog Try.f7 false true false false) := by
  refine returnsInHanded_of_change (C := Try.checked) own started (by kernel_rfl) Try.func7
    (ChangeSpec.witness6 (enc := enc) (C := Try.checked) false ⟨#[], #[.slice none 0 0], []⟩ 8 (by kernel_rfl) (by kernel_rfl) (by kernel_rfl) (by kernel_rfl)) ?_
  intro W base args ds gs before hval0 hW hcnd _
  have hval : ∀ (j : Nat) t v, Try.f7.params[j]? = some t → args[j]? = some v → Value.okWide Try.prog W .any base t v := hval0
  have hW' := hW
  obtain ⟨p, q, hA0, hV, rfl, hfz, hnd⟩ := hW
  have hA : DataW.TrodAll enc Try.prog W 0 (fun _ => true) true Try.f7.params.toList args.toList ds p := hA0
  rw [Try.params7] at hA hval
  obtain ⟨v0, vs0, d0, ds0, p0, q0, hargs, rfl, rfl, h0, r0⟩ := trodAll_cons hA
  obtain ⟨rfl, rfl, rfl⟩ := trodAll_nil r0
  obtain rfl : args = #[v0] := by cases args; simp_all
  obtain ⟨rfl, rfl⟩ := trodVars_none hV
  have k0 := h0
  have lt0 : ∀ x ∈ p0, x.block < W.heap.size := by obtain ⟨m, hm⟩ := k0; exact DataW.trod_lt m _ _ _ hm
  have ok0 := hval 0 30 v0 rfl rfl
  clear hA0 hval0
  refine (walk v0 W ok0 k0).mono fun e W' ⟨he, bel⟩ => ?_
  subst he
  exact ⟨_, rfl, _, _, _, [], _, [], hW', trodAll_mk1 (shut_bool Try.underlying4 _), (trodAll_cons_mk (Below.trod laidOut (by kernel_rfl) (of_decide_eq_true (by kernel_rfl)) k0 bel lt0) trodAll_mk0), rfl, bel.frame _, fun h => by cases h⟩

theorem over : Rows.diskCandidatesRow.holds Try.pinned (OpenSpec.ofChange Rows.diskCandidatesSpec) :=
  OpenClaim.holds_of_wide 7 Try.f7 rfl rfl rfl rfl rfl rfl rfl ⟨rfl, rfl, rfl, rfl, rfl⟩ rfl rfl rfl rfl rfl (by kernel_rfl) Try.func7 (by kernel_rfl)
    (of_decide_eq_true (by kernel_rfl)) (by unfold Func.isWrapper; first | (rw [if_pos (by decide +kernel)]; kernel_rfl) | (rw [if_neg (by decide +kernel)]; exact ⟨rfl, rfl⟩))
    (fun os started H enc _ => lifted os started H enc)

theorem proved : Rows.DiskCandidatesSaid := over
#print axioms proved
end Go.Proofs.Ytfaeieeokelokaa.diskCandidates
