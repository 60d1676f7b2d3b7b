/- The program's Restart. No conditions but those of each theorem. -/
import Derived.Test.YtfaeieeokelokaaJ
namespace Go.Proofs.Ytfaeieeokelokaa
open Go.ChangeShapes Go.WideShapes Go.ChangeAt Go.RowKit
set_option linter.unusedVariables false
set_option linter.unusedSimpArgs false
attribute [local go_sem] Oper.semAt_some putAll
/-- those of the first j unflushed writes that survive are durable -/
def rs1 (F : List Wr) (kp : Nat → Bool) (U : List Un) : Nat → List Un
  | 0 => U
  | j + 1 => if kp j = true then (rs1 F kp U j).set (gf F j).d { gu (rs1 F kp U j) (gf F j).d with dur := (gu (rs1 F kp U j) (gf F j).d).dur.set (gf F j).at' (gf F j).v } else rs1 F kp U j
/-- the sectors of the first j unflushed writes read what is durable -/
def rs2 (F : List Wr) (U : List Un) : Nat → List Un
  | 0 => U
  | j + 1 => (rs2 F U j).set (gf F j).d { gu (rs2 F U j) (gf F j).d with now := (gu (rs2 F U j) (gf F j).d).now.set (gf F j).at' (ge (gu (rs2 F U j) (gf F j).d).dur (gf F j).at') }
theorem rs1_keep (F : List Wr) (kp : Nat → Bool) (U : List Un) (j : Nat) : (rs1 F kp U j).length = U.length ∧ ∀ i, (gu (rs1 F kp U j) i).now = (gu U i).now ∧ (gu (rs1 F kp U j) i).mis = (gu U i).mis ∧ (gu (rs1 F kp U j) i).dur.length = (gu U i).dur.length := by
  induction j with
  | zero => exact ⟨rfl, fun i => ⟨rfl, rfl, rfl⟩⟩
  | succ j ih =>
    unfold rs1
    split
    · refine ⟨by rw [List.length_set]; exact ih.1, fun i => ?_⟩
      rw [gu_set]
      split
      · rename_i e; rw [e.1]; exact ⟨(ih.2 _).1, (ih.2 _).2.1, by rw [List.length_set]; exact (ih.2 _).2.2⟩
      · exact ih.2 i
    · exact ih
theorem rs2_keep (F : List Wr) (U : List Un) (j : Nat) : (rs2 F U j).length = U.length ∧ ∀ i, (gu (rs2 F U j) i).dur = (gu U i).dur ∧ (gu (rs2 F U j) i).mis = (gu U i).mis ∧ (gu (rs2 F U j) i).now.length = (gu U i).now.length := by
  induction j with
  | zero => exact ⟨rfl, fun i => ⟨rfl, rfl, rfl⟩⟩
  | succ j ih =>
    unfold rs2
    refine ⟨by rw [List.length_set]; exact ih.1, fun i => ?_⟩
    rw [gu_set]
    split
    · rename_i e; rw [e.1]; exact ⟨(ih.2 _).1, (ih.2 _).2.1, by rw [List.length_set]; exact (ih.2 _).2.2⟩
    · exact ih.2 i
/-- what Restart leaves -/
def reK (k : Dk) (kp : Nat → Bool) : Dk := { k with U := rs2 k.F (rs1 k.F kp k.U k.F.length) k.F.length, F := [], fuse := 0, down := false }
/-- a list of bools that is handed over -/
structure KB (W : World) (S : List Nat) (ka : Option Addr) (kn : Nat) (kp : Nat → Bool) : Prop where
  row : kn = 0 ∨ ∃ b, ka = some ⟨b, 0, none⟩ ∧ b < W.heap.size ∧ b ∉ S ∧ ∀ i, i < kn → W.cell? ⟨b, i, none⟩ = some (.bool (kp i))
  out : ∀ i, kn ≤ i → kp i = false
theorem KB.gr {W W' : World} {S : List Nat} {ka : Option Addr} {kn : Nat} {kp : Nat → Bool} (h : KB W S ka kn kp) (hg : Gr S W W') : KB W' S ka kn kp := by
  refine ⟨?_, h.out⟩
  rcases h.row with h0 | ⟨b, h1, h2, h3, h4⟩
  · exact .inl h0
  · exact .inr ⟨b, h1, Nat.lt_of_lt_of_le h2 hg.size, h3, fun i hi => (hg.cell (p := ⟨b, i, none⟩) h2 h3).trans (h4 i hi)⟩
/-- the cells of an unflushed write -/
theorem DA.wr3 {W : World} {A : Nat} {c : Co} {k : Dk} (h : DA W A c k) {j : Nat} (hj : j < k.F.length) : ∃ fb, c.fa = some ⟨fb, 0, none⟩ ∧ fb < W.heap.size ∧ W.cell? ⟨fb, j * 3, none⟩ = some (.int .i64 ((gf k.F j).d : Int)) ∧ W.cell? ⟨fb, j * 3 + 1, none⟩ = some (.int .i64 ((gf k.F j).at' : Int)) ∧ W.cell? ⟨fb, j * 3 + 2, none⟩ = some (.int .u64 (gf k.F j).v) := by
  obtain ⟨fb, hfb⟩ := own_pos h.rf (by omega)
  have hrf := h.rf
  rw [hfb] at hrf
  refine ⟨fb, hfb, own_lt hrf, ?_, ?_, ?_⟩
  · show W.cell? ⟨fb, j * 3 + 0, none⟩ = _
    rw [World.ownsRow.cellAt hrf _ (lt_mul (j := 0) hj (by omega)), ck_at (j := 0) _ hj (by omega)]; rfl
  · rw [World.ownsRow.cellAt hrf _ (lt_mul (j := 1) hj (by omega)), ck_at (j := 1) _ hj (by omega)]; rfl
  · rw [World.ownsRow.cellAt hrf _ (lt_mul (j := 2) hj (by omega)), ck_at (j := 2) _ hj (by omega)]; rfl
set_option maxRecDepth 100000 in
set_option maxHeartbeats 8000000 in
theorem restart_ok {W : World} {A : Nat} {c : Co} {k : Dk} (h : DA W A c k) (ka : Option Addr) (kn kc : Nat) (kp : Nat → Bool) (hK : KB W (fp A c) ka kn kp) (hkn : kn ≤ 2 ^ 32) (hF : k.F.length ≤ 2 ^ 32) :
    Calls Try.prog 16 #[.pointer (some ⟨A, 0, none⟩), .slice ka kn kc] W fun e W' => e = .returned (.tuple #[]) ∧ Hid (DA W' A { c with fa := none, fc := 0 } (reK k kp) ∧ Gr (fp A c) W W') := by
  have H := hid h
  have HK := hid hK
  have hb8 := h.b8
  have c2 := h.c2
  have hmx : Try.prog.follows .mixedOrders = true := by kernel_rfl
  clear h hK
  go_enter Try.func16, Try.ntmps16
  go_wp2_with fail
  clear c2
  go_loopw [16] (fun iv wr => ∃ j : Nat, j ≤ k.F.length ∧ iv = .int .i64 (j : Int) ∧ Hid (DA wr A c { k with U := rs1 k.F kp k.U j }) ∧ Hid (Gr (fp A c) W wr)) (fun iv _ => k.F.length - (intOf iv).toNat)
  case atStart => exact ⟨0, by omega, rfl, H, hid (Gr.refl _ _)⟩
  case round =>
    obtain ⟨j, hj, rfl, HDj, HGj⟩ := hrel
    by_cases hlt : j < k.F.length
    · have hlt' : (j : Int) < (k.F.length : Int) := by omega
      have hw3 : ∃ fb, c.fa = some ⟨fb, 0, none⟩ ∧ fb < wr.heap.size ∧ wr.cell? ⟨fb, j * 3, none⟩ = some (.int .i64 ((gf k.F j).d : Int)) ∧ wr.cell? ⟨fb, j * 3 + 1, none⟩ = some (.int .i64 ((gf k.F j).at' : Int)) ∧ wr.cell? ⟨fb, j * 3 + 2, none⟩ = some (.int .u64 (gf k.F j).v) := HDj.out.wr3 hlt
      obtain ⟨fb, hfb, hfbl, x0, x1, x2⟩ := hw3
      have hfi := H.out.fi j hlt
      have HR1 := hid (show rs1 k.F kp k.U (j + 1) = if kp j = true then (rs1 k.F kp k.U j).set (gf k.F j).d { gu (rs1 k.F kp k.U j) (gf k.F j).d with dur := (gu (rs1 k.F kp k.U j) (gf k.F j).d).dur.set (gf k.F j).at' (gf k.F j).v } else rs1 k.F kp k.U j from rfl)
      have HKU := hid (show (rs1 k.F kp k.U j).length = k.U.length ∧ ∀ i, (gu (rs1 k.F kp k.U j) i).now = (gu k.U i).now ∧ (gu (rs1 k.F kp k.U j) i).mis = (gu k.U i).mis from ⟨(rs1_keep _ _ _ _).1, fun i => ⟨((rs1_keep _ _ _ _).2 i).1, ((rs1_keep _ _ _ _).2 i).2.1⟩⟩)
      generalize hwx : gf k.F j = x at *
      obtain ⟨xd, xa, xv⟩ := x
      have hb2 := H.out.bn _ hfi.1
      have HFI := hid (show xd < k.U.length ∧ xa < (gu k.U xd).now.length from hfi)
      clear hwx
      have hkcase : (kp j = true ∧ j < kn ∧ ∃ b, ka = some ⟨b, 0, none⟩ ∧ b < wr.heap.size ∧ wr.cell? ⟨b, j, none⟩ = some (.bool true)) ∨ (kp j = false ∧ j < kn ∧ ∃ b, ka = some ⟨b, 0, none⟩ ∧ b < wr.heap.size ∧ wr.cell? ⟨b, j, none⟩ = some (.bool false)) ∨ (kp j = false ∧ ¬ j < kn) := by
        have hKr := HK.out.gr HGj.out
        by_cases hjk : j < kn
        · rcases hKr.row with h0 | ⟨b, h1, h2, h3, h4⟩
          · omega
          · have h5 := h4 j hjk
            cases hkp : kp j with
            | true => rw [hkp] at h5; exact .inl ⟨rfl, hjk, b, h1, h2, h5⟩
            | false => rw [hkp] at h5; exact .inr (.inl ⟨rfl, hjk, b, h1, h2, h5⟩)
        · exact .inr (.inr ⟨hKr.out j (by omega), hjk⟩)
      rcases hkcase with ⟨hkp, hjk, b, rfl, hbl, hcb⟩ | ⟨hkp, hjk, b, rfl, hbl, hcb⟩ | ⟨hkp, hjk⟩
      · have HR := hid (fun (w : World) (hw : DA w A c { k with U := (rs1 k.F kp k.U j).set xd { gu (rs1 k.F kp k.U j) xd with dur := (gu (rs1 k.F kp k.U j) xd).dur.set xa xv } }) => show DA w A c { k with U := rs1 k.F kp k.U (j + 1) } by rw [HR1.out, if_pos hkp]; exact hw)
        have hdU : xd < (rs1 k.F kp k.U j).length := by rw [HKU.out.1]; exact hfi.1
        have hjk' : (j : Int) < (kn : Int) := by omega
        generalize rs1 k.F kp k.U j = Uj at *
        clear HR1 hkp
        rw [hfb]
        have hW1 := (Below.refl wr.heap.size wr).alloc (Nat.le_refl _) (.cells #[.int .i64 (xd : Int), .int .i64 (xa : Int), .int .u64 xv] 89)
        have yd : (wr.alloc (.cells #[.int .i64 (xd : Int), .int .i64 (xa : Int), .int .u64 xv] 89)).drew.cell? ⟨wr.heap.size, 0, none⟩ = some (.int .i64 (xd : Int)) := by go_simp
        have y0 : (wr.alloc (.cells #[.int .i64 (xd : Int), .int .i64 (xa : Int), .int .u64 xv] 89)).drew.cell? ⟨wr.heap.size, 1, none⟩ = some (.int .i64 (xa : Int)) := by go_simp
        have y1 : (wr.alloc (.cells #[.int .i64 (xd : Int), .int .i64 (xa : Int), .int .u64 xv] 89)).drew.cell? ⟨wr.heap.size, 2, none⟩ = some (.int .u64 xv) := by go_simp
        have hD0 := HDj.out.below hW1.drew
        have hG0 := HGj.out.trans (Gr.of_below hW1.drew (fp A c))
        obtain ⟨V0, hV0⟩ : ∃ V0, V0 = (wr.alloc (.cells #[.int .i64 (xd : Int), .int .i64 (xa : Int), .int .u64 xv] 89)).drew := ⟨_, rfl⟩
        rw [← hV0] at yd y0 y1 hD0 hG0
        have HZ0 := hid (show V0 = { (wr.alloc (.cells #[.int .i64 (xd : Int), .int .i64 (xa : Int), .int .u64 xv] 89)) with drawn := (wr.alloc (.cells #[.int .i64 (xd : Int), .int .i64 (xa : Int), .int .u64 xv] 89)).drawn + 1 } from hV0)
        have z0 := hD0.c0
        obtain ⟨ub, hub, hul, -, z1, -, -⟩ := hD0.unit (d := xd) (by exact hdU)
        have z2 := (hD0.rd xd hdU).at xa (by rw [hD0.ld xd hdU]; show xa < (gu Uj xd).now.length; rw [(HKU.out.2 xd).1]; exact hfi.2)
        have zf := (hD0.rd xd hdU).frozen xa
        have HS := hid (hD0.setDur (t := xa) (d := xd) hdU xv)
        have HSG := hid (hG0.trans ((set_gr V0 (gb c.bs xd).d xa (.int .u64 xv)).mono (T := fp A c) (fun x hx => by obtain rfl := List.mem_singleton.1 hx; exact fp_d (by rw [hD0.lb]; exact hdU))))
        rw [show ({ k with U := Uj } : Dk).U = Uj from rfl, hub] at z0
        rw [show ({ k with U := Uj } : Dk).U = Uj from rfl, (HKU.out.2 xd).1] at z1
        have Z0 := hid z0; have Z1 := hid z1; have Z2 := hid z2; have ZF := hid zf; have YD := hid yd; have Y0 := hid y0; have Y1 := hid y1
        have HLU := hid (show xd < Uj.length ∧ Uj.length ≤ 8 from ⟨hdU, hD0.b8⟩)
        clear z0 z1 z2 zf yd y0 y1 hub hD0 hG0 hV0 hW1 HDj
        go_wp2_with fail
        obtain ⟨Ws, w0, w1⟩ : ∃ Ws : Nat → World, Ws 0 = V0 ∧ Ws 1 = V0.setCell ⟨(gb c.bs xd).d, xa, none⟩ (.int .u64 xv) := ⟨fun q => match q with | 0 => V0 | _ => V0.setCell ⟨(gb c.bs xd).d, xa, none⟩ (.int .u64 xv), rfl, rfl⟩
        refine (wpIn_wide (n := 5)).1 ?_
        refine wpIn_region_plan_v (ro := none) (aF := ?aFh) [.pointer (some ⟨A, 0, none⟩), .pointer (some ⟨A, 0, none⟩), .pointer (some ⟨A, 0, none⟩), .slice (some ⟨ub, 0, none⟩) Uj.length c.uc, .pointer (some ⟨wr.heap.size, 0, none⟩), .pointer (some ⟨wr.heap.size, 0, none⟩), .int .i64 (xd : Int), .pointer (some ⟨ub, xd * 3, none⟩), .pointer (some ⟨ub, xd * 3 + 1, none⟩), .slice (some ⟨(gb c.bs xd).d, 0, none⟩) (gu k.U xd).now.length (gb c.bs xd).cd, .pointer (some ⟨wr.heap.size, 0, none⟩), .pointer (some ⟨wr.heap.size, 1, none⟩), .int .i64 (xa : Int), .pointer (some ⟨wr.heap.size, 2, none⟩), .int .u64 xv, .pointer (some ⟨(gb c.bs xd).d, xa, none⟩), undef] ?hEh [] [16] [[(0, 0)], [(0, 0)], [(0, 0)], [(0, 0)], [(0, 0)], [(0, 0)], [(0, 0)], [(0, 0)], [(0, 0)], [(0, 0)], [(0, 0)], [(0, 0)], [(0, 0)], [(0, 0)], [(0, 0)], [(0, 0)], [(0, 1)]] Ws 86 ?hNh hmx (by kernel_rfl) (by kernel_rfl) ?haFh (w0.trans HZ0.out) ?sth ?finh
        case hEh =>
          go_simp
          rfl
        case hNh => kernel_rfl
        case haFh => kernel_rfl
        case sth =>
         refine StepsP.cons rfl (any_steps (by kernel_rfl) ?sh0) (StepsP.cons rfl (any_steps (by kernel_rfl) ?sh1) (StepsP.cons rfl (any_steps (by kernel_rfl) ?sh2) (StepsP.cons rfl (step1 ?sh3_0) (StepsP.cons rfl (any_steps (by kernel_rfl) ?sh4) (StepsP.cons rfl (any_steps (by kernel_rfl) ?sh5) (StepsP.cons rfl (step1 ?sh6_0) (StepsP.cons rfl (any_steps (by kernel_rfl) ?sh7) (StepsP.cons rfl (any_steps (by kernel_rfl) ?sh8) (StepsP.cons rfl (step1 ?sh9_0) (StepsP.cons rfl (any_steps (by kernel_rfl) ?sh10) (StepsP.cons rfl (any_steps (by kernel_rfl) ?sh11) (StepsP.cons rfl (step1 ?sh12_0) (StepsP.cons rfl (any_steps (by kernel_rfl) ?sh13) (StepsP.cons rfl (step1 ?sh14_0) (StepsP.cons rfl (any_steps (by kernel_rfl) ?sh15) (StepsP.cons rfl (step1 ?sh16_0) StepsP.nil))))))))))))))))
         case sh0 =>
          intro _
          refine StepP.want (by kernel_rfl) ?_
          go_simp
         case sh1 =>
          intro _
          refine StepP.want (by kernel_rfl) ?_
          go_simp
         case sh2 =>
          intro _
          refine StepP.want (by kernel_rfl) ?_
          go_simp
         case sh3_0 =>
          rw [w0]
          refine StepP.want (by kernel_rfl) ?_
          have c := Z0.out
          go_simp
         case sh4 =>
          intro _
          refine StepP.want (by kernel_rfl) ?_
          go_simp
         case sh5 =>
          intro _
          refine StepP.want (by kernel_rfl) ?_
          go_simp
         case sh6_0 =>
          rw [w0]
          refine StepP.want (by kernel_rfl) ?_
          have c := YD.out
          go_simp
         case sh7 =>
          intro _
          refine StepP.want (by kernel_rfl) ?_
          have c := HLU.out.1
          go_simp
         case sh8 =>
          intro _
          refine StepP.want (by kernel_rfl) ?_
          go_simp
         case sh9_0 =>
          rw [w0]
          refine StepP.want (by kernel_rfl) ?_
          have c := Z1.out
          go_simp
         case sh10 =>
          intro _
          refine StepP.want (by kernel_rfl) ?_
          go_simp
         case sh11 =>
          intro _
          refine StepP.want (by kernel_rfl) ?_
          go_simp
         case sh12_0 =>
          rw [w0]
          refine StepP.want (by kernel_rfl) ?_
          have c := Y0.out
          go_simp
         case sh13 =>
          intro _
          refine StepP.want (by kernel_rfl) ?_
          go_simp
         case sh14_0 =>
          rw [w0]
          refine StepP.want (by kernel_rfl) ?_
          have c := Y1.out
          go_simp
         case sh15 =>
          intro _
          refine StepP.want (by kernel_rfl) ?_
          have c := HFI.out.2
          go_simp
         case sh16_0 =>
          rw [w0, w1]
          refine StepP.want (by kernel_rfl) ?_
          have c := Z2.out
          have c2 := ZF.out
          go_simp
        case finh =>
          have e9 : Ws ([16] : List Nat).length = V0.setCell ⟨(gb c.bs xd).d, xa, none⟩ (.int .u64 xv) := w1
          rw [e9]
          clear e9 w0 w1
          clear Z0 Z1 Z2 ZF YD Y0 Y1 HZ0
          generalize V0.setCell ⟨(gb c.bs xd).d, xa, none⟩ (.int .u64 xv) = w3 at *
          go_wp2_with fail
          go_roundw
          case rel => exact ⟨j + 1, by omega, by go_num, hid (HR.out _ HS.out), HSG⟩
          case measure => simp [intOf]; omega
      · have HR := hid (show DA wr A c { k with U := rs1 k.F kp k.U (j + 1) } by rw [HR1.out, if_neg (by rw [hkp]; simp)]; exact HDj.out)
        have HW1 := hid (Gr.of_below ((Below.refl wr.heap.size wr).alloc (Nat.le_refl _) (.cells #[.int .i64 (xd : Int), .int .i64 (xa : Int), .int .u64 xv] 89)) [])
        have hjk' : (j : Int) < (kn : Int) := by omega
        rw [hfb]
        clear HR1 hkp HDj HKU
        go_wp2_with fail
        go_roundw
        case rel => exact ⟨j + 1, by omega, by go_num, hid (HR.out.gr HW1.out (fun _ _ => by simp)), hid (HGj.out.trans (HW1.out.mono (by simp)))⟩
        case measure => simp [intOf]; omega
      · have HR := hid (show DA wr A c { k with U := rs1 k.F kp k.U (j + 1) } by rw [HR1.out, if_neg (by rw [hkp]; simp)]; exact HDj.out)
        have HW1 := hid (Gr.of_below ((Below.refl wr.heap.size wr).alloc (Nat.le_refl _) (.cells #[.int .i64 (xd : Int), .int .i64 (xa : Int), .int .u64 xv] 89)) [])
        have hjk' : decide (j < kn) = false := decide_eq_false (by omega)
        rw [hfb]
        clear HR1 hkp HDj HKU hjk
        go_wp2_with fail
        go_roundw
        case rel => exact ⟨j + 1, by omega, by go_num, hid (HR.out.gr HW1.out (fun _ _ => by simp)), hid (HGj.out.trans (HW1.out.mono (by simp)))⟩
        case measure => simp [intOf]; omega
    · have hjl : j = k.F.length := by omega
      have hlt' : ¬ (j : Int) < (k.F.length : Int) := by omega
      rw [hjl] at HDj ⊢
      clear hjl hlt hlt' hj
      generalize hU1 : rs1 k.F kp k.U k.F.length = U1 at *
      have HU1 := hid hU1
      have HKU1 := hid (show U1.length = k.U.length ∧ ∀ i, (gu U1 i).now = (gu k.U i).now ∧ (gu U1 i).mis = (gu k.U i).mis from by rw [← hU1]; exact ⟨(rs1_keep _ _ _ _).1, fun i => ⟨((rs1_keep _ _ _ _).2 i).1, ((rs1_keep _ _ _ _).2 i).2.1⟩⟩)
      clear hU1
      generalize wr = w1 at *
      go_wp2_with fail
      go_loopw [50] (fun iv wr => ∃ j : Nat, j ≤ k.F.length ∧ iv = .int .i64 (j : Int) ∧ Hid (DA wr A c { k with U := rs2 k.F U1 j }) ∧ Hid (Gr (fp A c) W wr)) (fun iv _ => k.F.length - (intOf iv).toNat)
      case atStart => exact ⟨0, by omega, rfl, HDj, HGj⟩
      case round =>
        clear HDj HGj
        obtain ⟨j, hj, rfl, HDj, HGj⟩ := hrel
        by_cases hlt : j < k.F.length
        · have hlt' : (j : Int) < (k.F.length : Int) := by omega
          have hw3 : ∃ fb, c.fa = some ⟨fb, 0, none⟩ ∧ fb < wr.heap.size ∧ wr.cell? ⟨fb, j * 3, none⟩ = some (.int .i64 ((gf k.F j).d : Int)) ∧ wr.cell? ⟨fb, j * 3 + 1, none⟩ = some (.int .i64 ((gf k.F j).at' : Int)) ∧ wr.cell? ⟨fb, j * 3 + 2, none⟩ = some (.int .u64 (gf k.F j).v) := HDj.out.wr3 hlt
          obtain ⟨fb, hfb, hfbl, x0, x1, x2⟩ := hw3
          have hfi := H.out.fi j hlt
          have HR1 := hid (show rs2 k.F U1 (j + 1) = (rs2 k.F U1 j).set (gf k.F j).d { gu (rs2 k.F U1 j) (gf k.F j).d with now := (gu (rs2 k.F U1 j) (gf k.F j).d).now.set (gf k.F j).at' (ge (gu (rs2 k.F U1 j) (gf k.F j).d).dur (gf k.F j).at') } from rfl)
          have HKU := hid (show (rs2 k.F U1 j).length = k.U.length ∧ (gu (rs2 k.F U1 j) (gf k.F j).d).now.length = (gu k.U (gf k.F j).d).now.length from ⟨(rs2_keep _ _ _).1.trans HKU1.out.1, by rw [((rs2_keep _ _ _).2 _).2.2, (HKU1.out.2 _).1]⟩)
          have HKM := hid (show (gu (rs2 k.F U1 j) (gf k.F j).d).mis = (gu k.U (gf k.F j).d).mis from ((rs2_keep _ _ _).2 _).2.1.trans (HKU1.out.2 _).2)
          generalize hwx : gf k.F j = x at *
          obtain ⟨xd, xa, xv⟩ := x
          have hb2 := H.out.bn _ hfi.1
          have HFI := hid (show xd < k.U.length ∧ xa < (gu k.U xd).now.length from hfi)
          clear hwx
          have HR := hid (fun (w : World) (hw : DA w A c { k with U := (rs2 k.F U1 j).set xd { gu (rs2 k.F U1 j) xd with now := (gu (rs2 k.F U1 j) xd).now.set xa (ge (gu (rs2 k.F U1 j) xd).dur xa) } }) => show DA w A c { k with U := rs2 k.F U1 (j + 1) } by rw [HR1.out]; exact hw)
          have hdU : xd < (rs2 k.F U1 j).length := by rw [HKU.out.1]; exact hfi.1
          generalize rs2 k.F U1 j = Uj at *
          clear HR1
          rw [hfb]
          have hW1 := (Below.refl wr.heap.size wr).alloc (Nat.le_refl _) (.cells #[.int .i64 (xd : Int), .int .i64 (xa : Int), .int .u64 xv] 89)
          have yd : (wr.alloc (.cells #[.int .i64 (xd : Int), .int .i64 (xa : Int), .int .u64 xv] 89)).drew.cell? ⟨wr.heap.size, 0, none⟩ = some (.int .i64 (xd : Int)) := by go_simp
          have y0 : (wr.alloc (.cells #[.int .i64 (xd : Int), .int .i64 (xa : Int), .int .u64 xv] 89)).drew.cell? ⟨wr.heap.size, 1, none⟩ = some (.int .i64 (xa : Int)) := by go_simp
          have hD0 := HDj.out.below hW1.drew
          have hG0 := HGj.out.trans (Gr.of_below hW1.drew (fp A c))
          have hsz : (wr.alloc (.cells #[.int .i64 (xd : Int), .int .i64 (xa : Int), .int .u64 xv] 89)).drew.heap.size = wr.heap.size + 1 := by simp
          obtain ⟨V0, hV0⟩ : ∃ V0, V0 = (wr.alloc (.cells #[.int .i64 (xd : Int), .int .i64 (xa : Int), .int .u64 xv] 89)).drew := ⟨_, rfl⟩
          rw [← hV0] at yd y0 hD0 hG0 hsz
          have HZ0 := hid (show V0 = { (wr.alloc (.cells #[.int .i64 (xd : Int), .int .i64 (xa : Int), .int .u64 xv] 89)) with drawn := (wr.alloc (.cells #[.int .i64 (xd : Int), .int .i64 (xa : Int), .int .u64 xv] 89)).drawn + 1 } from hV0)
          have z0 := hD0.c0
          obtain ⟨ub, hub, hul, z1, z2, z3, -⟩ := hD0.unit (d := xd) (by exact hdU)
          have hAl := hD0.lt
          rw [show ({ k with U := Uj } : Dk).U = Uj from rfl, hub] at z0
          rw [show ({ k with U := Uj } : Dk).U = Uj from rfl, HKU.out.2] at z1 z2
          rw [show ({ k with U := Uj } : Dk).U = Uj from rfl, HKM.out] at z3
          have Z0 := hid z0; have Z1 := hid z1; have Z2 := hid z2; have Z3 := hid z3; have YD := hid yd; have Y0 := hid y0
          have HLU := hid (show xd < Uj.length ∧ Uj.length ≤ 8 from ⟨hdU, hD0.b8⟩)
          have HLS := hid (show A < V0.heap.size ∧ wr.heap.size < V0.heap.size ∧ ub < V0.heap.size from ⟨hAl, by omega, hul⟩)
          have HD0 := hid hD0; have HG0 := hid hG0
          clear z0 z1 z2 z3 yd y0 hub hD0 hG0 hV0 hW1 HDj hsz hAl HKM
          go_wp2_with fail
          obtain ⟨Ws, w0, w1, w2⟩ : ∃ Ws : Nat → World, Ws 0 = V0 ∧ Ws 1 = V0.alloc (.cells #[.slice none 0 0, .slice none 0 0, .bool false] 80) ∧ Ws 2 = V0.alloc (.cells #[.slice (some ⟨(gb c.bs xd).n, 0, none⟩) (gu k.U xd).now.length (gb c.bs xd).cn, .slice (some ⟨(gb c.bs xd).d, 0, none⟩) (gu k.U xd).now.length (gb c.bs xd).cd, .bool (gu k.U xd).mis] 80) := ⟨fun q => match q with | 0 => V0 | 1 => V0.alloc (.cells #[.slice none 0 0, .slice none 0 0, .bool false] 80) | _ => V0.alloc (.cells #[.slice (some ⟨(gb c.bs xd).n, 0, none⟩) (gu k.U xd).now.length (gb c.bs xd).cn, .slice (some ⟨(gb c.bs xd).d, 0, none⟩) (gu k.U xd).now.length (gb c.bs xd).cd, .bool (gu k.U xd).mis] 80), rfl, rfl, rfl⟩
          refine (wpIn_wide (n := 5)).1 ?_
          refine wpIn_region_plan_v (ro := none) (aF := ?aFn) [.pointer (some ⟨A, 0, none⟩), .pointer (some ⟨A, 0, none⟩), .pointer (some ⟨A, 0, none⟩), .slice (some ⟨ub, 0, none⟩) Uj.length c.uc, .pointer (some ⟨wr.heap.size, 0, none⟩), .pointer (some ⟨wr.heap.size, 0, none⟩), .int .i64 (xd : Int), .pointer (some ⟨ub, xd * 3, none⟩), .agg #[.slice (some ⟨(gb c.bs xd).n, 0, none⟩) (gu k.U xd).now.length (gb c.bs xd).cn, .slice (some ⟨(gb c.bs xd).d, 0, none⟩) (gu k.U xd).now.length (gb c.bs xd).cd, .bool (gu k.U xd).mis], .pointer (some ⟨V0.heap.size, 0, none⟩), undef] ?hEn [] [9, 10] [[(0, 0), (1, 1)], [(0, 0), (1, 1)], [(0, 0), (1, 1)], [(0, 0), (1, 1)], [(0, 0), (1, 1)], [(0, 0), (1, 1)], [(0, 0), (1, 1)], [(0, 0), (1, 1)], [(0, 0), (1, 1)], [(0, 1)], [(1, 2)]] Ws 86 ?hNn hmx (by kernel_rfl) (by kernel_rfl) ?haFn (w0.trans HZ0.out) ?stn ?finn
          case hEn =>
            go_simp
            rfl
          case hNn => kernel_rfl
          case haFn => kernel_rfl
          case stn =>
           refine StepsP.cons rfl (any_steps (by kernel_rfl) ?sn0) (StepsP.cons rfl (any_steps (by kernel_rfl) ?sn1) (StepsP.cons rfl (any_steps (by kernel_rfl) ?sn2) (StepsP.cons rfl (step2 ?sn3_0 ?sn3_1) (StepsP.cons rfl (any_steps (by kernel_rfl) ?sn4) (StepsP.cons rfl (any_steps (by kernel_rfl) ?sn5) (StepsP.cons rfl (step2 ?sn6_0 ?sn6_1) (StepsP.cons rfl (any_steps (by kernel_rfl) ?sn7) (StepsP.cons rfl (step2 ?sn8_0 ?sn8_1) (StepsP.cons rfl (step1 ?sn9_0) (StepsP.cons rfl (step1 ?sn10_0) StepsP.nil))))))))))
           case sn0 =>
            intro _
            refine StepP.want (by kernel_rfl) ?_
            go_simp
           case sn1 =>
            intro _
            refine StepP.want (by kernel_rfl) ?_
            go_simp
           case sn2 =>
            intro _
            refine StepP.want (by kernel_rfl) ?_
            go_simp
           case sn3_0 =>
            rw [w0]
            refine StepP.want (by kernel_rfl) ?_
            have c := Z0.out
            have c2 := HLS.out.1
            go_simp
           case sn3_1 =>
            rw [w1]
            refine StepP.want (by kernel_rfl) ?_
            have c := Z0.out
            have c2 := HLS.out.1
            go_simp
           case sn4 =>
            intro _
            refine StepP.want (by kernel_rfl) ?_
            go_simp
           case sn5 =>
            intro _
            refine StepP.want (by kernel_rfl) ?_
            go_simp
           case sn6_0 =>
            rw [w0]
            refine StepP.want (by kernel_rfl) ?_
            have c := YD.out
            have c2 := HLS.out.2.1
            go_simp
           case sn6_1 =>
            rw [w1]
            refine StepP.want (by kernel_rfl) ?_
            have c := YD.out
            have c2 := HLS.out.2.1
            go_simp
           case sn7 =>
            intro _
            refine StepP.want (by kernel_rfl) ?_
            have c := HLU.out.1
            go_simp
           case sn8_0 =>
            rw [w0]
            refine StepP.want (by kernel_rfl) ?_
            have c := Z1.out
            have d := Z2.out
            have e := Z3.out
            have c2 := HLS.out.2.2
            go_simp
           case sn8_1 =>
            rw [w1]
            refine StepP.want (by kernel_rfl) ?_
            have c := Z1.out
            have d := Z2.out
            have e := Z3.out
            have c2 := HLS.out.2.2
            go_simp
           case sn9_0 =>
            rw [w0, w1]
            refine StepP.want (by kernel_rfl) ?_
            go_simp
           case sn10_0 =>
            rw [w1, w2]
            refine StepP.want (by kernel_rfl) ?_
            go_simp
          case finn =>
            have e9 : Ws ([9, 10] : List Nat).length = V0.alloc (.cells #[.slice (some ⟨(gb c.bs xd).n, 0, none⟩) (gu k.U xd).now.length (gb c.bs xd).cn, .slice (some ⟨(gb c.bs xd).d, 0, none⟩) (gu k.U xd).now.length (gb c.bs xd).cd, .bool (gu k.U xd).mis] 80) := w2
            rw [e9]
            clear e9 w0 w1 w2
            clear Z0 Z1 Z2 Z3 YD HZ0
            go_wp2_with fail
            have hX1 := (Below.refl V0.heap.size V0).alloc (Nat.le_refl _) (.cells #[.slice (some ⟨(gb c.bs xd).n, 0, none⟩) (gu k.U xd).now.length (gb c.bs xd).cn, .slice (some ⟨(gb c.bs xd).d, 0, none⟩) (gu k.U xd).now.length (gb c.bs xd).cd, .bool (gu k.U xd).mis] 80)
            have a0 : (V0.alloc (.cells #[.slice (some ⟨(gb c.bs xd).n, 0, none⟩) (gu k.U xd).now.length (gb c.bs xd).cn, .slice (some ⟨(gb c.bs xd).d, 0, none⟩) (gu k.U xd).now.length (gb c.bs xd).cd, .bool (gu k.U xd).mis] 80)).drew.cell? ⟨V0.heap.size, 0, none⟩ = some (.slice (some ⟨(gb c.bs xd).n, 0, none⟩) (gu k.U xd).now.length (gb c.bs xd).cn) := by go_simp
            have a1 : (V0.alloc (.cells #[.slice (some ⟨(gb c.bs xd).n, 0, none⟩) (gu k.U xd).now.length (gb c.bs xd).cn, .slice (some ⟨(gb c.bs xd).d, 0, none⟩) (gu k.U xd).now.length (gb c.bs xd).cd, .bool (gu k.U xd).mis] 80)).drew.cell? ⟨V0.heap.size, 1, none⟩ = some (.slice (some ⟨(gb c.bs xd).d, 0, none⟩) (gu k.U xd).now.length (gb c.bs xd).cd) := by go_simp
            have a2 : (V0.alloc (.cells #[.slice (some ⟨(gb c.bs xd).n, 0, none⟩) (gu k.U xd).now.length (gb c.bs xd).cn, .slice (some ⟨(gb c.bs xd).d, 0, none⟩) (gu k.U xd).now.length (gb c.bs xd).cd, .bool (gu k.U xd).mis] 80)).drew.cell? ⟨wr.heap.size, 1, none⟩ = some (.int .i64 (xa : Int)) := (hX1.drew.cell (p := ⟨wr.heap.size, 1, none⟩) HLS.out.2.1).trans Y0.out
            have hD1 := HD0.out.below hX1.drew
            have hG1 := HG0.out.trans (Gr.of_below hX1.drew (fp A c))
            obtain ⟨X0, hX0⟩ : ∃ X0, X0 = (V0.alloc (.cells #[.slice (some ⟨(gb c.bs xd).n, 0, none⟩) (gu k.U xd).now.length (gb c.bs xd).cn, .slice (some ⟨(gb c.bs xd).d, 0, none⟩) (gu k.U xd).now.length (gb c.bs xd).cd, .bool (gu k.U xd).mis] 80)).drew := ⟨_, rfl⟩
            rw [← hX0] at a0 a1 a2 hD1 hG1
            have HX0 := hid (show X0 = { (V0.alloc (.cells #[.slice (some ⟨(gb c.bs xd).n, 0, none⟩) (gu k.U xd).now.length (gb c.bs xd).cn, .slice (some ⟨(gb c.bs xd).d, 0, none⟩) (gu k.U xd).now.length (gb c.bs xd).cd, .bool (gu k.U xd).mis] 80)) with drawn := (V0.alloc (.cells #[.slice (some ⟨(gb c.bs xd).n, 0, none⟩) (gu k.U xd).now.length (gb c.bs xd).cn, .slice (some ⟨(gb c.bs xd).d, 0, none⟩) (gu k.U xd).now.length (gb c.bs xd).cd, .bool (gu k.U xd).mis] 80)).drawn + 1 } from hX0)
            have a3 := (hD1.rd xd HLU.out.1).at xa (by rw [hD1.ld xd HLU.out.1]; show xa < (gu Uj xd).now.length; rw [HKU.out.2]; exact HFI.out.2)
            have a4 := (hD1.rn xd HLU.out.1).at xa (by show xa < (gu Uj xd).now.length; rw [HKU.out.2]; exact HFI.out.2)
            have af := (hD1.rn xd HLU.out.1).frozen xa
            have HS := hid (hD1.setNow (t := xa) (d := xd) HLU.out.1 (by show xa < (gu Uj xd).now.length; rw [HKU.out.2]; exact HFI.out.2) (ge (gu Uj xd).dur xa))
            have HSG := hid (hG1.trans ((set_gr X0 (gb c.bs xd).n xa (.int .u64 (ge (gu Uj xd).dur xa))).mono (T := fp A c) (fun x hx => by obtain rfl := List.mem_singleton.1 hx; exact fp_n (by rw [hD1.lb]; exact HLU.out.1))))
            have A0 := hid a0; have A1 := hid a1; have A2 := hid a2; have A3 := hid a3; have A4 := hid a4; have AF := hid af
            clear a0 a1 a2 a3 a4 af hD1 hG1 hX1 hX0 HD0 HG0 Y0
            obtain ⟨Ws, w0, w1⟩ : ∃ Ws : Nat → World, Ws 0 = X0 ∧ Ws 1 = X0.setCell ⟨(gb c.bs xd).n, xa, none⟩ (.int .u64 (ge (gu Uj xd).dur xa)) := ⟨fun q => match q with | 0 => X0 | _ => X0.setCell ⟨(gb c.bs xd).n, xa, none⟩ (.int .u64 (ge (gu Uj xd).dur xa)), rfl, rfl⟩
            refine (wpIn_wide (n := 5)).1 ?_
            refine wpIn_region_plan_v (ro := none) (aF := ?aFm) [.pointer (some ⟨V0.heap.size, 0, none⟩), .slice (some ⟨(gb c.bs xd).n, 0, none⟩) (gu k.U xd).now.length (gb c.bs xd).cn, .pointer (some ⟨wr.heap.size, 0, none⟩), .pointer (some ⟨wr.heap.size, 1, none⟩), .int .i64 (xa : Int), .pointer (some ⟨V0.heap.size, 1, none⟩), .slice (some ⟨(gb c.bs xd).d, 0, none⟩) (gu k.U xd).now.length (gb c.bs xd).cd, .pointer (some ⟨wr.heap.size, 0, none⟩), .pointer (some ⟨wr.heap.size, 1, none⟩), .int .i64 (xa : Int), .pointer (some ⟨(gb c.bs xd).d, xa, none⟩), .int .u64 (ge (gu Uj xd).dur xa), .pointer (some ⟨(gb c.bs xd).n, xa, none⟩), undef] ?hEm [] [13] [[(0, 0)], [(0, 0)], [(0, 0)], [(0, 0)], [(0, 0)], [(0, 0)], [(0, 0)], [(0, 0)], [(0, 0)], [(0, 0)], [(0, 0)], [(0, 0)], [(0, 0)], [(0, 1)]] Ws 86 ?hNm hmx (by kernel_rfl) (by kernel_rfl) ?haFm (w0.trans HX0.out) ?stm ?finm
            case hEm =>
              go_simp
              rfl
            case hNm => kernel_rfl
            case haFm => kernel_rfl
            case stm =>
             refine StepsP.cons rfl (any_steps (by kernel_rfl) ?sm0) (StepsP.cons rfl (step1 ?sm1_0) (StepsP.cons rfl (any_steps (by kernel_rfl) ?sm2) (StepsP.cons rfl (any_steps (by kernel_rfl) ?sm3) (StepsP.cons rfl (step1 ?sm4_0) (StepsP.cons rfl (any_steps (by kernel_rfl) ?sm5) (StepsP.cons rfl (step1 ?sm6_0) (StepsP.cons rfl (any_steps (by kernel_rfl) ?sm7) (StepsP.cons rfl (any_steps (by kernel_rfl) ?sm8) (StepsP.cons rfl (step1 ?sm9_0) (StepsP.cons rfl (any_steps (by kernel_rfl) ?sm10) (StepsP.cons rfl (step1 ?sm11_0) (StepsP.cons rfl (any_steps (by kernel_rfl) ?sm12) (StepsP.cons rfl (step1 ?sm13_0) StepsP.nil)))))))))))))
             case sm0 =>
              intro _
              refine StepP.want (by kernel_rfl) ?_
              go_simp
             case sm1_0 =>
              rw [w0]
              refine StepP.want (by kernel_rfl) ?_
              have c := A0.out
              go_simp
             case sm2 =>
              intro _
              refine StepP.want (by kernel_rfl) ?_
              go_simp
             case sm3 =>
              intro _
              refine StepP.want (by kernel_rfl) ?_
              go_simp
             case sm4_0 =>
              rw [w0]
              refine StepP.want (by kernel_rfl) ?_
              have c := A2.out
              go_simp
             case sm5 =>
              intro _
              refine StepP.want (by kernel_rfl) ?_
              go_simp
             case sm6_0 =>
              rw [w0]
              refine StepP.want (by kernel_rfl) ?_
              have c := A1.out
              go_simp
             case sm7 =>
              intro _
              refine StepP.want (by kernel_rfl) ?_
              go_simp
             case sm8 =>
              intro _
              refine StepP.want (by kernel_rfl) ?_
              go_simp
             case sm9_0 =>
              rw [w0]
              refine StepP.want (by kernel_rfl) ?_
              have c := A2.out
              go_simp
             case sm10 =>
              intro _
              refine StepP.want (by kernel_rfl) ?_
              have c := HFI.out.2
              go_simp
             case sm11_0 =>
              rw [w0]
              refine StepP.want (by kernel_rfl) ?_
              have c := A3.out
              go_simp
             case sm12 =>
              intro _
              refine StepP.want (by kernel_rfl) ?_
              have c := HFI.out.2
              go_simp
             case sm13_0 =>
              rw [w0, w1]
              refine StepP.want (by kernel_rfl) ?_
              have c := A4.out
              have c2 := AF.out
              go_simp
            case finm =>
              have e9 : Ws ([13] : List Nat).length = X0.setCell ⟨(gb c.bs xd).n, xa, none⟩ (.int .u64 (ge (gu Uj xd).dur xa)) := w1
              rw [e9]
              clear e9 w0 w1
              clear A0 A1 A2 A3 A4 AF HX0
              generalize X0.setCell ⟨(gb c.bs xd).n, xa, none⟩ (.int .u64 (ge (gu Uj xd).dur xa)) = w3 at *
              go_wp2_with fail
              go_roundw
              case rel => exact ⟨j + 1, by omega, by go_num, hid (HR.out _ HS.out), HSG⟩
              case measure => simp [intOf]; omega
        · have hjl : j = k.F.length := by omega
          have hlt' : ¬ (j : Int) < (k.F.length : Int) := by omega
          rw [hjl] at HDj ⊢
          clear hjl hlt hj
          have c2 := HDj.out.c2
          have c3 := HDj.out.c3
          have c4 := HDj.out.c4
          have f2 := HDj.out.fz 2
          have f3 := HDj.out.fz 3
          have f4 := HDj.out.fz 4
          have hblk : wr.ownsRow 0 78 6 (.slice (some ⟨A, 0, none⟩) 1 1) 1 [.slice c.ua (rs2 k.F U1 k.F.length).length c.uc, .map (some c.mb), .slice c.fa k.F.length c.fc, .int .i64 k.fuse, .bool k.down, .int .i64 k.wr] := HDj.out.blk
          have G1 := set_gr wr A 2 (.slice none 0 0)
          have D1 := HDj.out.setF (W' := wr.setCell ⟨A, 2, none⟩ (.slice none 0 0)) none 0 [] (G1.mono (fun x hx => by obtain rfl := List.mem_singleton.1 hx; exact List.mem_cons_self ..)) (World.ownsRow.stored hblk 2 (.slice none 0 0)).1 (World.ownsRow_nil _ _ _ _) (fun g hg => by cases hg) (fun i hi => by simp at hi)
          have G2 := set_gr (wr.setCell ⟨A, 2, none⟩ (.slice none 0 0)) A 3 (.int .i64 0)
          have D2 := D1.setA G2 0 k.down k.wr (World.ownsRow.stored D1.blk 3 (.int .i64 0)).1
          have G3 := set_gr ((wr.setCell ⟨A, 2, none⟩ (.slice none 0 0)).setCell ⟨A, 3, none⟩ (.int .i64 0)) A 4 (.bool false)
          have D3 := hid (D2.setA G3 0 false k.wr (World.ownsRow.stored D2.blk 4 (.bool false)).1)
          have HSG := hid (HGj.out.trans (((G1.trans G2).trans G3).mono (T := fp A c) (fun x hx => by obtain rfl := List.mem_singleton.1 hx; exact fp_A)))
          have HRE := hid (show reK k kp = { k with U := rs2 k.F U1 k.F.length, F := [], fuse := 0, down := false } by unfold reK; rw [HU1.out])
          clear hblk G1 D1 G2 D2 G3 HDj
          go_wp2_with fail
          go_end0
          exact ⟨rfl, hid ⟨by rw [HRE.out]; exact D3.out, HSG.out⟩⟩
end Go.Proofs.Ytfaeieeokelokaa
