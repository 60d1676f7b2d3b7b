/- The program's SetBad, Load. No conditions but those of each theorem. -/
import Derived.Test.YtfaeieeokelokaaU
import Derived.Test.YtfaeieeokelokaaQ
namespace Go.Proofs.Ytfaeieeokelokaa
open Go.ChangeShapes Go.WideShapes Go.ChangeAt Go.RowKit
set_option linter.unusedVariables false
set_option linter.unusedSimpArgs false
attribute [local go_sem] Oper.semAt_some putAll
/-- a sector is bad, or not -/
def badU (bad : Int → Int → Bool) (n m : Int) (b : Bool) : Int → Int → Bool := fun x y => if x = n ∧ y = m then b else bad x y
theorem hasS_at {W : World} {A : Nat} {c : Co} {k : Dk} (h : DA W A c k) (d t : Int) :
    Calls Try.prog 47 #[.pointer (some ⟨A, 0, none⟩), .agg #[.int .i64 d, .int .i64 t]] (W.alloc (.cells #[.int .i64 d, .int .i64 t] 83)) fun e w' => e = .returned (.bool (hs k d t)) ∧ Hid (Below W.heap.size W w' ∧ w'.cell? ⟨W.heap.size, 0, none⟩ = some (.int .i64 d) ∧ w'.cell? ⟨W.heap.size, 1, none⟩ = some (.int .i64 t)) := by
  have hb := (Below.refl W.heap.size W).alloc (Nat.le_refl _) (.cells #[.int .i64 d, .int .i64 t] 83)
  have c1 : (W.alloc (.cells #[.int .i64 d, .int .i64 t] 83)).cell? ⟨W.heap.size, 0, none⟩ = some (.int .i64 d) := by go_simp
  have c2 : (W.alloc (.cells #[.int .i64 d, .int .i64 t] 83)).cell? ⟨W.heap.size, 1, none⟩ = some (.int .i64 t) := by go_simp
  refine (hasS_ok (h.below hb) d t).mono ?_
  rintro e w' ⟨rfl, hb'⟩
  exact ⟨rfl, hid ⟨bt hb hb', (hb'.cell (p := ⟨W.heap.size, 0, none⟩) (by simp)).trans c1, (hb'.cell (p := ⟨W.heap.size, 1, none⟩) (by simp)).trans c2⟩⟩
set_option maxRecDepth 100000 in
set_option maxHeartbeats 8000000 in
theorem setbad_ok {W : World} {A : Nat} {c : Co} {k : Dk} (h : DA W A c k) (n m : Nat) (b : Bool) (hn : n < k.U.length) (hm : m < (gu k.U n).now.length) (hmn : c.mn < 2 ^ 40) :
    Calls Try.prog 33 #[.pointer (some ⟨A, 0, none⟩), .int .i64 (n : Int), .int .i64 (m : Int), .bool b] W fun e W' => e = .returned (.int .i64 0) ∧ Hid (DA W' A { c with mn := if b then c.mn + 1 else c.mn } { k with bad := badU k.bad (n : Int) (m : Int) b } ∧ Gr (fp A c) W W') := by
  have H := hid h
  have HF := hid (hasS_at h (n : Int) (m : Int))
  rw [hs_iff.2 ⟨n, m, rfl, rfl, hn, hm⟩] at HF
  have hb8 := h.b8
  have hbn := h.bn n hn
  have HW := hid (show (Lit.int .i64 (n : Int)).wf = true ∧ (Lit.int .i64 (m : Int)).wf = true from ⟨wf_nat _ (by omega), wf_nat _ (by omega)⟩)
  have hmx : Try.prog.follows .mixedOrders = true := by kernel_rfl
  clear h hb8 hbn hn hm
  cases b with
  | true =>
    go_enter Try.func33, Try.ntmps33
    go_wp2_with fail
    refine HF.out.mono ?_
    rintro e w1 ⟨rfl, HB⟩
    have H1 := H.out.below HB.out.1
    obtain ⟨V0, hV0⟩ : ∃ V0, V0 = w1.drew := ⟨_, rfl⟩
    have H4 := H1.below (W' := V0) (by rw [hV0]; exact (Below.refl _ _).drew)
    have c1 := hid H4.c1
    have d0 := hid (show V0.cell? ⟨W.heap.size, 0, none⟩ = some (.int .i64 (n : Int)) by rw [hV0]; exact HB.out.2.1)
    have d1 := hid (show V0.cell? ⟨W.heap.size, 1, none⟩ = some (.int .i64 (m : Int)) by rw [hV0]; exact HB.out.2.2)
    have hg0 : Gr (fp A c) W V0 := by rw [hV0]; exact Gr.of_below HB.out.1.drew _
    obtain ⟨V1, hrun, hbm, hg1⟩ := H4.mp.put hmn HW.out.1 HW.out.2
    have HD := hid (show DA V1 A { c with mn := c.mn + 1 } { k with bad := badU k.bad (n : Int) (m : Int) true } from H4.setB hg1 (c.mn + 1) _ hbm)
    have HG := hid (hg0.trans (hg1.mono (T := fp A c) (fun x hx => by obtain rfl := List.mem_singleton.1 hx; exact fp_m)))
    have HRUN := hid hrun
    have HV0 := hid hV0
    clear HF HB H1 H4 hg0 hrun hbm hg1 hV0
    go_wp2_with fail
    obtain ⟨Ws, w0, w1⟩ : ∃ Ws : Nat → World, Ws 0 = V0 ∧ Ws 1 = V1 := ⟨fun q => match q with | 0 => V0 | _ => V1, rfl, rfl⟩
    refine (wpIn_wide (n := 5)).1 ?_
    refine wpIn_region_plan_v (ro := none) (aF := ?aFd) [.pointer (some ⟨A, 0, none⟩), .pointer (some ⟨A, 0, none⟩), .pointer (some ⟨A, 1, none⟩), .map (some c.mb), .agg #[.int .i64 (n : Int), .int .i64 (m : Int)], .agg #[], undef] ?hEd [] [6] [[(0, 0)], [(0, 0)], [(0, 0)], [(0, 0)], [(0, 0)], [(0, 0)], [(0, 1)]] Ws 29 ?hNd hmx (by kernel_rfl) (by kernel_rfl) ?haFd (w0.trans HV0.out) ?std ?find
    case hEd =>
      go_simp
      rfl
    case hNd => kernel_rfl
    case haFd => kernel_rfl
    case std =>
     refine StepsP.cons rfl (any_steps (by kernel_rfl) ?sd0) (StepsP.cons rfl (any_steps (by kernel_rfl) ?sd1) (StepsP.cons rfl (any_steps (by kernel_rfl) ?sd2) (StepsP.cons rfl (step1 ?sd3_0) (StepsP.cons rfl (step1 ?sd4_0) (StepsP.cons rfl (any_steps (by kernel_rfl) ?sd5) (StepsP.cons rfl (step1 ?sd6_0) StepsP.nil))))))
     case sd0 =>
      intro _
      refine StepP.want (by kernel_rfl) ?_
      go_simp
     case sd1 =>
      intro _
      refine StepP.want (by kernel_rfl) ?_
      go_simp
     case sd2 =>
      intro _
      refine StepP.want (by kernel_rfl) ?_
      go_simp
     case sd3_0 =>
      rw [w0]
      refine StepP.want (by kernel_rfl) ?_
      have c := c1.out
      go_simp
     case sd4_0 =>
      rw [w0]
      refine StepP.want (by kernel_rfl) ?_
      have c := d0.out
      have c2 := d1.out
      go_simp
     case sd5 =>
      intro _
      refine StepP.want (by kernel_rfl) ?_
      go_simp
     case sd6_0 =>
      rw [w0, w1]
      refine StepP.want (by kernel_rfl) ?_
      have c := HRUN.out
      go_simp
    case find =>
      have e9 : Ws ([6] : List Nat).length = V1 := w1
      rw [e9]
      clear e9 w0 w1
      clear c1 d0 d1 HRUN HV0
      go_wp2_with fail
      go_ret
      exact ⟨rfl, hid ⟨HD.out, HG.out⟩⟩
  | false =>
    go_enter Try.func33, Try.ntmps33
    go_wp2_with fail
    refine HF.out.mono ?_
    rintro e w1 ⟨rfl, HB⟩
    have H1 := H.out.below HB.out.1
    obtain ⟨V0, hV0⟩ : ∃ V0, V0 = w1.drew := ⟨_, rfl⟩
    have H4 := H1.below (W' := V0) (by rw [hV0]; exact (Below.refl _ _).drew)
    have c1 := hid H4.c1
    have d0 := hid (show V0.cell? ⟨W.heap.size, 0, none⟩ = some (.int .i64 (n : Int)) by rw [hV0]; exact HB.out.2.1)
    have d1 := hid (show V0.cell? ⟨W.heap.size, 1, none⟩ = some (.int .i64 (m : Int)) by rw [hV0]; exact HB.out.2.2)
    have hg0 : Gr (fp A c) W V0 := by rw [hV0]; exact Gr.of_below HB.out.1.drew _
    obtain ⟨V1, hrun, hbm, hg1⟩ := H4.mp.del HW.out.1 HW.out.2 0
    have HD := hid (show DA V1 A { c with mn := c.mn } { k with bad := badU k.bad (n : Int) (m : Int) false } from H4.setB hg1 (c.mn) _ hbm)
    have HG := hid (hg0.trans (hg1.mono (T := fp A c) (fun x hx => by obtain rfl := List.mem_singleton.1 hx; exact fp_m)))
    have HRUN := hid hrun
    have HV0 := hid hV0
    clear HF HB H1 H4 hg0 hrun hbm hg1 hV0
    go_wp2_with fail
    obtain ⟨Ws, w0, w1⟩ : ∃ Ws : Nat → World, Ws 0 = V0 ∧ Ws 1 = V1 := ⟨fun q => match q with | 0 => V0 | _ => V1, rfl, rfl⟩
    refine (wpIn_wide (n := 5)).1 ?_
    refine wpIn_region_plan_v (ro := none) (aF := ?aFe) [.pointer (some ⟨A, 0, none⟩), .pointer (some ⟨A, 0, none⟩), .pointer (some ⟨A, 1, none⟩), .map (some c.mb), .agg #[.int .i64 (n : Int), .int .i64 (m : Int)], undef] ?hEe [] [5] [[(0, 0)], [(0, 0)], [(0, 0)], [(0, 0)], [(0, 0)], [(0, 1)]] Ws 29 ?hNe hmx (by kernel_rfl) (by kernel_rfl) ?haFe (w0.trans HV0.out) ?ste ?fine
    case hEe =>
      go_simp
      rfl
    case hNe => kernel_rfl
    case haFe => kernel_rfl
    case ste =>
     refine StepsP.cons rfl (any_steps (by kernel_rfl) ?se0) (StepsP.cons rfl (any_steps (by kernel_rfl) ?se1) (StepsP.cons rfl (any_steps (by kernel_rfl) ?se2) (StepsP.cons rfl (step1 ?se3_0) (StepsP.cons rfl (step1 ?se4_0) (StepsP.cons rfl (step1 ?se5_0) StepsP.nil)))))
     case se0 =>
      intro _
      refine StepP.want (by kernel_rfl) ?_
      go_simp
     case se1 =>
      intro _
      refine StepP.want (by kernel_rfl) ?_
      go_simp
     case se2 =>
      intro _
      refine StepP.want (by kernel_rfl) ?_
      go_simp
     case se3_0 =>
      rw [w0]
      refine StepP.want (by kernel_rfl) ?_
      have c := c1.out
      go_simp
     case se4_0 =>
      rw [w0]
      refine StepP.want (by kernel_rfl) ?_
      have c := d0.out
      have c2 := d1.out
      go_simp
     case se5_0 =>
      rw [w0, w1]
      refine StepP.want (by kernel_rfl) ?_
      have c := HRUN.out
      go_simp
    case fine =>
      have e9 : Ws ([5] : List Nat).length = V1 := w1
      rw [e9]
      clear e9 w0 w1
      clear c1 d0 d1 HRUN HV0
      go_wp2_with fail
      go_ret
      exact ⟨rfl, hid ⟨HD.out, HG.out⟩⟩
end Go.Proofs.Ytfaeieeokelokaa
