/- Steps of cursors, and the check of layer 3. No conditions but those of each theorem. -/
import Derived.Test.YtgfdmeaganhpiaaH
import Derived.Test.YtgfdmeaganhpiaaPV
namespace Go.Proofs.Ytgfdmeaganhpiaa.Old
open Go.ChangeShapes Go.WideShapes Go.ChangeAt Go.RowKit
set_option linter.unusedVariables false
set_option linter.unusedSimpArgs false
attribute [local go_sem] Oper.semAt_some putAll

/-- a cursor in block B over the ends E, whose cells lie in block g, in front of place p -/
structure Cu (W : World) (B g : Nat) (E : List Int) (p : Nat) : Prop where
  pr : ∃ a cap, Pr W B 51 (.slice a (E.length - p) cap) (.bool (p % 2 == 1)) ∧ E.length - p ≤ cap ∧ cap ≤ maxLen ∧ (p < E.length → a = some ⟨g, p, none⟩)
  at' : p ≤ E.length
  cells : ∀ j, j < E.length → W.cell? ⟨g, j, none⟩ = some (.int .i64 (E[j]?.getD 0))
  lt : E ≠ [] → g < W.heap.size
  ne : E ≠ [] → g ≠ B
theorem Cu.kept {W W' : World} {B g : Nat} {E : List Int} {p : Nat} {row : Option Nat} (h : Cu W B g E p) (hg : W.grownBy W' row) (hB : row ≠ some B) (hb : E ≠ [] → row ≠ some g) : Cu W' B g E p := by
  obtain ⟨⟨a, cap, h1, h2, h3, h4⟩, h5, h6, h7, h8⟩ := h
  refine ⟨⟨a, cap, h1.kept hg hB, h2, h3, h4⟩, h5, fun j hj => ?_, fun he => Nat.lt_of_lt_of_le (h7 he) hg.size, h8⟩
  have he : E ≠ [] := fun e => by rw [e] at hj; simp at hj
  exact (World.cell?_of_block (a := ⟨g, j, none⟩) (hg.block g (h7 he) (fun e => hb he e.symm))).trans (h6 j hj)

/-- the next end -/
def nx (E : List Int) (p : Nat) : Int := if p < E.length then E[p]?.getD 0 else 1073741825

theorem next_any (W : World) (B g : Nat) (E : List Int) (p : Nat) (hbig : E.length ≤ 10000000) (h : Cu W B g E p) :
    Calls Try.prog 41 #[.pointer (some ⟨B, 0, none⟩)] W fun e W' => e = .returned (.int .i64 (nx E p)) ∧ W' = W := by
  obtain ⟨⟨a, cap, h1, h2, h3, h4⟩, h5, h6, h7, h8⟩ := h
  have c0 := h1.c0
  by_cases hp : p < E.length
  · have hnx := hid (show nx E p = E[p]?.getD 0 from if_pos hp)
    obtain rfl := h4 hp
    have c1 := h6 p hp
    rw [hnx.out]
    obtain ⟨z, hz⟩ : ∃ z, E[p]?.getD 0 = z := ⟨_, rfl⟩
    rw [hz] at c1 ⊢
    clear hz hnx
    have hne : ¬ ((E.length - p : Nat) : Int) = 0 := by omega
    have hpos : (0 : Int) < ((E.length - p : Nat) : Int) := by omega
    generalize hm : E.length - p = m at *
    have hbeq : ((m : Int) == 0) = false := beq_eq_false_iff_ne.2 hne
    have hm0 : 0 < m := by omega
    clear h6 h7 h8 h4 h1
    go_enter Try.func41, Try.ntmps41
    go_wp2_with fail
    go_ret
    exact ⟨rfl, rfl⟩
  · have hnx := hid (show nx E p = 1073741825 from if_neg hp)
    rw [hnx.out]
    have hm : E.length - p = 0 := by omega
    rw [hm] at c0
    clear h6 h7 h8 h4 h1
    go_enter Try.func41, Try.ntmps41
    go_wp2_with fail
    go_ret
    exact ⟨rfl, rfl⟩

theorem step_any (W : World) (B g : Nat) (E : List Int) (p : Nat) (x : Int) (hbig : E.length ≤ 10000000) (h : Cu W B g E p) (hx : x ≤ 1073741824) :
    Calls Try.prog 42 #[.pointer (some ⟨B, 0, none⟩), .int .i64 x] W fun e W' => e = .returned (.tuple #[]) ∧ Hid (W.grownBy W' (some B) ∧ Cu W' B g E (if nx E p = x then p + 1 else p)) := by
  have HN := hid (next_any W B g E p hbig h)
  have HC := hid h
  obtain ⟨⟨a, cap, h1, h2, h3, h4⟩, h5, h6, h7, h8⟩ := h
  by_cases he : nx E p = x
  · have hp : p < E.length := by
      refine Decidable.byContradiction fun hp => ?_
      unfold nx at he
      rw [if_neg hp] at he
      omega
    obtain rfl := h4 hp
    obtain ⟨m, hm⟩ : ∃ m, E.length - p = m := ⟨_, rfl⟩
    have hm' : E.length - (p + 1) = m - 1 := by omega
    rw [hm] at h1 h2
    have hm1 : (1 : Int) ≤ (m : Int) := by omega
    have hm2 : 1 ≤ m := by omega
    have HP := hid h1
    have HM := hid hm'
    rw [if_pos he]
    rw [he] at HN
    have c0 := h1.c0
    have c1 := h1.c1
    have f0 := h1.frozen 0
    have f1 := h1.frozen 1
    clear h1 h4 h6 h7 h8
    go_enter Try.func42, Try.ntmps42
    go_wp2_with fail
    refine HN.out.mono ?_
    rintro e w1 ⟨rfl, rfl⟩
    go_wp2_with fail
    obtain ⟨na, hna⟩ : ∃ na : Option Addr, na = if cap = 1 then some ⟨g, p, none⟩ else some ⟨g, p + 1, none⟩ := ⟨_, rfl⟩
    have HNA := hid hna
    have hmx : Try.prog.follows .mixedOrders = true := by kernel_rfl
    have hnot : (!(p % 2 == 1)) = ((p + 1) % 2 == 1) := by
      rcases Nat.mod_two_eq_zero_or_one p with h | h
      · rw [h, show (p + 1) % 2 = 1 by omega]; rfl
      · rw [h, show (p + 1) % 2 = 0 by omega]; rfl
    obtain ⟨Ws, w0, w1', w2⟩ : ∃ Ws : Nat → World, Ws 0 = w1.drew ∧ Ws 1 = w1.drew.setCell ⟨B, 0, none⟩ (.slice na (m - 1) (cap - 1)) ∧ Ws 2 = (w1.drew.setCell ⟨B, 0, none⟩ (.slice na (m - 1) (cap - 1))).setCell ⟨B, 1, none⟩ (.bool ((p + 1) % 2 == 1)) := ⟨fun k => match k with | 0 => w1.drew | 1 => w1.drew.setCell ⟨B, 0, none⟩ (.slice na (m - 1) (cap - 1)) | _ => (w1.drew.setCell ⟨B, 0, none⟩ (.slice na (m - 1) (cap - 1))).setCell ⟨B, 1, none⟩ (.bool ((p + 1) % 2 == 1)), rfl, rfl, rfl⟩
    clear hna
    refine (wpIn_wide (n := 5)).1 ?_
    refine wpIn_region_plan_v (ro := none) (aF := ?aF) [.pointer (some ⟨B, 0, none⟩), .pointer (some ⟨B, 0, none⟩), .pointer (some ⟨B, 0, none⟩), .pointer (some ⟨B, 0, none⟩), .pointer (some ⟨B, 0, none⟩), .slice (some ⟨g, p, none⟩) m cap, .slice na (m - 1) (cap - 1), .pointer (some ⟨B, 0, none⟩), .pointer (some ⟨B, 0, none⟩), .pointer (some ⟨B, 1, none⟩), .bool (p % 2 == 1), .bool ((p + 1) % 2 == 1), .pointer (some ⟨B, 0, none⟩), .pointer (some ⟨B, 0, none⟩), undef, .pointer (some ⟨B, 0, none⟩), .pointer (some ⟨B, 1, none⟩), undef] ?hE [] [14, 17] [[(0, 0)], [(0, 0), (1, 1)], [(0, 0)], [(0, 0)], [(0, 0)], [(0, 0)], [(0, 0)], [(0, 0)], [(0, 0)], [(0, 0)], [(0, 0)], [(0, 0), (1, 1)], [(0, 0)], [(0, 0)], [(0, 1)], [(1, 1)], [(1, 1)], [(1, 2)]] Ws 24 ?hN hmx (by kernel_rfl) (by kernel_rfl) ?haF w0 ?st ?fin
    case hE =>
      go_simp
      rfl
    case hN => kernel_rfl
    case haF => kernel_rfl
    case st =>
     refine StepsP.cons rfl (any_steps rfl ?s0) (StepsP.cons rfl (any_steps rfl ?s1) (StepsP.cons rfl (any_steps rfl ?s2) (StepsP.cons rfl (any_steps rfl ?s3) (StepsP.cons rfl (any_steps rfl ?s4) (StepsP.cons rfl (step1 ?s5) (StepsP.cons rfl (any_steps rfl ?s6) (StepsP.cons rfl (any_steps rfl ?s7) (StepsP.cons rfl (any_steps rfl ?s8) (StepsP.cons rfl (any_steps rfl ?s9) (StepsP.cons rfl (step1 ?s10) (StepsP.cons rfl (any_steps rfl ?s11) (StepsP.cons rfl (any_steps rfl ?s12) (StepsP.cons rfl (any_steps rfl ?s13) (StepsP.cons rfl (step1 ?s14) (StepsP.cons rfl (any_steps rfl ?s15) (StepsP.cons rfl (any_steps rfl ?s16) (StepsP.cons rfl (step1 ?s17) StepsP.nil)))))))))))))))))
     case s0 =>
      intro wx
      refine StepP.of rfl ?_
      go_simp
     case s1 =>
      intro wx
      refine StepP.of rfl ?_
      go_simp
     case s2 =>
      intro wx
      refine StepP.of rfl ?_
      go_simp
     case s3 =>
      intro wx
      refine StepP.of rfl ?_
      go_simp
     case s4 =>
      intro wx
      refine StepP.of rfl ?_
      go_simp
     case s6 =>
      intro wx
      refine StepP.of rfl ?_
      have hna := HNA.out.symm
      go_simp
     case s7 =>
      intro wx
      refine StepP.of rfl ?_
      go_simp
     case s8 =>
      intro wx
      refine StepP.of rfl ?_
      go_simp
     case s9 =>
      intro wx
      refine StepP.of rfl ?_
      go_simp
     case s11 =>
      intro wx
      refine StepP.of rfl ?_
      go_simp
     case s12 =>
      intro wx
      refine StepP.of rfl ?_
      go_simp
     case s13 =>
      intro wx
      refine StepP.of rfl ?_
      go_simp
     case s15 =>
      intro wx
      refine StepP.of rfl ?_
      go_simp
     case s16 =>
      intro wx
      refine StepP.of rfl ?_
      go_simp
     case s5 =>
      rw [w0]
      refine StepP.of rfl ?_
      go_simp
     case s10 =>
      rw [w0]
      refine StepP.of rfl ?_
      go_simp
     case s14 =>
      rw [w0, w1']
      refine StepP.of rfl ?_
      go_simp
     case s17 =>
      rw [w1', w2]
      refine StepP.of rfl ?_
      go_simp
    case fin =>
      have HP1 := hid (((show Pr w1.drew B 51 (.slice (some ⟨g, p, none⟩) m cap) (.bool (p % 2 == 1)) from HP.out).set0 (.slice na (m - 1) (cap - 1))).set1 (.bool ((p + 1) % 2 == 1)))
      have HG := hid (grown_trans (grown_trans (show w1.grownBy w1.drew (some B) from ⟨rfl, rfl, rfl, Nat.le_refl _, fun _ _ _ => rfl⟩) (grown_cell w1.drew B 0 (.slice na (m - 1) (cap - 1)))) (grown_cell _ B 1 (.bool ((p + 1) % 2 == 1))))
      have e9 : Ws [14, 17].length = Ws 2 := rfl
      rw [e9, w2]
      clear e9 w0 w1' w2
      generalize (w1.drew.setCell ⟨B, 0, none⟩ (.slice na (m - 1) (cap - 1))).setCell ⟨B, 1, none⟩ (.bool ((p + 1) % 2 == 1)) = w5 at *
      go_wp2_with fail
      go_end0
      refine ⟨rfl, hid ⟨HG.out, ⟨na, cap - 1, by rw [HM.out]; exact HP1.out, by omega, by omega, fun hlt => ?_⟩, by omega, ?_, ?_, HC.out.ne⟩⟩
      · rw [HNA.out, if_neg (by omega)]
      · intro j hj
        have he : E ≠ [] := fun e => by rw [e] at hj; simp at hj
        exact (World.cell?_of_block (a := ⟨g, j, none⟩) (HG.out.block g (HC.out.lt he) (fun e => HC.out.ne he (Option.some.inj e)))).trans (HC.out.cells j hj)
      · intro he
        exact Nat.lt_of_lt_of_le (HC.out.lt he) HG.out.size
  · rw [if_neg he]
    clear h1 h4 h6 h7 h8
    go_enter Try.func42, Try.ntmps42
    go_wp2_with fail
    refine HN.out.mono ?_
    rintro e w1 ⟨rfl, rfl⟩
    have hbeq : (nx E p == x) = false := beq_eq_false_iff_ne.2 he
    go_wp2_with fail
    go_end0
    exact ⟨rfl, hid ⟨⟨rfl, rfl, rfl, Nat.le_refl _, fun _ _ _ => rfl⟩, HC.out⟩⟩
end Go.Proofs.Ytgfdmeaganhpiaa.Old
