/- Raw and N of the statements' builder, with the world that they leave. No conditions but those of each theorem. -/
import Derived.Test.YtflmfjfeeajkfaaK
import Derived.StillTail
import Derived.StillTailTactics
namespace Go.Proofs.Ytflmfjfeeajkfaa
open Go.ChangeShapes Go.WideShapes Go.ChangeAt Go.RowKit
set_option linter.unusedVariables false
set_option linter.unusedSimpArgs false

theorem grown_drew (W : World) (row : Option Nat) : W.grownBy W.drew row := ⟨rfl, rfl, rfl, Nat.le_refl _, fun _ _ _ => rfl⟩
set_option maxHeartbeats 1000000 in
theorem raw_det (n₀ B : Nat) (hB : n₀ ≤ B) (W : World) (hS : SrcOK n₀ B W) :
    ∃ (z : Int) (W' : World), -9223372036854775808 ≤ z ∧ z ≤ 9223372036854775807 ∧ Hid (W.grownBy W' (some B) ∧ SrcOK n₀ B W') ∧
      Hid (Calls Try.prog 21 #[.pointer (some ⟨B, 0, none⟩)] W fun e w' => e = .returned (.int .i64 z) ∧ w' = W') := by
  obtain ⟨a, len, cap, k, hb, h1, h2, h3⟩ := hS
  have HB := hid hb
  have HN := hid h3
  have c0 : W.cell? ⟨B, 0, none⟩ = some (.slice a len cap) := by rw [cell_of_row _ _ _ _ _ _ hb]; rfl
  have c1 : W.cell? ⟨B, 1, none⟩ = some (.int .i64 (k : Int)) := by rw [cell_of_row _ _ _ _ _ _ hb]; rfl
  have f1 : W.frozen? ⟨B, 1, none⟩ = false := frozen_of_row _ _ _ _ _ hb
  clear hb h3
  by_cases hlt : k < len
  · obtain ⟨b, off, rfl, hbn, hc⟩ := HN.out.resolve_left (by omega)
    obtain ⟨z, z1, z2, hz⟩ := hc k hlt
    have hlt2 : ¬ (len : Int) ≤ (k : Int) := by omega
    have hne : b ≠ B := by omega
    clear hc
    have HB1 := hid (show W.drew.heap[B]? = _ from HB.out)
    have HB2 := hid (heap_setCell_same W.drew B 1 #[.slice (some ⟨b, off, none⟩) len cap, .int .i64 (k : Int)] 53 (.int .i64 ((k : Int) + 1)) HB1.out)
    have g1 := hid (grown_trans (grown_drew W (some B)) (grown_cell W.drew B 1 (.int .i64 ((k : Int) + 1))))
    have HS2 := hid (show SrcOK n₀ B (W.drew.setCell ⟨B, 1, none⟩ (.int .i64 ((k : Int) + 1))) from ⟨_, len, cap, k + 1, by rw [HB2.out]; rfl, by omega, h2, HN.out.below ((show Below n₀ W W.drew from ⟨rfl, rfl, rfl, Nat.le_refl _, fun _ _ => rfl⟩).setCell (p := ⟨B, 1, none⟩) hB _)⟩)
    have HSd := hid (show SrcOK n₀ B (W.drew.setCell ⟨B, 1, none⟩ (.int .i64 ((k : Int) + 1))).drew from HS2.out)
    obtain ⟨W3, hW3⟩ : ∃ W3, W3 = (W.drew.setCell ⟨B, 1, none⟩ (.int .i64 ((k : Int) + 1))).drew := ⟨_, rfl⟩
    refine ⟨z, W3, z1, z2, hid (by rw [hW3]; exact ⟨grown_trans g1.out (grown_drew _ _), HSd.out⟩), hid ?_⟩
    have HW3 := hid hW3
    clear hW3
    go_enter Try.func21, Try.ntmps21
    go_wp2_with fail
    go_still (by kernel_rfl)
    change Exit.then _ _ Exit.normal _ W.drew
    have e0 : W.drew.cell? ⟨B, 0, none⟩ = some (.slice (some ⟨b, off, none⟩) len cap) := c0
    have e1 : W.drew.cell? ⟨B, 1, none⟩ = some (.int .i64 (k : Int)) := c1
    have e2 : W.drew.frozen? ⟨B, 1, none⟩ = false := f1
    generalize W.drew = W1 at *
    go_wp2_with fail
    clear e0 e1 e2
    generalize W1.setCell ⟨B, 1, none⟩ (.int .i64 ((k : Int) + 1)) = W2 at *
    have d0 : W2.cell? ⟨B, 0, none⟩ = some (.slice (some ⟨b, off, none⟩) len cap) := by rw [cell_of_row _ _ _ _ _ _ HB2.out]; rfl
    have d1 : W2.cell? ⟨B, 1, none⟩ = some (.int .i64 ((k : Int) + 1)) := by rw [cell_of_row _ _ _ _ _ _ HB2.out]; rfl
    have d2 : W2.cell? ⟨b, off + k, none⟩ = some (.int .i64 z) := by
      have hlt3 : b < W.heap.size := block_lt_of_cell hz
      exact (World.cell?_of_block (a := ⟨b, off + k, none⟩) (g1.out.block b hlt3 (fun e => hne (Option.some.inj e)))).trans hz
    clear c0 c1 f1 hz
    have hw1 : IntKind.i64.wrap (k : Int) = k := IntWalk.i64_in _ (by omega)
    have hw2 := IntWalk.wrap64_in (k : Int) (by omega)
    go_still (by kernel_rfl)
    go_wp2_with fail
    go_ret
    exact ⟨rfl, HW3.out.symm⟩
  · obtain rfl : k = len := by omega
    have hlt2 : (k : Int) ≤ (k : Int) := by omega
    refine ⟨0, W.drew, by omega, by omega, hid ⟨grown_drew _ _, ⟨a, k, cap, k, HB.out, by omega, h2, HN.out⟩⟩, hid ?_⟩
    go_enter Try.func21, Try.ntmps21
    go_wp2_with fail
    go_still (by kernel_rfl)
    go_wp2_with fail
    go_ret
    exact ⟨rfl, rfl⟩

theorem n_det (n₀ B : Nat) (hB : n₀ ≤ B) (m : Int) (hm : 1 ≤ m) (hm2 : m ≤ 1000000) (W : World) (hS : SrcOK n₀ B W) :
    ∃ (z : Int) (W' : World), 0 ≤ z ∧ z < m ∧ Hid (W.grownBy W' (some B) ∧ SrcOK n₀ B W') ∧
      Hid (Calls Try.prog 19 #[.pointer (some ⟨B, 0, none⟩), .int .i64 m] W fun e w' => e = .returned (.int .i64 z) ∧ w' = W') := by
  obtain ⟨z, W', z1, z2, H1, HC⟩ := raw_det n₀ B hB W hS
  have hm3 : ¬ m < 1 := by omega
  have hne : (m == 0) = false := beq_eq_false_iff_ne.2 (by omega)
  clear hS
  obtain ⟨y, hy⟩ : ∃ y, z.tmod m = y := ⟨_, rfl⟩
  have y1 : -m < y ∧ y < m := by
    rw [← hy]
    have h1 := Int.tmod_lt_of_pos z (show 0 < m by omega)
    have h2 := Int.tmod_lt_of_pos (-z) (show 0 < m by omega)
    rw [Int.neg_tmod] at h2
    omega
  obtain ⟨y1, y2⟩ := y1
  have w1 : IntKind.i64.wrap y = y := IntWalk.i64_in _ (by omega)
  by_cases hneg : y < 0
  · refine ⟨y + m, W', by omega, by omega, H1, hid ?_⟩
    go_enter Try.func19, Try.ntmps19
    go_wp2_with fail
    refine HC.out.mono ?_
    rintro e W1 ⟨rfl, rfl⟩
    go_wp2_with fail
    go_ret
    exact ⟨rfl, rfl⟩
  · refine ⟨y, W', by omega, by omega, H1, hid ?_⟩
    go_enter Try.func19, Try.ntmps19
    go_wp2_with fail
    refine HC.out.mono ?_
    rintro e W1 ⟨rfl, rfl⟩
    go_wp2_with fail
    go_ret
    exact ⟨rfl, rfl⟩
end Go.Proofs.Ytflmfjfeeajkfaa
