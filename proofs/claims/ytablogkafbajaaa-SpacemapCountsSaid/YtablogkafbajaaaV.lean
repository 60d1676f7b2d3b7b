/- The next number of the reader, told ahead. No conditions but those of each theorem. -/
import Derived.Test.YtablogkafbajaaaU
import Derived.Test.YtablogkafbajaaaPR
namespace Go.Proofs.Ytablogkafbajaaa
open Go.ChangeShapes Go.WideShapes Go.ChangeAt Go.RowKit
set_option linter.unusedVariables false
set_option linter.unusedSimpArgs false

set_option maxHeartbeats 1000000 in
theorem raw_val (n₀ B : Nat) (hB : n₀ ≤ B) (W : World) (a : Option Addr) (len cap k : Nat) (hb : W.heap[B]? = some (.cells #[.slice a len cap, .int .i64 (k : Int)] 56 (0, 0))) (h1 : k ≤ len) (h2 : len ≤ 1000) (h3 : Nums n₀ W a len) (z : Int) (hz0 : k < len → ∃ b off, a = some ⟨b, off, none⟩ ∧ b < n₀ ∧ W.cell? ⟨b, off + k, none⟩ = some (.int .i64 z)) (hz1 : k = len → z = 0) :
    Calls Try.prog 46 #[.pointer (some ⟨B, 0, none⟩)] W fun e W' => e = .returned (.int .i64 z) ∧ Hid (W.grownBy W' (some B) ∧ SrcOK n₀ B W') := by
  have HB := hid hb
  have HN := hid h3
  have c0 : W.cell? ⟨B, 0, none⟩ = some (.slice a len cap) := by rw [cell_of_row _ _ _ _ _ _ hb]; rfl
  have c1 : W.cell? ⟨B, 1, none⟩ = some (.int .i64 (k : Int)) := by rw [cell_of_row _ _ _ _ _ _ hb]; rfl
  have f1 : W.frozen? ⟨B, 1, none⟩ = false := frozen_of_row _ _ _ _ _ hb
  clear hb h3
  by_cases hlt : k < len
  · obtain ⟨b, off, rfl, hbn, hz⟩ := hz0 hlt
    have hlt2 : ¬ (len : Int) ≤ (k : Int) := by omega
    have hne : b ≠ B := by omega
    clear hz0 hz1
    go_enter Try.func46, Try.ntmps46
    go_wp2_with fail
    go_quiet (fail)
    go_wp2_with fail
    have HB1 := hid (show (W.drewN nq).heap[B]? = _ from HB.out)
    have HB2 := hid (heap_setCell_same (W.drewN nq) B 1 #[.slice (some ⟨b, off, none⟩) len cap, .int .i64 (k : Int)] 56 (.int .i64 ((k : Int) + 1)) HB1.out)
    have g1 := hid (grown_trans (grown_drewN W nq (some B)) (grown_cell (W.drewN nq) B 1 (.int .i64 ((k : Int) + 1))))
    have HW2 := hid (show (W.setCell ⟨B, 1, none⟩ (.int .i64 ((k : Int) + 1))).drewN nq = (W.drewN nq).setCell ⟨B, 1, none⟩ (.int .i64 ((k : Int) + 1)) from rfl)
    have HS2 := hid (show SrcOK n₀ B ((W.drewN nq).setCell ⟨B, 1, none⟩ (.int .i64 ((k : Int) + 1))) from ⟨_, len, cap, k + 1, by rw [HB2.out]; rfl, by omega, h2, HN.out.below ((show Below n₀ W (W.drewN nq) from ⟨rfl, rfl, rfl, Nat.le_refl _, fun _ _ => rfl⟩).setCell (p := ⟨B, 1, none⟩) hB _)⟩)
    generalize (W.drewN nq).setCell ⟨B, 1, none⟩ (.int .i64 ((k : Int) + 1)) = W2 at *
    have d0 : W2.cell? ⟨B, 0, none⟩ = some (.slice (some ⟨b, off, none⟩) len cap) := by rw [cell_of_row _ _ _ _ _ _ HB2.out]; rfl
    have d1 : W2.cell? ⟨B, 1, none⟩ = some (.int .i64 ((k : Int) + 1)) := by rw [cell_of_row _ _ _ _ _ _ HB2.out]; rfl
    have d2 : W2.cell? ⟨b, off + k, none⟩ = some (.int .i64 z) := by
      have hlt3 : b < W.heap.size := block_lt_of_cell hz
      exact (World.cell?_of_block (a := ⟨b, off + k, none⟩) (g1.out.block b hlt3 (fun e => hne (Option.some.inj e)))).trans hz
    clear c0 c1 f1 hz
    go_quiet (fail)
    go_wp2_with fail
    go_ret
    exact ⟨rfl, grown_trans g1.out (grown_drewN _ _ _), HS2.out⟩
  · obtain rfl : k = len := by omega
    obtain rfl := hz1 rfl
    clear hz0 hz1
    have hlt2 : (k : Int) ≤ (k : Int) := by omega
    go_enter Try.func46, Try.ntmps46
    go_wp2_with fail
    go_quiet (fail)
    go_wp2_with fail
    go_ret
    exact ⟨rfl, grown_drewN _ _ _, ⟨a, k, cap, k, HB.out, by omega, h2, HN.out⟩⟩


/-- the next number does not hang on what was laid down since -/
theorem raw_det (n₀ B : Nat) (hB : n₀ ≤ B) (W : World) (hn : n₀ ≤ W.heap.size) (hS : SrcOK n₀ B W) : ∃ z : Int, -9223372036854775808 ≤ z ∧ z ≤ 9223372036854775807 ∧ ∀ V, Below W.heap.size W V →
    Calls Try.prog 46 #[.pointer (some ⟨B, 0, none⟩)] V fun e V' => e = .returned (.int .i64 z) ∧ Hid (V.grownBy V' (some B) ∧ SrcOK n₀ B V') := by
  have hl := hS.lt
  obtain ⟨a, len, cap, k, hb, h1, h2, h3⟩ := hS
  by_cases hlt : k < len
  · obtain ⟨b, off, rfl, hbn, hc⟩ := id h3 |>.resolve_left (by omega)
    obtain ⟨z, z1, z2, hz⟩ := hc k hlt
    exact ⟨z, z1, z2, fun V hV => raw_val n₀ B hB V _ len cap k ((hV.block B hl).trans hb) h1 h2 (h3.below (hV.mono hn)) z (fun _ => ⟨b, off, rfl, hbn, (hV.cell (p := ⟨b, off + k, none⟩) (block_lt_of_cell hz)).trans hz⟩) (fun e => by omega)⟩
  · exact ⟨0, by omega, by omega, fun V hV => raw_val n₀ B hB V a len cap k ((hV.block B hl).trans hb) h1 h2 (h3.below (hV.mono hn)) 0 (fun e => absurd e hlt) (fun _ => rfl)⟩
theorem n_det (n₀ B : Nat) (hB : n₀ ≤ B) (m : Int) (hm : 1 ≤ m) (hm2 : m ≤ 1000000) (W : World) (hn : n₀ ≤ W.heap.size) (hS : SrcOK n₀ B W) : ∃ q : Int, 0 ≤ q ∧ q < m ∧ ∀ V, Below W.heap.size W V →
    Calls Try.prog 28 #[.pointer (some ⟨B, 0, none⟩), .int .i64 m] V fun e V' => e = .returned (.int .i64 q) ∧ Hid (V.grownBy V' (some B) ∧ SrcOK n₀ B V') := by
  obtain ⟨z, z1, z2, hz⟩ := raw_det n₀ B hB W hn hS
  obtain ⟨y, hy⟩ : ∃ y, z.tmod m = y := ⟨_, rfl⟩
  have y1 : -m < y ∧ y < m := by
    rw [← hy]
    have h1 := Int.tmod_lt_of_pos z (show 0 < m by omega)
    have h2 := Int.tmod_lt_of_pos (-z) (show 0 < m by omega)
    rw [Int.neg_tmod] at h2
    omega
  obtain ⟨y1, y2⟩ := y1
  have w1 : IntKind.i64.wrap y = y := IntWalk.i64_in _ (by omega)
  have hm3 : ¬ m < 1 := by omega
  have hne : (m == 0) = false := beq_eq_false_iff_ne.2 (by omega)
  by_cases hneg : y < 0
  · refine ⟨y + m, by omega, by omega, fun V hV => ?_⟩
    have HZ := hid (hz V hV)
    clear hz hV
    go_enter Try.func28, Try.ntmps28
    go_wp2_with fail
    refine HZ.out.mono ?_
    rintro e W1 ⟨rfl, H1⟩
    go_wp2_with fail
    go_ret
    exact ⟨rfl, H1⟩
  · refine ⟨y, by omega, by omega, fun V hV => ?_⟩
    have HZ := hid (hz V hV)
    clear hz hV
    go_enter Try.func28, Try.ntmps28
    go_wp2_with fail
    refine HZ.out.mono ?_
    rintro e W1 ⟨rfl, H1⟩
    go_wp2_with fail
    go_ret
    exact ⟨rfl, H1⟩
end Go.Proofs.Ytablogkafbajaaa
