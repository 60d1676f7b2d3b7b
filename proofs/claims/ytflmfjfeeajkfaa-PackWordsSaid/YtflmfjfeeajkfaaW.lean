/- FromText of layer 2 where bytes behind the text are not 0. No conditions but those of each theorem. -/
import Derived.Test.YtflmfjfeeajkfaaV
namespace Go.Proofs.Ytflmfjfeeajkfaa
open Go.ChangeShapes Go.WideShapes Go.ChangeAt Go.RowKit
set_option linter.unusedVariables false
set_option linter.unusedSimpArgs false

set_option maxHeartbeats 1000000 in
theorem ft_pad (a : Option Addr) (L cap n : Nat) (ws : List Nat) (n₀ : Nat) (w : World) (hn₀ : n₀ ≤ w.heap.size) (hW : Wd n₀ w a (L + 1) cap ws) (h0 : ws[0]?.getD 0 = n) (hb : n ≤ 8192) (hn : L + 1 = ln n) (k0 : Nat) (hk1 : n ≤ k0) (hk2 : k0 < 8 * L) (hk0 : fbt ws k0 ≠ 0) (hp : ∀ i, n ≤ i → i < k0 → fbt ws i = 0) :
    Calls Try.prog 15 #[.slice a (L + 1) cap] w fun e w' => e = .returned (.tuple #[.string { data := #[] }, .int .i64 2]) ∧ Below w.heap.size w w' := by
  obtain ⟨i0, hi, hz0, hz1, hz2⟩ := info_parts Try.info5
  have HI := hid hi; have HZ0 := hid hz0; have HZ1 := hid hz1; have HZ2 := hid hz2
  have hL : L ≤ 2000 ∧ n ≤ 8 * L := by unfold ln at hn; omega
  obtain ⟨hL1, hL2⟩ := hL
  have M0 := hid (show 8 * (L : Int) = ((8 * L : Nat) : Int) by omega)
  have M1 := hid (show i0.bytes * (8 * L) ≤ 281474976710656 by rw [hz2]; omega)
  have M2 := hid (show 8 * L ≤ maxLen by unfold maxLen; omega)
  have Z1 := hid (rowb_zero (8 * L) (fun j => if j < 0 then fbt ws j else 0) (fun _ _ => if_neg (by omega)))
  clear hi hz0 hz1 hz2
  have HP := hid hp
  have HK0 := hid hk0
  clear hk0
  have HB := hid hW.2.1
  obtain ⟨b, off, rfl, hbn, hc⟩ := hW.2.2.2.resolve_left (by omega)
  have hc0 := hc 0 (by omega)
  rw [h0] at hc0
  simp only [Nat.add_zero] at hc0
  have HC := hid hc
  have hl3 : (0 : Int) < (L : Int) + 1 := by omega
  have hl2 : ((L : Int) + 1 == 0) = false := beq_eq_false_iff_ne.2 (by omega)
  have hb2 : decide (8192 < (n : Int)) = false := decide_eq_false (by omega)
  have hw1 : IntKind.i64.wrap (n : Int) = (n : Int) := IntWalk.i64_in _ (by omega)
  have H := hid (length_nat n (by omega) w)
  rw [← hn] at H
  clear hW hc h0 hp hn
  go_enter Try.func15, Try.ntmps15
  go_wp2_with fail
  refine H.out.mono ?_
  rintro e w' ⟨rfl, rfl⟩
  go_wp2_with (first | (refine wpList_make_full _ rfl _ _ 51 rfl w.heap.size 5 i0 (.int .u8 0) 1 Try.underlying51 HI.out HZ0.out HZ1.out .i64 .i64 (8 * (L : Int)) (8 * (L : Int)) (8 * L) rfl rfl M0.out M0.out M1.out M2.out (Nat.le_refl _) ?_; intro w3 hown3 hgrow3; rw [Z1.out] at hown3))
  have HD := hid hown3
  have HB3 := hid (((Below.refl w.heap.size w).grown hgrow3 (Nat.le_refl _) (fun k e => by cases e)))
  clear hown3 hgrow3 hc0 hl3 hl2 hb2 hw1 H M1 M2 Z1
  go_loopw [37] (fun iv wr => ∃ k : Nat, k ≤ k0 ∧ iv = .int .i64 (k : Int) ∧ Hid (wr.ownsRow w.heap.size 5 1 (.slice (some ⟨w.heap.size, 0, none⟩) (8 * L) (8 * L)) (8 * L) (rowb (8 * L) (fun j => if j < k then fbt ws j else 0))) ∧ Hid (Below w.heap.size w wr)) (fun iv _ => 8 * L - (intOf iv).toNat)
  case atStart => exact ⟨0, by omega, rfl, HD, HB3⟩
  case round =>
    obtain ⟨k, hk, rfl, HD, HB4⟩ := hrel
    · have hlt : k < 8 * L := by omega
      have hlt2 : (k : Int) < 8 * (L : Int) := by omega
      obtain ⟨q, hq1⟩ : ∃ q, q = k / 8 := ⟨_, rfl⟩
      obtain ⟨r, hr1⟩ : ∃ r, r = k % 8 := ⟨_, rfl⟩
      have q2 : (k : Int) / 8 = (q : Int) := by omega
      have r2 : (k : Int) % 8 = (r : Int) := by omega
      have r3 : r < 8 := by omega
      have q0 : 1 + q < L + 1 := by omega
      have q3 : 1 + (q : Int) < (L : Int) + 1 := by omega
      have q4 : 0 ≤ 1 + (q : Int) := by omega
      have q5 : (1 + (q : Int)).toNat = 1 + q := by omega
      have r4 : 0 ≤ 8 * (r : Int) := by omega
      have r5 : (8 * (r : Int)).toNat = 8 * r := by omega
      have w5 : (k : Int).tmod 8 = (r : Int) := by rw [Int.tmod_eq_emod_of_nonneg (by omega)]; exact r2
      have hcq := (HB4.out.cell (p := ⟨b, off + (1 + q), none⟩) (Nat.lt_of_lt_of_le hbn hn₀)).trans (HC.out (1 + q) q0)
      have hx := HB.out (1 + q) q0
      have e1 := u8_byte (ws[1 + q]?.getD 0) (8 * r) hx
      have e2 := hid (show fbt ws k = ws[1 + q]?.getD 0 / 2 ^ (8 * r) % 256 by rw [hq1, hr1]; rfl)
      clear hq1 hr1
      have t1 := ownb_at HD.out k hlt rfl
      have t2 := HD.out.frozenAt k
      generalize ws[1 + q]?.getD 0 = x at *
      rw [if_neg (Nat.lt_irrefl k)] at t1
      rw [← e2.out] at e1
      have HN := hid (rowb_set (8 * L) (fun j => if j < k then fbt ws j else 0) (fun j => if j < k + 1 then fbt ws j else 0) k (fbt ws k) (fun j _ => by
        by_cases e : j = k
        · subst e; simp
        · rw [if_neg e]
          by_cases e3 : j < k
          · rw [if_pos e3, if_pos (by omega)]
          · rw [if_neg e3, if_neg (by omega)]))
      have HD2 := hid (HD.out.stored k (.int .u8 (fbt ws k : Int))).1
      rw [HN.out] at HD2
      have HB5 := hid (HB4.out.setCell (p := ⟨w.heap.size, k, none⟩) (Nat.le_refl _) (.int .u8 (fbt ws k : Int)))
      have t3 := ownb_at HD2.out k hlt rfl
      rw [if_pos (Nat.lt_succ_self k)] at t3
      by_cases hkn : k < n
      · have hkn2 : decide ((n : Int) ≤ (k : Int)) = false := decide_eq_false (by omega)
        generalize fbt ws k = y at *
        go_wp2_with fail
        go_roundw
        case rel => exact ⟨k + 1, by omega, by go_num, HD2, HB5⟩
        case measure => simp [intOf]; omega
      · have hkn2 : decide ((n : Int) ≤ (k : Int)) = true := decide_eq_true (by omega)
        by_cases hk : k < k0
        · have hy := HP.out k (by omega) hk
          rw [hy] at e1 HD2 HB5 t3
          clear hy HN
          go_wp2_with fail
          go_roundw
          case rel => exact ⟨k + 1, by omega, by go_num, HD2, HB5⟩
          case measure => simp [intOf]; omega
        · obtain rfl : k = k0 := by omega
          have hy := HK0.out
          generalize fbt ws k = y at *
          have hy2 : ((y : Int) != 0) = true := by rw [bne_iff_ne]; omega
          clear hy HN HK0
          go_wp2_with fail
          go_ret2
          exact ⟨rfl, HB5.out⟩
end Go.Proofs.Ytflmfjfeeajkfaa
