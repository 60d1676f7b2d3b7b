/- FromText of the reference of layer 2: the text, or its error. No conditions but those of each theorem. -/
import Derived.Test.YtflmfjfeeajkfaaW
namespace Go.Proofs.Ytflmfjfeeajkfaa
open Go.ChangeShapes Go.WideShapes Go.ChangeAt Go.RowKit
set_option linter.unusedVariables false
set_option linter.unusedSimpArgs false

theorem u64_len (len : Nat) (h : len ≤ 100000) : IntKind.u64.wrap (len : Int) = (len : Int) := by simp [IntKind.wrap, IntKind.bits, IntKind.signed]; omega
theorem u64_len8 (len : Nat) (h : len ≤ 100000) : IntKind.u64.wrap (8 * (len : Int)) = 8 * (len : Int) := by simp [IntKind.wrap, IntKind.bits, IntKind.signed]; omega
theorem u64_len1 (len : Nat) (h : len ≤ 100000) : IntKind.u64.wrap ((len : Int) + 1) = (len : Int) + 1 := by simp [IntKind.wrap, IntKind.bits, IntKind.signed]; omega
theorem u64_len81 (len : Nat) (h : len ≤ 100000) : IntKind.u64.wrap (8 * ((len : Int) + 1)) = 8 * ((len : Int) + 1) := by simp [IntKind.wrap, IntKind.bits, IntKind.signed]; omega
theorem rft_short (a : Option Addr) (cap : Nat) (w : World) :
    Calls Try.prog 17 #[.slice a 0 cap] w fun e w' => e = .returned (.tuple #[.string { data := #[] }, .int .i64 2]) ∧ w = w' := by
  go_enter Try.func17, Try.ntmps17
  go_wp2_with fail
  go_ret2
  exact ⟨rfl, rfl⟩
theorem rft_big (a : Option Addr) (len cap : Nat) (ws : List Nat) (n₀ : Nat) (hl : 1 ≤ len) (hl1 : len ≤ 100000) (w : World) (hW : Wd n₀ w a len cap ws) (hb : 8 * len < ws[0]?.getD 0) :
    Calls Try.prog 17 #[.slice a len cap] w fun e w' => e = .returned (.tuple #[.string { data := #[] }, .int .i64 2]) ∧ w = w' := by
  obtain ⟨b, off, rfl, _, hc⟩ := hW.2.2.2.resolve_left (by omega)
  have hc0 := hc 0 (by omega)
  simp only [Nat.add_zero] at hc0
  have hl2 : ((len : Int) == 0) = false := beq_eq_false_iff_ne.2 (by omega)
  have hl3 : (0 : Int) < (len : Int) := by omega
  have u1 := u64_len len hl1
  have u2 := u64_len8 len hl1
  clear hW hc
  generalize ws[0]?.getD 0 = x at *
  have hb2 : 8 * (len : Int) < (x : Int) := by omega
  go_enter Try.func17, Try.ntmps17
  go_wp2_with fail
  go_ret2
  exact ⟨rfl, rfl⟩
theorem rft_len (a : Option Addr) (len cap : Nat) (ws : List Nat) (n₀ : Nat) (hl : 1 ≤ len) (hl1 : len ≤ 100000) (w : World) (hW : Wd n₀ w a len cap ws) (hb : ws[0]?.getD 0 ≤ 8 * len) (hn : len ≠ ln (ws[0]?.getD 0)) :
    Calls Try.prog 17 #[.slice a len cap] w fun e w' => e = .returned (.tuple #[.string { data := #[] }, .int .i64 2]) ∧ w = w' := by
  obtain ⟨b, off, rfl, _, hc⟩ := hW.2.2.2.resolve_left (by omega)
  have hc0 := hc 0 (by omega)
  simp only [Nat.add_zero] at hc0
  have hl2 : ((len : Int) == 0) = false := beq_eq_false_iff_ne.2 (by omega)
  have hl3 : (0 : Int) < (len : Int) := by omega
  have u1 := u64_len len hl1
  have u2 := u64_len8 len hl1
  clear hW hc
  generalize ws[0]?.getD 0 = x at *
  have hb2 : decide (8 * (len : Int) < (x : Int)) = false := decide_eq_false (by omega)
  have hw1 : IntKind.i64.wrap (x : Int) = (x : Int) := IntWalk.i64_in _ (by omega)
  have H := hid (rlength_nat x (by omega) w)
  have hne : ((ln x : Int) != (len : Int)) = true := by rw [bne_iff_ne]; omega
  clear hn
  generalize ln x = m at *
  go_enter Try.func17, Try.ntmps17
  go_wp2_with fail
  refine H.out.mono ?_
  rintro e w' ⟨rfl, rfl⟩
  go_wp2_with fail
  go_ret2
  exact ⟨rfl, rfl⟩

theorem rowb_past {w : World} {base : Nat} {v : Value} {n k : Nat} {ws : List Nat} (h : w.ownsRow base 5 1 v n (rowb n (fun j => if j < k then fbt ws j else 0))) (hk : n ≤ k) : w.ownsRow base 5 1 v n (rowb n (fun j => if j < k + 1 then fbt ws j else 0)) := by
  have e : rowb n (fun j => if j < k + 1 then fbt ws j else 0) = rowb n (fun j => if j < k then fbt ws j else 0) := by
    apply List.ext_getElem?
    intro j
    by_cases hj : j < n
    · rw [rowb_at _ _ _ hj, rowb_at _ _ _ hj, if_pos (by omega), if_pos (by omega)]
    · simp [rowb, hj]
  rw [e]; exact h

set_option maxHeartbeats 1000000 in
theorem rft_ok (a : Option Addr) (L cap n : Nat) (ws : List Nat) (n₀ : Nat) (w : World) (hn₀ : n₀ ≤ w.heap.size) (hW : Wd n₀ w a (L + 1) cap ws) (h0 : ws[0]?.getD 0 = n) (hb : n ≤ 8192) (hn : L + 1 = ln n) (hp : ∀ i, n ≤ i → i < 8 * L → fbt ws i = 0) :
    Calls Try.prog 17 #[.slice a (L + 1) cap] w fun e w' => e = .returned (.tuple #[.string (tx ws n), .int .i64 0]) ∧ Below w.heap.size w w' := by
  obtain ⟨i0, hi, hz0, hz1, hz2⟩ := info_parts Try.info5
  have HI := hid hi; have HZ0 := hid hz0; have HZ1 := hid hz1; have HZ2 := hid hz2
  have hL : L ≤ 2000 ∧ n ≤ 8 * L := by unfold ln at hn; omega
  obtain ⟨hL1, hL2⟩ := hL
  have M1 := hid (show i0.bytes * n ≤ 281474976710656 by rw [hz2]; omega)
  have M2 := hid (show n ≤ maxLen by unfold maxLen; omega)
  have Z1 := hid (rowb_zero n (fun j => if j < 0 then fbt ws j else 0) (fun _ _ => if_neg (by omega)))
  clear hi hz0 hz1 hz2
  have HP := hid hp
  have HB := hid hW.2.1
  obtain ⟨b, off, rfl, hbn, hc⟩ := hW.2.2.2.resolve_left (by omega)
  have hc0 := hc 0 (by omega)
  rw [h0] at hc0
  simp only [Nat.add_zero] at hc0
  have HC := hid hc
  have hl3 : (0 : Int) < (L : Int) + 1 := by omega
  have hl2 : ((L : Int) + 1 == 0) = false := beq_eq_false_iff_ne.2 (by omega)
  have hb2 : decide (8 * ((L : Int) + 1) < (n : Int)) = false := decide_eq_false (by omega)
  have u1 := u64_len1 L (by omega)
  have u2 := u64_len81 L (by omega)
  have hw1 : IntKind.i64.wrap (n : Int) = (n : Int) := IntWalk.i64_in _ (by omega)
  have H := hid (rlength_nat n (by omega) w)
  rw [← hn] at H
  clear hW hc h0 hp hn
  go_enter Try.func17, Try.ntmps17
  go_wp2_with fail
  refine H.out.mono ?_
  rintro e w' ⟨rfl, rfl⟩
  go_wp2_with (first | (refine wpList_make_full _ rfl _ _ 51 rfl w.heap.size 5 i0 (.int .u8 0) 1 Try.underlying51 HI.out HZ0.out HZ1.out .i64 .i64 (n : Int) (n : Int) n rfl rfl rfl rfl M1.out M2.out (Nat.le_refl _) ?_; intro w3 hown3 hgrow3; rw [Z1.out] at hown3))
  have HD := hid hown3
  have HB3 := hid (((Below.refl w.heap.size w).grown hgrow3 (Nat.le_refl _) (fun k e => by cases e)))
  clear hown3 hgrow3 hc0 hl3 hl2 hb2 hw1 H M1 M2 Z1 u1 u2
  go_loopw [6] (fun iv wr => ∃ k : Nat, k ≤ 8 * L ∧ iv = .int .i64 (k : Int) ∧ Hid (wr.ownsRow w.heap.size 5 1 (.slice (some ⟨w.heap.size, 0, none⟩) n n) n (rowb n (fun j => if j < k then fbt ws j else 0))) ∧ Hid (Below w.heap.size w wr)) (fun iv _ => 8 * L - (intOf iv).toNat)
  case atStart => exact ⟨0, by omega, rfl, HD, HB3⟩
  case round =>
    obtain ⟨k, hk, rfl, HD, HB4⟩ := hrel
    by_cases hlt : k < 8 * L
    · have hlt2 : (k : Int) < 8 * (L : Int) := by omega
      obtain ⟨q, hq1⟩ : ∃ q, q = k / 8 := ⟨_, rfl⟩
      obtain ⟨r, hr1⟩ : ∃ r, r = k % 8 := ⟨_, rfl⟩
      have q2 : (k : Int) / 8 = (q : Int) := by omega
      have r2 : (k : Int) % 8 = (r : Int) := by omega
      have r3 : r < 8 := by omega
      have q0 : 1 + q < L + 1 := by omega
      have q3 : 1 + (q : Int) < (L : Int) + 1 := by omega
      have q4 : 0 ≤ 1 + (q : Int) := by omega
      have q5 : (1 + (q : Int)).toNat = 1 + q := by omega
      have r4 : 0 ≤ 8 * (r : Int) := by omega
      have r5 : (8 * (r : Int)).toNat = 8 * r := by omega
      have w5 : (k : Int).tmod 8 = (r : Int) := by rw [Int.tmod_eq_emod_of_nonneg (by omega)]; exact r2
      have hcq := (HB4.out.cell (p := ⟨b, off + (1 + q), none⟩) (Nat.lt_of_lt_of_le hbn hn₀)).trans (HC.out (1 + q) q0)
      have hx := HB.out (1 + q) q0
      have e1 := u8_byte (ws[1 + q]?.getD 0) (8 * r) hx
      have e2 := hid (show fbt ws k = ws[1 + q]?.getD 0 / 2 ^ (8 * r) % 256 by rw [hq1, hr1]; rfl)
      clear hq1 hr1
      generalize ws[1 + q]?.getD 0 = x at *
      rw [← e2.out] at e1
      have HN := hid (rowb_set n (fun j => if j < k then fbt ws j else 0) (fun j => if j < k + 1 then fbt ws j else 0) k (fbt ws k) (fun j _ => by
        by_cases e : j = k
        · subst e; simp
        · rw [if_neg e]
          by_cases e3 : j < k
          · rw [if_pos e3, if_pos (by omega)]
          · rw [if_neg e3, if_neg (by omega)]))
      by_cases hkn : k < n
      · have hkn2 : (k : Int) < (n : Int) := by omega
        have t1 := ownb_at HD.out k hkn rfl
        have t2 := HD.out.frozenAt k
        rw [if_neg (Nat.lt_irrefl k)] at t1
        have HD2 := hid (HD.out.stored k (.int .u8 (fbt ws k : Int))).1
        rw [HN.out] at HD2
        have HB5 := hid (HB4.out.setCell (p := ⟨w.heap.size, k, none⟩) (Nat.le_refl _) (.int .u8 (fbt ws k : Int)))
        generalize fbt ws k = y at *
        go_wp2_with fail
        go_roundw
        case rel => exact ⟨k + 1, by omega, by go_num, HD2, HB5⟩
        case measure => simp [intOf]; omega
      · have hkn2 : ¬ (k : Int) < (n : Int) := by omega
        have HD2 := hid (rowb_past HD.out (Nat.le_of_not_lt hkn))
        have hy := HP.out k (by omega) hlt
        rw [hy] at e1
        clear hy HN
        go_wp2_with fail
        go_roundw
        case rel => exact ⟨k + 1, by omega, by go_num, HD2, HB4⟩
        case measure => simp [intOf]; omega
    · obtain rfl : k = 8 * L := by omega
      have hlt2 : ¬ 8 * (L : Int) < 8 * (L : Int) := by omega
      have hn2 : (n : Int) ≤ 8 * (L : Int) := by omega
      have kc := tx_back (P := Try.prog) wr 51 9 5 w.heap.size n n n ws _ Try.underlying51 Try.underlying5 Try.underlying9 (own_zero HD.out) (Nat.le_refl _) (fun i hi => if_pos (by omega))
      go_wp2_with fail
      go_ret2
      exact ⟨rfl, HB4.out⟩

set_option maxHeartbeats 1000000 in
theorem rft_pad (a : Option Addr) (L cap n : Nat) (ws : List Nat) (n₀ : Nat) (w : World) (hn₀ : n₀ ≤ w.heap.size) (hW : Wd n₀ w a (L + 1) cap ws) (h0 : ws[0]?.getD 0 = n) (hb : n ≤ 8192) (hn : L + 1 = ln n) (k0 : Nat) (hk1 : n ≤ k0) (hk2 : k0 < 8 * L) (hk0 : fbt ws k0 ≠ 0) (hp : ∀ i, n ≤ i → i < k0 → fbt ws i = 0) :
    Calls Try.prog 17 #[.slice a (L + 1) cap] w fun e w' => e = .returned (.tuple #[.string { data := #[] }, .int .i64 2]) ∧ Below w.heap.size w w' := by
  obtain ⟨i0, hi, hz0, hz1, hz2⟩ := info_parts Try.info5
  have HI := hid hi; have HZ0 := hid hz0; have HZ1 := hid hz1; have HZ2 := hid hz2
  have hL : L ≤ 2000 ∧ n ≤ 8 * L := by unfold ln at hn; omega
  obtain ⟨hL1, hL2⟩ := hL
  have M1 := hid (show i0.bytes * n ≤ 281474976710656 by rw [hz2]; omega)
  have M2 := hid (show n ≤ maxLen by unfold maxLen; omega)
  have Z1 := hid (rowb_zero n (fun j => if j < 0 then fbt ws j else 0) (fun _ _ => if_neg (by omega)))
  clear hi hz0 hz1 hz2
  have HP := hid hp
  have HK0 := hid hk0
  clear hk0
  have HB := hid hW.2.1
  obtain ⟨b, off, rfl, hbn, hc⟩ := hW.2.2.2.resolve_left (by omega)
  have hc0 := hc 0 (by omega)
  rw [h0] at hc0
  simp only [Nat.add_zero] at hc0
  have HC := hid hc
  have hl3 : (0 : Int) < (L : Int) + 1 := by omega
  have hl2 : ((L : Int) + 1 == 0) = false := beq_eq_false_iff_ne.2 (by omega)
  have hb2 : decide (8 * ((L : Int) + 1) < (n : Int)) = false := decide_eq_false (by omega)
  have u1 := u64_len1 L (by omega)
  have u2 := u64_len81 L (by omega)
  have hw1 : IntKind.i64.wrap (n : Int) = (n : Int) := IntWalk.i64_in _ (by omega)
  have H := hid (rlength_nat n (by omega) w)
  rw [← hn] at H
  clear hW hc h0 hp hn
  go_enter Try.func17, Try.ntmps17
  go_wp2_with fail
  refine H.out.mono ?_
  rintro e w' ⟨rfl, rfl⟩
  go_wp2_with (first | (refine wpList_make_full _ rfl _ _ 51 rfl w.heap.size 5 i0 (.int .u8 0) 1 Try.underlying51 HI.out HZ0.out HZ1.out .i64 .i64 (n : Int) (n : Int) n rfl rfl rfl rfl M1.out M2.out (Nat.le_refl _) ?_; intro w3 hown3 hgrow3; rw [Z1.out] at hown3))
  have HD := hid hown3
  have HB3 := hid (((Below.refl w.heap.size w).grown hgrow3 (Nat.le_refl _) (fun k e => by cases e)))
  clear hown3 hgrow3 hc0 hl3 hl2 hb2 hw1 H M1 M2 Z1 u1 u2
  go_loopw [6] (fun iv wr => ∃ k : Nat, k ≤ k0 ∧ iv = .int .i64 (k : Int) ∧ Hid (wr.ownsRow w.heap.size 5 1 (.slice (some ⟨w.heap.size, 0, none⟩) n n) n (rowb n (fun j => if j < k then fbt ws j else 0))) ∧ Hid (Below w.heap.size w wr)) (fun iv _ => 8 * L - (intOf iv).toNat)
  case atStart => exact ⟨0, by omega, rfl, HD, HB3⟩
  case round =>
    obtain ⟨k, hk, rfl, HD, HB4⟩ := hrel
    · have hlt : k < 8 * L := by omega
      have hlt2 : (k : Int) < 8 * (L : Int) := by omega
      obtain ⟨q, hq1⟩ : ∃ q, q = k / 8 := ⟨_, rfl⟩
      obtain ⟨r, hr1⟩ : ∃ r, r = k % 8 := ⟨_, rfl⟩
      have q2 : (k : Int) / 8 = (q : Int) := by omega
      have r2 : (k : Int) % 8 = (r : Int) := by omega
      have r3 : r < 8 := by omega
      have q0 : 1 + q < L + 1 := by omega
      have q3 : 1 + (q : Int) < (L : Int) + 1 := by omega
      have q4 : 0 ≤ 1 + (q : Int) := by omega
      have q5 : (1 + (q : Int)).toNat = 1 + q := by omega
      have r4 : 0 ≤ 8 * (r : Int) := by omega
      have r5 : (8 * (r : Int)).toNat = 8 * r := by omega
      have w5 : (k : Int).tmod 8 = (r : Int) := by rw [Int.tmod_eq_emod_of_nonneg (by omega)]; exact r2
      have hcq := (HB4.out.cell (p := ⟨b, off + (1 + q), none⟩) (Nat.lt_of_lt_of_le hbn hn₀)).trans (HC.out (1 + q) q0)
      have hx := HB.out (1 + q) q0
      have e1 := u8_byte (ws[1 + q]?.getD 0) (8 * r) hx
      have e2 := hid (show fbt ws k = ws[1 + q]?.getD 0 / 2 ^ (8 * r) % 256 by rw [hq1, hr1]; rfl)
      clear hq1 hr1
      generalize ws[1 + q]?.getD 0 = x at *
      rw [← e2.out] at e1
      have HN := hid (rowb_set n (fun j => if j < k then fbt ws j else 0) (fun j => if j < k + 1 then fbt ws j else 0) k (fbt ws k) (fun j _ => by
        by_cases e : j = k
        · subst e; simp
        · rw [if_neg e]
          by_cases e3 : j < k
          · rw [if_pos e3, if_pos (by omega)]
          · rw [if_neg e3, if_neg (by omega)]))
      by_cases hkn : k < n
      · have hkn2 : (k : Int) < (n : Int) := by omega
        have t1 := ownb_at HD.out k hkn rfl
        have t2 := HD.out.frozenAt k
        rw [if_neg (Nat.lt_irrefl k)] at t1
        have HD2 := hid (HD.out.stored k (.int .u8 (fbt ws k : Int))).1
        rw [HN.out] at HD2
        have HB5 := hid (HB4.out.setCell (p := ⟨w.heap.size, k, none⟩) (Nat.le_refl _) (.int .u8 (fbt ws k : Int)))
        generalize fbt ws k = y at *
        go_wp2_with fail
        go_roundw
        case rel => exact ⟨k + 1, by omega, by go_num, HD2, HB5⟩
        case measure => simp [intOf]; omega
      · have hkn2 : ¬ (k : Int) < (n : Int) := by omega
        have HD2 := hid (rowb_past HD.out (Nat.le_of_not_lt hkn))
        by_cases hk : k < k0
        · have hy := HP.out k (by omega) hk
          rw [hy] at e1
          clear hy HN
          go_wp2_with fail
          go_roundw
          case rel => exact ⟨k + 1, by omega, by go_num, HD2, HB4⟩
          case measure => simp [intOf]; omega
        · obtain rfl : k = k0 := by omega
          have hy := HK0.out
          generalize fbt ws k = y at *
          have hy2 : ((y : Int) != 0) = true := by rw [bne_iff_ne]; omega
          clear hy HN HK0
          go_wp2_with fail
          go_ret2
          exact ⟨rfl, HB4.out⟩
end Go.Proofs.Ytflmfjfeeajkfaa
