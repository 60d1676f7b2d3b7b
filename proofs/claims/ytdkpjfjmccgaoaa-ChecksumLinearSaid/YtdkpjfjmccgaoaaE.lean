/- The product of two registers, powers of x, and Combine of layer 1. No conditions but those of each theorem. -/
import Derived.Test.YtdkpjfjmccgaoaaD
import Derived.Test.YtdkpjfjmccgaoaaM
namespace Go.Proofs.Ytdkpjfjmccgaoaa
open Go.ChangeShapes Go.WideShapes Go.ChangeAt Go.RowKit
set_option linter.unusedVariables false

theorem and_bit (a k : Nat) (ha : a < 2 ^ 32) (hk : k < 32) (m : Nat) (hm : m = 2147483648 >>> k) :
    (bits .and .u32 (a : Int) (m : Int) == 0) = !a.testBit (31 - k) ∧ m ≠ 0 ∧ m < 2 ^ 32 := by
  have e : 2147483648 >>> k = 2 ^ (31 - k) := by
    rw [Nat.shiftRight_eq_div_pow, show (2147483648 : Nat) = 2 ^ 31 from rfl, Nat.pow_div (by omega) (by omega)]
  have hm2 : m < 2 ^ 32 := by rw [hm, e]; exact Nat.pow_lt_pow_right (by omega) (by omega)
  have hp := Nat.two_pow_pos (31 - k)
  refine ⟨?_, by rw [hm, e]; omega, hm2⟩
  rw [u32_and_nat a m ha hm2, hm, e]
  generalize 31 - k = i
  cases h : a.testBit i
  · have : a &&& 2 ^ i = 0 := by
      apply Nat.eq_of_testBit_eq; intro j
      rw [Nat.testBit_and, Nat.testBit_two_pow, Nat.zero_testBit]
      by_cases e : i = j
      · subst e; simp [h]
      · simp [e]
    rw [this]; rfl
  · have : a &&& 2 ^ i ≠ 0 := fun h0 => by
      have h1 : (a &&& 2 ^ i).testBit i = true := by rw [Nat.testBit_and, Nat.testBit_two_pow]; simp [h]
      rw [h0, Nat.zero_testBit] at h1
      cases h1
    simp; exact this

theorem multiply_any (a b : Nat) (ha : a < 2 ^ 32) (hb : b < 2 ^ 32) (w : World) :
    Calls Try.prog 25 #[.int .u32 (a : Int), .int .u32 (b : Int)] w fun e w' => e = .returned (.int .u32 (mul a b : Nat)) ∧ w = w' := by
  have HA := hid ha
  have HB := hid hb
  clear ha hb
  go_enter Try.func25, Try.ntmps25
  go_wp2
  go_loop [1, 5, 6] (fun bv p mv => ∃ k m : Nat, k ≤ 32 ∧ bv = .int .u32 (shn k b : Nat) ∧ p = .int .u32 (mp a b k : Nat) ∧ mv = .int .u32 (m : Int) ∧ Hid (m = 2147483648 >>> k)) (fun _ _ mv => (intOf mv).toNat)
  case atStart => exact ⟨0, 2147483648, by omega, rfl, rfl, rfl, rfl⟩
  case round =>
    obtain ⟨k, m, hk, rfl, rfl, rfl, hm⟩ := hrel
    by_cases hlt : k < 32
    · obtain ⟨t1, t2, t3⟩ := and_bit a k HA.out hlt m hm.out
      have hs := shn_lt k HB.out
      have hp := mp_lt a HB.out k
      have T2 : ((m : Int) == 0) = false := by simp; omega
      have T3 := hid t3
      have T4 := hid t2
      have HS := hid (show sh (shn k b) = shn (k + 1) b from rfl)
      have HM := hid (show m / 2 = 2147483648 >>> (k + 1) by rw [Nat.shiftRight_succ, ← hm.out])
      have HMP := hid (show mp a b (k + 1) = if a.testBit (31 - k) then mp a b k ^^^ shn k b else mp a b k from rfl)
      have HX := hid (u32_xor_nat (mp a b k) (shn k b) (by omega) (by omega))
      generalize shn k b = s at *
      generalize mp a b k = p at *
      clear t2 t3
      cases hbit : a.testBit (31 - k)
      · rw [hbit] at t1 HMP
        clear hbit
        have T5 : (bits .and .u32 (a : Int) (m : Int) == 0) = true := t1
        clear t1
        go_wp2_with (first | (go_at_call 27; refine (shift_any _ (by omega) _).mono ?_; rintro e w1 ⟨rfl, rfl⟩))
        go_round
        case rel => exact ⟨k + 1, m / 2, by omega, by rw [HS.out], by rw [HMP.out]; rfl, by go_num, HM.out⟩
        case measure => simp [intOf]; have := T4.out; omega
      · rw [hbit] at t1 HMP
        clear hbit
        have T5 : (bits .and .u32 (a : Int) (m : Int) == 0) = false := t1
        clear t1
        go_wp2_with (first | (go_at_call 27; refine (shift_any _ (by omega) _).mono ?_; rintro e w1 ⟨rfl, rfl⟩))
        go_round
        case rel => exact ⟨k + 1, m / 2, by omega, by rw [HS.out], by rw [HMP.out, HX.out]; rfl, by go_num, HM.out⟩
        case measure => simp [intOf]; have := T4.out; omega
    · obtain rfl : k = 32 := by omega
      obtain rfl : m = 0 := hm.out
      have HMM := hid (show mp a b 32 = mul a b from rfl)
      go_wp2
      go_ret
      exact ⟨by rw [← HMM.out]; rfl, rfl⟩

theorem and1_i64 (n : Nat) (h : n < 4294967296) : bits .and .i64 (n : Int) 1 = ((n % 2 : Nat) : Int) := by
  have h1 : (BitVec.ofInt 64 (n : Int)).toNat = n := by
    rw [BitVec.ofInt_natCast, BitVec.toNat_ofNat]; exact Nat.mod_eq_of_lt (by omega)
  show IntKind.i64.wrap ((BitVec.ofInt 64 (n : Int) &&& BitVec.ofInt 64 1).toNat : Int) = _
  rw [BitVec.toNat_and, h1, show (BitVec.ofInt 64 1).toNat = 1 by decide, Nat.and_one_is_mod]
  exact IntWalk.i64_in _ (by omega)

theorem mul_pows (q s : Nat) : mul (shn q 2147483648) (shn s 2147483648) = shn (q + s) 2147483648 := by
  rw [mul_pow s _ (shn_lt q (by omega)), ← shn_add, Nat.add_comm]

theorem power_any (n : Nat) (hn : n < 4294967296) (w : World) :
    Calls Try.prog 26 #[.int .i64 (n : Int)] w fun e w' => e = .returned (.int .u32 (shn n 2147483648 : Nat)) ∧ w = w' := by
  go_enter Try.func26, Try.ntmps26
  go_wp2
  go_loop [0, 3, 4] (fun nv p x => ∃ m q s : Nat, m < 4294967296 ∧ nv = .int .i64 (m : Int) ∧ p = .int .u32 (shn q 2147483648 : Nat) ∧ x = .int .u32 (shn s 2147483648 : Nat) ∧ Hid (q + s * m = n)) (fun nv _ _ => (intOf nv).toNat)
  case atStart => exact ⟨n, 0, 1, hn, rfl, rfl, rfl, (by omega : 0 + 1 * n = n)⟩
  case round =>
    obtain ⟨m, q, s, hm, rfl, rfl, rfl, H⟩ := hrel
    have hq := shn_lt q (show 2147483648 < 2 ^ 32 by omega)
    have hs := shn_lt s (show 2147483648 < 2 ^ 32 by omega)
    by_cases h0 : 0 < m
    · have M1 := hid (mul_pows q s)
      have M2 := hid (mul_pows s s)
      have Hq := hid hq
      have Hs := hid hs
      generalize hgP : shn q 2147483648 = P at *
      have HgP := hid hgP
      clear hgP
      generalize shn s 2147483648 = X at *
      clear hq hs
      have e1 := and1_i64 m hm
      have h0' : (0 : Int) < m := by omega
      by_cases ho : m % 2 = 1
      · have t : (bits .and .i64 (m : Int) 1 == 1) = true := by rw [e1, ho]; rfl
        clear e1
        go_wp2_with fail
        refine (multiply_any P X Hq.out Hs.out _).mono ?_
        rintro e w1 ⟨rfl, rfl⟩
        go_wp2_with fail
        refine (multiply_any X X Hs.out Hs.out _).mono ?_
        rintro e w1 ⟨rfl, rfl⟩
        go_wp2_with fail
        go_round
        case rel => exact ⟨m / 2, q + s, s + s, by omega, by go_num, by rw [M1.out], by rw [M2.out], by
          have := H.out
          have e : s * m = s * (2 * (m / 2) + 1) := by rw [show 2 * (m / 2) + 1 = m by omega]
          show q + s + (s + s) * (m / 2) = n
          rw [← this, e, Nat.mul_add, Nat.add_mul, ← Nat.mul_assoc, Nat.mul_comm s 2, Nat.two_mul, Nat.add_mul]; omega⟩
        case measure => simp [intOf]; omega
      · have t : (bits .and .i64 (m : Int) 1 == 1) = false := by rw [e1, show m % 2 = 0 by omega]; rfl
        clear e1
        go_wp2_with fail
        refine (multiply_any X X Hs.out Hs.out _).mono ?_
        rintro e w1 ⟨rfl, rfl⟩
        go_wp2_with fail
        go_round
        case rel => exact ⟨m / 2, q, s + s, by omega, by go_num, by rw [HgP.out], by rw [M2.out], by
          have := H.out
          have e : s * m = s * (2 * (m / 2)) := by rw [show 2 * (m / 2) = m by omega]
          show q + (s + s) * (m / 2) = n
          rw [← this, e, ← Nat.mul_assoc, Nat.mul_comm s 2, Nat.two_mul]⟩
        case measure => simp [intOf]; omega
    · obtain rfl : m = 0 := by omega
      have HE := hid (show shn q 2147483648 = shn n 2147483648 by have := H.out; simp at this; rw [this])
      go_wp2
      go_ret
      exact ⟨by rw [← HE.out]; rfl, rfl⟩

theorem power64 (n : Nat) (hn : n ≤ 65536) (w : World) :
    Calls Try.prog 26 #[.int .i64 (64 * (n : Int))] w fun e w' => e = .returned (.int .u32 (shn (64 * n) 2147483648 : Nat)) ∧ w = w' := by
  have h := power_any (64 * n) (by omega) w
  rwa [Int.natCast_mul] at h

theorem combine_ok (a b n : Nat) (ha : a < 2 ^ 32) (hb : b < 2 ^ 32) (hn : n ≤ 65536) (w : World) :
    Calls Try.prog 19 #[.int .u32 (a : Int), .int .u32 (b : Int), .int .i64 (n : Int)] w fun e w' => e = .returned (.tuple #[.int .u32 (shn (64 * n) a ^^^ b : Nat), .int .i64 0]) ∧ w = w' := by
  have M := hid (mul_pow (64 * n) a ha)
  have hp := shn_lt (64 * n) (show 2147483648 < 2 ^ 32 by omega)
  have HX := hid (u32_xor_nat (shn (64 * n) a) b (shn_lt _ ha) hb)
  have HA := hid ha
  have hn1 : ¬ (65536 < (n : Int)) := by omega
  have PW := hid (power64 n hn)
  generalize hPP : shn (64 * n) 2147483648 = P at M hp PW
  have HP := hid hp
  clear hPP hp ha
  go_enter Try.func19, Try.ntmps19
  go_wp2_with fail
  refine (PW.out _).mono ?_
  rintro e w1 ⟨rfl, rfl⟩
  go_wp2_with fail
  refine (multiply_any a P HA.out HP.out _).mono ?_
  rintro e w1 ⟨rfl, rfl⟩
  rw [M.out]
  go_wp2_with fail
  go_ret2
  exact ⟨by rw [← HX.out]; rfl, rfl⟩

theorem combine_sum (a b m n : Nat) (ha : a < 2 ^ 32) (hb : b < 2 ^ 32) (hn : m + n ≤ 65536) (w : World) :
    Calls Try.prog 19 #[.int .u32 (a : Int), .int .u32 (b : Int), .int .i64 ((m : Int) + (n : Int))] w fun e w' => e = .returned (.tuple #[.int .u32 (shn (64 * (m + n)) a ^^^ b : Nat), .int .i64 0]) ∧ w = w' := by
  have h := combine_ok a b (m + n) ha hb hn w
  rwa [Int.natCast_add] at h

theorem assoc_law (a b c m n : Nat) (ha : a < 2 ^ 32) (hb : b < 2 ^ 32) : shn (64 * (m + n)) a ^^^ (shn (64 * n) b ^^^ c) = shn (64 * n) (shn (64 * m) a ^^^ b) ^^^ c := by
  rw [shn_lin (64 * n) _ _ (shn_lt _ ha) hb, ← shn_add, ← Nat.xor_assoc, show 64 * n + 64 * m = 64 * (m + n) by omega]
end Go.Proofs.Ytdkpjfjmccgaoaa
