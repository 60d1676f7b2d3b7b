/- The reference of layer 1, and what it has in common with the program. No conditions but those of each theorem. -/
import Derived.Test.YtonjaghkiaaipaaOAI
import Derived.Test.YtonjaghkiaaipaaOAM
namespace Go.Proofs.Ytonjaghkiaaipaa.OldA
open Go.ChangeShapes Go.WideShapes Go.ChangeAt Go.RowKit
set_option linter.unusedVariables false

/-- the register behind bytes -/
def fdl' (r : Nat) (bs : List B8) : Nat := bs.foldl (fun r x => fd r x.1) r

theorem step_any (r : Nat) (h : r < 4294967296) (w : World) :
    Calls Try.prog 73 #[.int .u32 (r : Int)] w fun e w' => e = .returned (.int .u32 (sh r : Nat)) ∧ w = w' := by
  have e1 := and1 r h
  by_cases hr : r % 2 = 1
  · have H := hid (show bits .xor .u32 ((r : Int) / 2) 2197175160 = (sh r : Nat) by
      rw [sh, if_pos hr, show (2197175160 : Int) = ((2197175160 : Nat) : Int) from rfl, show ((r : Int) / 2) = ((r / 2 : Nat) : Int) by omega, u32_xor_nat _ _ (by omega) (by omega)])
    have t : (bits .and .u32 (r : Int) 1 == 1) = true := by rw [e1, hr]; rfl
    clear e1
    go_enter Try.func73, Try.ntmps73
    go_wp2
    go_ret
    exact ⟨by rw [← H.out]; rfl, rfl⟩
  · have H := hid (show ((r : Int) / 2) = (sh r : Nat) by rw [sh, if_neg hr]; omega)
    have t : (bits .and .u32 (r : Int) 1 == 1) = false := by rw [e1, show r % 2 = 0 by omega]; rfl
    clear e1
    go_enter Try.func73, Try.ntmps73
    go_wp2
    go_ret
    exact ⟨by rw [← H.out]; rfl, rfl⟩

/-! a byte at once is eight steps -/
theorem shn8 (r : Nat) : shn 8 r = sh8 r := rfl
theorem sh_even (m : Nat) : sh (2 * m) = m := by
  unfold sh
  rw [if_neg (by omega)]; omega
theorem sh8_256 (m : Nat) : sh8 (256 * m) = m := by
  unfold sh8
  rw [show 256 * m = 2 * (128 * m) by omega, sh_even, show 128 * m = 2 * (64 * m) by omega, sh_even, show 64 * m = 2 * (32 * m) by omega, sh_even, show 32 * m = 2 * (16 * m) by omega, sh_even, show 16 * m = 2 * (8 * m) by omega, sh_even, show 8 * m = 2 * (4 * m) by omega, sh_even, show 4 * m = 2 * (2 * m) by omega, sh_even, sh_even]

theorem fd_sh8 (r c : Nat) (hr : r < 4294967296) (hc : c < 256) : fd r c = sh8 (r ^^^ c) := by
  have e : r ^^^ c = 256 * (r / 256) ^^^ ((r % 256) ^^^ c) := by
    have h1 : r = 256 * (r / 256) ^^^ (r % 256) := by
      have h := Nat.two_pow_add_eq_or_of_lt (i := 8) (b := r % 256) (by omega) (r / 256)
      apply Nat.eq_of_testBit_eq; intro i
      rw [Nat.testBit_xor]
      have hd : r = 2 ^ 8 * (r / 256) + r % 256 := by omega
      have hb := Nat.testBit_two_pow_mul_add (r / 256) (show r % 256 < 2 ^ 8 by omega) i
      rw [← hd] at hb
      rw [hb, show 256 * (r / 256) = 2 ^ 8 * (r / 256) by omega, Nat.testBit_two_pow_mul]
      by_cases hi : i < 8
      · simp [hi, show ¬ 8 ≤ i by omega]
      · have : (r % 256).testBit i = false := Nat.testBit_lt_two_pow (Nat.lt_of_lt_of_le (by omega : r % 256 < 2 ^ 8) (Nat.pow_le_pow_right (by omega) (by omega)))
        simp [hi, show 8 ≤ i by omega, this]
    rw [← Nat.xor_assoc, ← h1]
  have h2 := idx_lt r c hc
  rw [e, ← shn8, shn_lin 8 _ _ (by omega) (by omega), shn8, shn8, sh8_256]
  rfl

theorem feed_any (x b : Nat) (hx : x < 4294967296) (hb : b < 256) (w : World) :
    Calls Try.prog 70 #[.int .u32 (x : Int), .int .u8 (b : Int)] w fun e w' => e = .returned (.int .u32 (fd x b : Nat)) ∧ w = w' := by
  have hxb : x ^^^ b < 2 ^ 32 := Nat.xor_lt_two_pow (by omega) (by omega)
  have HX := u32_xor_nat x b hx (by omega)
  have HF := hid (show fd x b = shn 8 (x ^^^ b) by rw [shn8, fd_sh8 x b hx hb])
  generalize x ^^^ b = y at hxb HX HF
  have HY := hid hxb
  clear hxb
  go_enter Try.func70, Try.ntmps70
  go_wp2
  clear HX
  go_loop [0, 5] (fun xv i => ∃ k : Nat, k ≤ 8 ∧ i = .int .i64 (k : Int) ∧ xv = .int .u32 (shn k y : Nat)) (fun _ i => 8 - (intOf i).toNat)
  case atStart => exact ⟨0, by omega, rfl, rfl⟩
  case round =>
    obtain ⟨k, hk, rfl, rfl⟩ := hrel
    by_cases hlt : k < 8
    · have hs := hid (shn_lt k HY.out)
      have hn := hid (show sh (shn k y) = shn (k + 1) y from rfl)
      generalize shn k y = s at *
      have h2 : (k : Int) < 8 := by omega
      go_wp2_with fail
      refine (step_any _ hs.out _).mono ?_
      rintro e w1 ⟨rfl, rfl⟩
      go_wp2_with fail
      go_round
      case rel => exact ⟨k + 1, by omega, by go_num, by rw [hn.out]⟩
      case measure => simp [intOf]; omega
    · obtain rfl : k = 8 := by omega
      have h2 : ¬ ((8 : Nat) : Int) < 8 := by omega
      go_wp2_with fail
      go_ret
      exact ⟨by rw [HF.out]; rfl, rfl⟩

/-- k bytes of a word into the register -/
def wd (x v : Nat) : Nat → Nat
  | 0 => x
  | k + 1 => fd (wd x v k) (v / 256 ^ k % 256)
theorem wd_lt (x v k : Nat) (h : x < 4294967296) : wd x v k < 4294967296 := by
  induction k with
  | zero => exact h
  | succ k ih => exact fd_lt _ _ ih (Nat.mod_lt _ (by omega))

theorem word_any (x v : Nat) (hx : x < 4294967296) (hv : v < 18446744073709551616) (w : World) :
    Calls Try.prog 66 #[.int .u32 (x : Int), .int .u64 (v : Int)] w fun e w' => e = .returned (.int .u32 (wd x v 8 : Nat)) ∧ w = w' := by
  have HX := hid hx
  clear hx
  go_enter Try.func66, Try.ntmps66
  go_wp2
  go_loop [0, 5] (fun xv i => ∃ k : Nat, k ≤ 8 ∧ i = .int .i64 (k : Int) ∧ xv = .int .u32 (wd x v k : Nat)) (fun _ i => 8 - (intOf i).toNat)
  case atStart => exact ⟨0, by omega, rfl, rfl⟩
  case round =>
    obtain ⟨k, hk, rfl, rfl⟩ := hrel
    by_cases hlt : k < 8
    · have hs := hid (wd_lt x v k HX.out)
      have hn := hid (show wd x v (k + 1) = fd (wd x v k) (v / 256 ^ k % 256) from rfl)
      generalize wd x v k = s at *
      have h2 : (k : Int) < 8 := by omega
      have hb : v / 256 ^ k % 256 < 256 := Nat.mod_lt _ (by omega)
      have harg : ((v : Int) / 2 ^ (8 * k) % 256) = ((v / 256 ^ k % 256 : Nat) : Int) := by
        rw [Int.natCast_emod, Int.natCast_ediv, show (256 : Nat) ^ k = 2 ^ (8 * k) by rw [Nat.pow_mul], Int.natCast_pow]; rfl
      have HA := hid harg
      clear harg
      go_wp2_with fail
      rw [HA.out]
      refine (feed_any _ _ hs.out hb _).mono ?_
      rintro e w1 ⟨rfl, rfl⟩
      go_wp2_with fail
      go_round
      case rel => exact ⟨k + 1, by omega, by go_num, by rw [hn.out]⟩
      case measure => simp [intOf]; omega
    · obtain rfl : k = 8 := by omega
      have h2 : ¬ ((8 : Nat) : Int) < 8 := by omega
      go_wp2_with fail
      go_ret
      exact ⟨rfl, rfl⟩

/-- the words into the register -/
def wds (x : Nat) (ws : List Nat) : Nat → Nat
  | 0 => x
  | k + 1 => wd (wds x ws k) (ws[k]?.getD 0) 8
theorem wds_lt (x : Nat) (ws : List Nat) (k : Nat) (h : x < 4294967296) : wds x ws k < 4294967296 := by
  induction k with
  | zero => exact h
  | succ k ih => exact wd_lt _ _ _ ih

theorem rextend_any (sum : Nat) (hsum : sum < 4294967296) (a : Option Addr) (len cap : Nat) (ws : List Nat) (hbig : len ≤ 9223372036854775807) (n₀ : Nat) (w : World) (hI : Wo n₀ w a len ws) :
    Calls Try.prog 62 #[.int .u32 (sum : Int), .slice a len cap] w fun e w' => e = .returned (.int .u32 (nt (wds (nt sum) ws len) : Nat)) ∧ w = w' := by
  have HI := hid hI
  have HN := nt_eq sum hsum
  have HL := hid (nt_lt sum hsum)
  clear hI
  go_enter Try.func62, Try.ntmps62
  go_wp2
  clear HN
  go_loop [5, 6] (fun xv i => ∃ k : Nat, k ≤ len ∧ i = .int .i64 (k : Int) ∧ xv = .int .u32 (wds (nt sum) ws k : Nat)) (fun _ i => len - (intOf i).toNat)
  case atStart => exact ⟨0, by omega, rfl, rfl⟩
  case round =>
    obtain ⟨k, hk, rfl, rfl⟩ := hrel
    by_cases hlt : k < len
    · have hs := hid (wds_lt (nt sum) ws k HL.out)
      have hn := hid (show wds (nt sum) ws (k + 1) = wd (wds (nt sum) ws k) (ws[k]?.getD 0) 8 from rfl)
      generalize wds (nt sum) ws k = s at *
      obtain ⟨b, off, rfl, _, hall⟩ := HI.out.2.resolve_left (by omega)
      have hck := hall k hlt
      clear hall
      have hv := hid (HI.out.1 k hlt)
      generalize ws[k]?.getD 0 = v at hn hck hv
      have h2 : (k : Int) < (len : Int) := by omega
      go_wp2_with fail
      refine (word_any _ _ hs.out hv.out _).mono ?_
      rintro e w1 ⟨rfl, rfl⟩
      go_wp2_with fail
      go_round
      case rel => exact ⟨k + 1, by omega, by go_num, by rw [hn.out]⟩
      case measure => simp [intOf]; omega
    · obtain rfl : k = len := by omega
      have h2 : ¬ (k : Int) < (k : Int) := by omega
      have hr := nt_eq _ (wds_lt (nt sum) ws k HL.out)
      go_wp2_with fail
      go_ret
      exact ⟨rfl, rfl⟩

theorem rshort_any (r : Nat) (h : r < 4294967296) (w : World) :
    Calls Try.prog 51 #[.int .u32 (r : Int)] w fun e w' => e = .returned (.int .u16 ((r / 65536) ^^^ (r % 65536) : Nat)) ∧ w = w' := by
  have H := hid (show bits .xor .u16 ((r : Int) / 65536) (IntKind.u16.wrap (r : Int)) = ((r / 65536) ^^^ (r % 65536) : Nat) by
    have : IntKind.u16.wrap (r : Int) = ((r % 65536 : Nat) : Int) := by simp [IntKind.wrap, IntKind.bits, IntKind.signed]
    rw [this, show ((r : Int) / 65536) = ((r / 65536 : Nat) : Int) by omega, u16_xor_nat _ _ (by omega) (by omega)])
  go_enter Try.func51, Try.ntmps51
  go_wp2
  go_ret
  exact ⟨by rw [← H.out]; rfl, rfl⟩

/-! both ways of the words are one -/
theorem upto_add {α : Type} (f : Nat → α) (n m : Nat) : upto f (n + m) = upto f n ++ upto (fun i => f (n + i)) m := by
  induction m with
  | zero => simp [upto]
  | succ m ih => rw [← Nat.add_assoc, upto_succ, ih, upto_succ, List.append_assoc]
theorem fdl_append (r : Nat) (a b : List B8) : fdl' r (a ++ b) = fdl' (fdl' r a) b := by simp [fdl']

theorem wd_fdl (x : Nat) (ws : List Nat) (k i : Nat) (hi : i ≤ 8) : fdl' x (upto (fun j => bt8 ws (8 * k + j)) i) = wd x (ws[k]?.getD 0) i := by
  induction i with
  | zero => rfl
  | succ i ih =>
    rw [upto_succ, fdl_append, ih (by omega), wd, bt8_at ws k i _ (by omega) rfl]
    rfl

theorem wds_fdl (x : Nat) (ws : List Nat) (k : Nat) : fdl' x (upto (bt8 ws) (8 * k)) = wds x ws k := by
  induction k with
  | zero => rfl
  | succ k ih =>
    rw [show 8 * (k + 1) = 8 * k + 8 by omega, upto_add, fdl_append, ih, wds, wd_fdl _ _ _ _ (by omega)]
end Go.Proofs.Ytonjaghkiaaipaa.OldA
