/- The plain mathematics of the checksum: steps of a register are linear, and a product with a power of x is so many steps. No condition. -/
import Derived.Test.YtonjaghkiaaipaaOAC
namespace Go.Proofs.Ytonjaghkiaaipaa.OldA
open Go.RowKit
set_option linter.unusedVariables false

/-! linear functions on words of 32 bits -/
def Lin (f : Nat → Nat) : Prop := ∀ x y, x < 2 ^ 32 → y < 2 ^ 32 → f (x ^^^ y) = f x ^^^ f y

theorem sh_eq (x : Nat) : sh x = x / 2 ^^^ (if x.testBit 0 then 2197175160 else 0) := by
  unfold sh
  rw [Nat.testBit_zero]
  by_cases h : x % 2 = 1 <;> simp [h]

theorem sh_lin : Lin sh := by
  intro x y _ _
  have h1 : (x ^^^ y) / 2 = x / 2 ^^^ y / 2 := by
    have := Nat.shiftRight_xor_distrib (a := x) (b := y) (i := 1)
    simpa [Nat.shiftRight_eq_div_pow] using this
  rw [sh_eq, sh_eq, sh_eq, h1, Nat.testBit_xor]
  apply Nat.eq_of_testBit_eq; intro i
  cases x.testBit 0 <;> cases y.testBit 0 <;> simp only [Nat.testBit_xor, Bool.xor_false, Bool.xor_true, Bool.not_false, Bool.not_true, if_true, if_false, Bool.false_eq_true, Nat.zero_testBit] <;> cases (x / 2).testBit i <;> cases (y / 2).testBit i <;> cases Nat.testBit 2197175160 i <;> rfl

theorem sh_lt' {r : Nat} (h : r < 2 ^ 32) : sh r < 2 ^ 32 := sh_lt r h

/-- n steps -/
def shn : Nat → Nat → Nat
  | 0, r => r
  | n + 1, r => sh (shn n r)
theorem shn_lt (n : Nat) {r : Nat} (h : r < 2 ^ 32) : shn n r < 2 ^ 32 := by
  induction n with
  | zero => exact h
  | succ n ih => exact sh_lt' ih
theorem shn_lin (n : Nat) : Lin (shn n) := by
  intro x y hx hy
  induction n with
  | zero => rfl
  | succ n ih => rw [shn, shn, shn, ih, sh_lin _ _ (shn_lt n hx) (shn_lt n hy)]
theorem shn_add (m n r : Nat) : shn (m + n) r = shn m (shn n r) := by
  induction m with
  | zero => simp [shn]
  | succ m ih => rw [Nat.succ_add, shn, shn, ih]

theorem zero_of_lin {f : Nat → Nat} (h : Lin f) : f 0 = 0 := by
  have := h 0 0 (by omega) (by omega)
  simpa using this

theorem lin_ext {f g : Nat → Nat} (hf : Lin f) (hg : Lin g) (h : ∀ t, t < 32 → f (2 ^ t) = g (2 ^ t)) : ∀ x, x < 2 ^ 32 → f x = g x := by
  have H : ∀ k, k ≤ 32 → ∀ x, x < 2 ^ k → f x = g x := by
    intro k
    induction k with
    | zero => intro _ x hx; obtain rfl : x = 0 := by omega
              rw [zero_of_lin hf, zero_of_lin hg]
    | succ k ih =>
      intro hk x hx
      have hp : 2 ^ (k + 1) ≤ 2 ^ 32 := Nat.pow_le_pow_right (by omega) hk
      have hp0 : 2 ^ k ≤ 2 ^ 32 := Nat.pow_le_pow_right (by omega) (by omega)
      by_cases hx' : x < 2 ^ k
      · exact ih (by omega) x hx'
      · have e : x = (x - 2 ^ k) ^^^ 2 ^ k := by
          have h1 : x - 2 ^ k < 2 ^ k := by rw [Nat.pow_succ] at hx; omega
          have := Nat.two_pow_add_eq_or_of_lt h1 1
          apply Nat.eq_of_testBit_eq; intro i
          rw [Nat.testBit_xor, Nat.testBit_two_pow]
          have hx2 : x = 2 ^ k + (x - 2 ^ k) := by omega
          rw [hx2]
          by_cases hi : i = k
          · subst hi
            rw [Nat.testBit_two_pow_add_eq, show 2 ^ i + (x - 2 ^ i) - 2 ^ i = x - 2 ^ i by omega]
            simp
          · rw [show 2 ^ k + (x - 2 ^ k) - 2 ^ k = x - 2 ^ k by omega]
            by_cases hlt : i < k
            · rw [Nat.testBit_two_pow_add_gt hlt]; simp [show ¬ k = i by omega]
            · have hki : k < i := by omega
              rw [Nat.testBit_lt_two_pow (Nat.lt_of_lt_of_le (by omega : 2 ^ k + (x - 2 ^ k) < 2 ^ (k + 1)) (Nat.pow_le_pow_right (by omega) hki)), Nat.testBit_lt_two_pow (Nat.lt_of_lt_of_le h1 (Nat.pow_le_pow_right (by omega) (by omega)))]
              simp [show ¬ k = i by omega]
        have h1 : x - 2 ^ k < 2 ^ k := by rw [Nat.pow_succ] at hx; omega
        rw [e, hf _ _ (by omega) (Nat.pow_lt_pow_right (by omega) (by omega)), hg _ _ (by omega) (Nat.pow_lt_pow_right (by omega) (by omega)), ih (by omega) _ h1, h k (by omega)]
  exact H 32 (by omega)

/-! the product -/
def mp (a b : Nat) : Nat → Nat
  | 0 => 0
  | k + 1 => if a.testBit (31 - k) then mp a b k ^^^ shn k b else mp a b k
def mul (a b : Nat) : Nat := mp a b 32

theorem mp_lt (a : Nat) {b : Nat} (hb : b < 2 ^ 32) (k : Nat) : mp a b k < 2 ^ 32 := by
  induction k with
  | zero => exact Nat.two_pow_pos 32
  | succ k ih => rw [mp]; split
                 · exact Nat.xor_lt_two_pow ih (shn_lt k hb)
                 · exact ih

theorem mp_linr (a : Nat) (k : Nat) : Lin (fun b => mp a b k) := by
  intro x y hx hy
  induction k with
  | zero => show (0 : Nat) = 0 ^^^ 0; rfl
  | succ k ih =>
    show mp a _ _ = mp a _ _ ^^^ mp a _ _
    simp only [mp]
    split
    · rw [show mp a (x ^^^ y) k = _ from ih, shn_lin k x y hx hy]
      apply Nat.eq_of_testBit_eq; intro i
      simp only [Nat.testBit_xor]
      cases (mp a x k).testBit i <;> cases (mp a y k).testBit i <;> cases (shn k x).testBit i <;> cases (shn k y).testBit i <;> rfl
    · exact ih
theorem mp_linl (b : Nat) (k : Nat) : Lin (fun a => mp a b k) := by
  intro x y hx hy
  induction k with
  | zero => show (0 : Nat) = 0 ^^^ 0; rfl
  | succ k ih =>
    show mp _ b _ = mp _ b _ ^^^ mp _ b _
    simp only [mp, Nat.testBit_xor]
    rw [show mp (x ^^^ y) b k = _ from ih]
    show _ = _
    cases x.testBit (31 - k) <;> cases y.testBit (31 - k) <;> simp only [Bool.xor_false, Bool.xor_true, Bool.not_false, Bool.not_true, if_true, if_false, Bool.false_eq_true]
    · apply Nat.eq_of_testBit_eq; intro i
      simp only [Nat.testBit_xor]
      cases (mp x b k).testBit i <;> cases (mp y b k).testBit i <;> cases (shn k b).testBit i <;> rfl
    · apply Nat.eq_of_testBit_eq; intro i
      simp only [Nat.testBit_xor]
      cases (mp x b k).testBit i <;> cases (mp y b k).testBit i <;> cases (shn k b).testBit i <;> rfl
    · apply Nat.eq_of_testBit_eq; intro i
      simp only [Nat.testBit_xor]
      cases (mp x b k).testBit i <;> cases (mp y b k).testBit i <;> cases (shn k b).testBit i <;> rfl

theorem mul_one (a : Nat) (ha : a < 2 ^ 32) : mul a 2147483648 = a :=
  lin_ext (f := fun a => mul a 2147483648) (g := fun a => a) (mp_linl _ 32) (fun _ _ _ _ => rfl) (by decide +kernel) a ha

/-- a step on the left comes out -/
theorem mul_basis : ∀ t, t < 32 → ∀ s, s < 32 → mul (2 ^ t) (sh (2 ^ s)) = sh (mul (2 ^ t) (2 ^ s)) := by decide +kernel

theorem mul_sh (a b : Nat) (ha : a < 2 ^ 32) (hb : b < 2 ^ 32) : mul a (sh b) = sh (mul a b) := by
  refine lin_ext (f := fun b => mul a (sh b)) (g := fun b => sh (mul a b)) (fun x y hx hy => ?_) (fun x y hx hy => ?_) (fun s hs => ?_) b hb
  · show mul a (sh (x ^^^ y)) = _
    rw [sh_lin x y hx hy]; exact mp_linr a 32 _ _ (sh_lt' hx) (sh_lt' hy)
  · show sh (mul a (x ^^^ y)) = _
    rw [show mul a (x ^^^ y) = mul a x ^^^ mul a y from mp_linr a 32 _ _ hx hy]; exact sh_lin _ _ (mp_lt a hx 32) (mp_lt a hy 32)
  · have h2 : 2 ^ s < 2 ^ 32 := Nat.pow_lt_pow_right (by omega) hs
    refine lin_ext (f := fun a => mul a (sh (2 ^ s))) (g := fun a => sh (mul a (2 ^ s))) (mp_linl _ 32) (fun x y hx hy => ?_) (fun t ht => mul_basis t ht s hs) a ha
    show sh (mul (x ^^^ y) (2 ^ s)) = _
    rw [show mul (x ^^^ y) (2 ^ s) = mul x (2 ^ s) ^^^ mul y (2 ^ s) from mp_linl _ 32 _ _ hx hy]; exact sh_lin _ _ (mp_lt x h2 32) (mp_lt y h2 32)

theorem mul_shn (n a b : Nat) (ha : a < 2 ^ 32) (hb : b < 2 ^ 32) : mul a (shn n b) = shn n (mul a b) := by
  induction n with
  | zero => rfl
  | succ n ih => rw [shn, shn, mul_sh a _ ha (shn_lt n hb), ih]

/-- the product with a power of x: so many steps -/
theorem mul_pow (n a : Nat) (ha : a < 2 ^ 32) : mul a (shn n 2147483648) = shn n a := by
  rw [mul_shn n a _ ha (by omega), mul_one a ha]
end Go.Proofs.Ytonjaghkiaaipaa.OldA
