/- The checksum of words is linear; a change of bits within 32 that follow one another changes it. No conditions but those of each theorem. -/
import Derived.Test.YtbgbjgedjmhcaaaOA
namespace Go.Proofs.Ytbgbjgedjmhcaaa.OldA
open Go.ChangeShapes Go.WideShapes Go.ChangeAt Go.RowKit
set_option linter.unusedVariables false

theorem xor_twice (c r : Nat) : c ^^^ (c ^^^ r) = r := by rw [← Nat.xor_assoc, Nat.xor_self, Nat.zero_xor]
theorem nt_nt (r : Nat) : nt (nt r) = r := by
  rw [nt, nt]
  generalize 4294967295 = c
  rw [xor_twice]
theorem wds_congr (x : Nat) (a b : List Nat) (n : Nat) (h : ∀ j, j < n → a[j]?.getD 0 = b[j]?.getD 0) : wds x a n = wds x b n := by
  induction n with
  | zero => rfl
  | succ n ih => rw [wds, wds, ih (fun j hj => h j (by omega)), h n (by omega)]
theorem wds_add (x : Nat) (a : List Nat) (n m : Nat) : wds x a (n + m) = wds (wds x a n) (a.drop n) m := by
  induction m with
  | zero => rfl
  | succ m ih => rw [← Nat.add_assoc, wds, ih, wds]; simp
theorem wds_append (x : Nat) (a b : List Nat) (n m : Nat) (hn : n ≤ a.length) : wds x (a.take n ++ b) (n + m) = wds (wds x a n) b m := by
  rw [wds_add]
  have h1 : wds x (a.take n ++ b) n = wds x a n := wds_congr _ _ _ _ fun j hj => by
    rw [List.getElem?_append_left (by simp; omega), List.getElem?_take_of_lt hj]
  have h2 : (a.take n ++ b).drop n = b := by
    rw [List.drop_append_of_le_length (by simp; omega)]
    simp
  rw [h1, h2]
theorem ext_append (a b : List Nat) (n m : Nat) (hn : n ≤ a.length) : ext 0 (a.take n ++ b) (n + m) = ext (ext 0 a n) b m := by
  unfold ext
  rw [nt_nt, wds_append _ _ _ _ _ hn]
theorem fd_lin (x y c : Nat) (hx : x < 2 ^ 32) (hy : y < 2 ^ 32) (hc : c < 256) : fd (x ^^^ y) c = shn 8 x ^^^ fd y c := by
  have hyc : y ^^^ c < 2 ^ 32 := Nat.xor_lt_two_pow hy (by omega)
  have hxy : x ^^^ y < 2 ^ 32 := Nat.xor_lt_two_pow hx hy
  rw [fd_sh8 _ _ hxy hc, fd_sh8 _ _ hy hc, Nat.xor_assoc, ← shn8, ← shn8, shn_lin 8 _ _ hx hyc]

theorem wd_lin (x y v k : Nat) (hx : x < 2 ^ 32) (hy : y < 2 ^ 32) : wd (x ^^^ y) v k = shn (8 * k) x ^^^ wd y v k := by
  induction k with
  | zero => rfl
  | succ k ih => rw [wd, ih, fd_lin _ _ _ (shn_lt _ hx) (wd_lt _ _ _ hy) (Nat.mod_lt _ (by omega)), wd, ← shn_add, show 8 + 8 * k = 8 * (k + 1) by omega]

theorem wds_lin (x y : Nat) (ws : List Nat) (n : Nat) (hx : x < 2 ^ 32) (hy : y < 2 ^ 32) : wds (x ^^^ y) ws n = shn (64 * n) x ^^^ wds y ws n := by
  induction n with
  | zero => rfl
  | succ n ih => rw [wds, ih, wd_lin _ _ _ _ (shn_lt _ hx) (wds_lt _ _ _ hy), wds, ← shn_add, show 8 * 8 + 64 * n = 64 * (n + 1) by omega]

theorem nt_xor (p q : Nat) : nt (p ^^^ q) = p ^^^ nt q := by
  rw [nt, nt]
  generalize 4294967295 = c
  rw [← Nat.xor_assoc, Nat.xor_comm c p, Nat.xor_assoc]

theorem nt_zero : nt 0 = 4294967295 := by decide

/-- Combine's theorem: the checksum of both from the two checksums -/
theorem combine_law (a b : List Nat) (n m : Nat) (hn : n ≤ a.length) : shn (64 * m) (ext 0 a n) ^^^ ext 0 b m = ext 0 (a.take n ++ b) (n + m) := by
  rw [ext_append a b n m hn]
  have hs := ext_lt 0 (by omega) a n
  generalize ext 0 a n = s at *
  unfold ext
  have e : nt s = s ^^^ nt 0 := by rw [nt_zero, nt, Nat.xor_comm]
  rw [e, wds_lin _ _ _ _ hs (nt_lt 0 (by omega)), nt_xor]

theorem ext_congr (s : Nat) (a b : List Nat) (n : Nat) (h : ∀ j, j < n → a[j]?.getD 0 = b[j]?.getD 0) : ext s a n = ext s b n := by
  unfold ext
  rw [wds_congr _ _ _ _ h]

theorem wd_zero (x k : Nat) (hx : x < 2 ^ 32) : wd x 0 k = shn (8 * k) x := by
  induction k with
  | zero => rfl
  | succ k ih => rw [wd, ih, Nat.zero_div, Nat.zero_mod, fd_sh8 _ _ (shn_lt _ hx) (by omega), Nat.xor_zero, ← shn8, ← shn_add, show 8 + 8 * k = 8 * (k + 1) by omega]


open Go.ChangeShapes Go.WideShapes Go.ChangeAt Go.RowKit
set_option linter.unusedVariables false

theorem sh_zero (x : Nat) (hx : x < 2 ^ 32) (h : sh x = 0) : x = 0 := by
  unfold sh at h
  split at h
  · exfalso
    have h1 : (x / 2 ^^^ 2197175160).testBit 31 = true := by
      rw [Nat.testBit_xor, Nat.testBit_lt_two_pow (show x / 2 < 2 ^ 31 by omega)]; decide
    rw [h, Nat.zero_testBit] at h1
    cases h1
  · omega

theorem shn_zero (n x : Nat) (hx : x < 2 ^ 32) (h : shn n x = 0) : x = 0 := by
  induction n with
  | zero => exact h
  | succ n ih => exact ih (sh_zero _ (shn_lt n hx) h)

theorem shn_half (m h : Nat) : shn m (2 ^ m * h) = h := by
  induction m generalizing h with
  | zero => simp [shn]
  | succ m ih =>
    have e : 2 ^ (m + 1) * h = 2 ^ m * (2 * h) := by rw [Nat.pow_succ, Nat.mul_assoc]
    rw [e]
    show sh (shn m _) = _
    rw [ih, sh, if_neg (by omega)]
    omega

theorem shn_pull (u m h : Nat) : shn (m + u) (2 ^ u * h) = shn m h := by rw [shn_add, shn_half]

theorem fd_lin2 (x y a b : Nat) (hx : x < 2 ^ 32) (hy : y < 2 ^ 32) (ha : a < 256) (hb : b < 256) : fd (x ^^^ y) (a ^^^ b) = fd x a ^^^ fd y b := by
  have hxy : x ^^^ y < 2 ^ 32 := Nat.xor_lt_two_pow hx hy
  have hab : a ^^^ b < 256 := Nat.xor_lt_two_pow (n := 8) ha hb
  have hxa : x ^^^ a < 2 ^ 32 := Nat.xor_lt_two_pow hx (by omega)
  have hyb : y ^^^ b < 2 ^ 32 := Nat.xor_lt_two_pow hy (by omega)
  rw [fd_sh8 _ _ hxy hab, fd_sh8 _ _ hx ha, fd_sh8 _ _ hy hb, ← shn8, ← shn8, ← shn8, ← shn_lin 8 _ _ hxa hyb]
  congr 1
  rw [Nat.xor_assoc, Nat.xor_assoc, ← Nat.xor_assoc y, Nat.xor_comm y a, Nat.xor_assoc a]

theorem byte_xor (u v k : Nat) : (u ^^^ v) / 256 ^ k % 256 = (u / 256 ^ k % 256) ^^^ (v / 256 ^ k % 256) := by
  rw [show (256 : Nat) ^ k = 2 ^ (8 * k) by rw [Nat.pow_mul], Nat.xor_div_two_pow, show (256 : Nat) = 2 ^ 8 from rfl, Nat.xor_mod_two_pow]

theorem wd_lin2 (x y u v k : Nat) (hx : x < 2 ^ 32) (hy : y < 2 ^ 32) : wd (x ^^^ y) (u ^^^ v) k = wd x u k ^^^ wd y v k := by
  induction k with
  | zero => rfl
  | succ k ih => rw [wd, ih, byte_xor, fd_lin2 _ _ _ _ (wd_lt _ _ _ hx) (wd_lt _ _ _ hy) (Nat.mod_lt _ (by omega)) (Nat.mod_lt _ (by omega)), wd, wd]

theorem wds_lin2 (x y : Nat) (a b c : List Nat) (n : Nat) (hx : x < 2 ^ 32) (hy : y < 2 ^ 32) (h : ∀ j, j < n → c[j]?.getD 0 = a[j]?.getD 0 ^^^ b[j]?.getD 0) :
    wds (x ^^^ y) c n = wds x a n ^^^ wds y b n := by
  induction n with
  | zero => rfl
  | succ n ih => rw [wds, ih (fun j hj => h j (by omega)), h n (by omega), wd_lin2 _ _ _ _ _ (wds_lt _ _ _ hx) (wds_lt _ _ _ hy), wds, wds]

/-- one word of zeros but for bits within 32 -/
theorem wd_burst (b s : Nat) (hb : b < 2 ^ 32) (k : Nat) : wd 0 (b * 2 ^ s) k = shn (8 * k - s) (b % 2 ^ (8 * k - s)) := by
  induction k with
  | zero => simp [wd, shn, Nat.mod_one]
  | succ k ih =>
    have hm : b % 2 ^ (8 * k - s) < 2 ^ 32 := Nat.lt_of_le_of_lt (Nat.mod_le _ _) hb
    rw [wd, ih, show (256 : Nat) ^ k = 2 ^ (8 * k) by rw [Nat.pow_mul]]
    by_cases h1 : s ≤ 8 * k
    · have e : b * 2 ^ s / 2 ^ (8 * k) = b / 2 ^ (8 * k - s) := by
        rw [show 8 * k = (8 * k - s) + s by omega, Nat.pow_add, Nat.mul_div_mul_right _ _ (Nat.two_pow_pos _)]
        congr 2; omega
      rw [e]
      generalize hj : 8 * k - s = j at *
      have hj2 : 8 * (k + 1) - s = 8 + j := by omega
      rw [hj2]
      have hc : b / 2 ^ j % 256 < 256 := Nat.mod_lt _ (by omega)
      generalize hcc : b / 2 ^ j % 256 = c at *
      have hd : b % 2 ^ (8 + j) = b % 2 ^ j ^^^ 2 ^ j * c := by
        have hdv : b % 2 ^ (8 + j) / 2 ^ j = c := by
          rw [Nat.pow_add, Nat.mul_comm, Nat.mod_mul_right_div_self]; exact hcc
        have hmd : b % 2 ^ (8 + j) % 2 ^ j = b % 2 ^ j := by rw [Nat.mod_mod_of_dvd _ (Nat.pow_dvd_pow 2 (by omega))]
        have := Nat.div_add_mod (b % 2 ^ (8 + j)) (2 ^ j)
        rw [hdv, hmd] at this
        rw [← this, Nat.two_pow_add_eq_or_of_lt (Nat.mod_lt _ (Nat.two_pow_pos j))]
        apply Nat.eq_of_testBit_eq; intro i
        rw [Nat.testBit_or, Nat.testBit_xor, Nat.testBit_two_pow_mul]
        by_cases hi : i < j
        · simp [show ¬ j ≤ i by omega]
        · have : (b % 2 ^ j).testBit i = false := Nat.testBit_lt_two_pow (Nat.lt_of_lt_of_le (Nat.mod_lt _ (Nat.two_pow_pos j)) (Nat.pow_le_pow_right (by omega) (by omega)))
          simp [this]
      have hjc : 2 ^ j * c < 2 ^ 32 := by
        have h3 : 2 ^ j * (b / 2 ^ j) ≤ b := Nat.mul_div_le _ _
        have h4 : c ≤ b / 2 ^ j := by rw [← hcc]; exact Nat.mod_le _ _
        exact Nat.lt_of_le_of_lt (Nat.le_trans (Nat.mul_le_mul_left _ h4) h3) hb
      rw [hd, shn_lin (8 + j) _ _ hm hjc, shn_pull, shn_add, fd_sh8 _ _ (shn_lt _ hm) hc, ← shn8, shn_lin 8 _ _ (shn_lt _ hm) (by omega)]
    · have hz : 8 * k - s = 0 := by omega
      rw [hz]
      have e : b * 2 ^ s / 2 ^ (8 * k) = 2 ^ (s - 8 * k) * b := by
        rw [show s = (s - 8 * k) + 8 * k by omega, Nat.pow_add, ← Nat.mul_assoc, Nat.mul_div_cancel _ (Nat.two_pow_pos _), Nat.mul_comm]
        congr 2; omega
      rw [e]
      simp only [Nat.pow_zero, Nat.mod_one, shn]
      by_cases h2 : 8 * (k + 1) ≤ s
      · have e0 : 8 * (k + 1) - s = 0 := by omega
        rw [e0, show s - 8 * k = 8 + (s - 8 * (k + 1)) by omega, Nat.pow_add, Nat.mul_assoc, show (256 : Nat) = 2 ^ 8 from rfl, Nat.mul_mod_right]
        simp only [Nat.pow_zero, Nat.mod_one, shn]
        decide
      · generalize hu : s - 8 * k = u at *
        have e0 : 8 * (k + 1) - s = 8 - u := by omega
        rw [e0, show (256 : Nat) = 2 ^ u * 2 ^ (8 - u) by rw [← Nat.pow_add, show u + (8 - u) = 8 by omega], Nat.mul_mod_mul_left]
        have hlt : 2 ^ u * (b % 2 ^ (8 - u)) < 256 := by
          have h3 := Nat.mod_lt b (Nat.two_pow_pos (8 - u))
          have h4 : 2 ^ u * (b % 2 ^ (8 - u)) < 2 ^ u * 2 ^ (8 - u) := Nat.mul_lt_mul_of_pos_left h3 (Nat.two_pow_pos u)
          rwa [← Nat.pow_add, show u + (8 - u) = 8 by omega] at h4
        rw [fd_sh8 _ _ (by omega) hlt, Nat.zero_xor, ← shn8]
        have := shn_pull u (8 - u) (b % 2 ^ (8 - u))
        rwa [show 8 - u + u = 8 by omega] at this

theorem wd_congr8 (x u v k : Nat) (hk : k ≤ 8) (h : u % 2 ^ 64 = v % 2 ^ 64) : wd x u k = wd x v k := by
  induction k with
  | zero => rfl
  | succ k ih =>
    have e : ∀ u : Nat, u / 256 ^ k % 256 = u % 2 ^ 64 / 256 ^ k % 256 := fun u => by
      rw [show (256 : Nat) ^ k = 2 ^ (8 * k) by rw [Nat.pow_mul], show (256 : Nat) = 2 ^ 8 from rfl, show (2 : Nat) ^ 64 = 2 ^ (8 * k) * 2 ^ (64 - 8 * k) by rw [← Nat.pow_add, show 8 * k + (64 - 8 * k) = 64 by omega],
        Nat.mod_mul_right_div_self, Nat.mod_mod_of_dvd _ (Nat.pow_dvd_pow 2 (by omega))]
    rw [wd, wd, ih (by omega), e u, e v, h]

theorem wd_two (x V k : Nat) : wd x V (8 + k) = wd (wd x V 8) (V / 2 ^ 64) k := by
  induction k with
  | zero => rfl
  | succ k ih =>
    rw [← Nat.add_assoc, wd, ih, wd]
    congr 2
    rw [Nat.div_div_eq_div_mul, Nat.pow_add, show (256 : Nat) ^ 8 = 2 ^ 64 by decide]

/-- the change of two words that follow one another -/
theorem burst_two (b s : Nat) (hb : b < 2 ^ 32) (hs : s < 64) (h0 : b ≠ 0) : wd (wd 0 (b * 2 ^ s % 2 ^ 64) 8) (b * 2 ^ s / 2 ^ 64) 8 ≠ 0 := by
  rw [wd_congr8 0 _ (b * 2 ^ s) 8 (by omega) (Nat.mod_mod _ _), ← wd_two, wd_burst _ _ hb]
  have : b % 2 ^ (8 * (8 + 8) - s) = b := Nat.mod_eq_of_lt (Nat.lt_of_lt_of_le hb (Nat.pow_le_pow_right (by omega) (by omega)))
  rw [this]
  exact fun h => h0 (shn_zero _ _ hb h)

/-- the change of the last word -/
theorem burst_one (b s : Nat) (hb : b < 2 ^ 32) (hs : s < 64) : wd 0 (b * 2 ^ s % 2 ^ 64) 8 = 0 ↔ b * 2 ^ s % 2 ^ 64 = 0 := by
  rw [wd_congr8 0 _ (b * 2 ^ s) 8 (by omega) (Nat.mod_mod _ _), wd_burst _ _ hb]
  have e : b * 2 ^ s % 2 ^ 64 = b % 2 ^ (8 * 8 - s) * 2 ^ s := by
    rw [show (2 : Nat) ^ 64 = 2 ^ (8 * 8 - s) * 2 ^ s by rw [← Nat.pow_add, show 8 * 8 - s + s = 64 by omega], Nat.mul_mod_mul_right]
  rw [e]
  have hm : b % 2 ^ (8 * 8 - s) < 2 ^ 32 := Nat.lt_of_le_of_lt (Nat.mod_le _ _) hb
  constructor
  · intro h; rw [shn_zero _ _ hm h, Nat.zero_mul]
  · intro h
    rcases Nat.mul_eq_zero.1 h with h | h
    · rw [h, zero_of_lin (shn_lin _)]
    · exact absurd h (by have := Nat.two_pow_pos s; omega)

theorem xor_ne (x d : Nat) : x ^^^ d = x ↔ d = 0 := by
  constructor
  · intro h
    have := congrArg (x ^^^ ·) h
    simp only [← Nat.xor_assoc, Nat.xor_self, Nat.zero_xor] at this
    exact this
  · rintro rfl; simp

theorem nt_inj {a b : Nat} : nt a = nt b ↔ a = b := ⟨fun h => by rw [← nt_nt a, h, nt_nt], fun h => by rw [h]⟩

/-- words that differ only from q on, and by D in the register there, have the same checksum exactly if D is zero -/
theorem ext_diff (ws ys : List Nat) (q m r D : Nat) (hD : D < 2 ^ 32) (h0 : ∀ j, j < q → ys[j]?.getD 0 = ws[j]?.getD 0) (h2 : ∀ j, q + m ≤ j → ys[j]?.getD 0 = ws[j]?.getD 0)
    (hm : ∀ R, R < 2 ^ 32 → wds R (ys.drop q) m = wds R (ws.drop q) m ^^^ D) : (ext 0 ys (q + m + r) = ext 0 ws (q + m + r)) ↔ D = 0 := by
  unfold ext
  rw [nt_inj, wds_add _ ys (q + m) r, wds_add _ ws (q + m) r, wds_add _ ys q m, wds_add _ ws q m, wds_congr _ ys ws q h0, hm _ (wds_lt _ _ _ (nt_lt 0 (by omega)))]
  have hX := wds_lt (wds (nt 0) ws q) (ws.drop q) m (wds_lt _ _ _ (nt_lt 0 (by omega)))
  generalize wds (wds (nt 0) ws q) (ws.drop q) m = X at *
  rw [wds_congr (X ^^^ D) (ys.drop (q + m)) (ws.drop (q + m)) r (fun j hj => by rw [List.getElem?_drop, List.getElem?_drop]; exact h2 _ (by omega)), Nat.xor_comm X D, wds_lin _ _ _ _ hD hX, Nat.xor_comm, xor_ne]
  constructor
  · exact shn_zero _ _ hD
  · rintro rfl; exact zero_of_lin (shn_lin _)

/-- the checksum of the exclusive or of three lists -/
theorem ext_lin3 (a b c d : List Nat) (n : Nat) (h : ∀ j, j < n → d[j]?.getD 0 = a[j]?.getD 0 ^^^ b[j]?.getD 0 ^^^ c[j]?.getD 0) : ext 0 d n = ext 0 a n ^^^ ext 0 b n ^^^ ext 0 c n := by
  have hn0 := nt_lt 0 (by omega)
  have hxx : nt 0 ^^^ nt 0 < 2 ^ 32 := by rw [Nat.xor_self]; omega
  let e : List Nat := (List.range n).map fun j => a[j]?.getD 0 ^^^ b[j]?.getD 0
  have he : ∀ j, j < n → e[j]?.getD 0 = a[j]?.getD 0 ^^^ b[j]?.getD 0 := fun j hj => by simp [e, hj]
  have h1 := wds_lin2 (nt 0) (nt 0) a b e n hn0 hn0 he
  have h2 := wds_lin2 (nt 0 ^^^ nt 0) (nt 0) e c d n hxx hn0 (fun j hj => by rw [he j hj]; exact h j hj)
  rw [h1, Nat.xor_self, Nat.zero_xor] at h2
  unfold ext
  rw [h2]
  generalize wds (nt 0) a n = p
  generalize wds (nt 0) b n = q
  generalize wds (nt 0) c n = r
  simp only [nt]
  generalize (4294967295 : Nat) = u
  apply Nat.eq_of_testBit_eq; intro i
  simp only [Nat.testBit_xor]
  cases u.testBit i <;> cases p.testBit i <;> cases q.testBit i <;> cases r.testBit i <;> rfl

open Go.ChangeShapes Go.WideShapes Go.ChangeAt Go.RowKit
set_option linter.unusedVariables false

theorem wd_00 (k : Nat) : wd 0 0 k = 0 := by rw [wd_zero _ _ (by omega), zero_of_lin (shn_lin _)]

theorem same_two (B ys : List Nat) (n q b r : Nat) (hb : b < 2 ^ 32) (hr : r < 64) (h0 : b ≠ 0) (hq : q + 1 < n)
    (HJ : ∀ j, ys[j]?.getD 0 = if j = q then B[j]?.getD 0 ^^^ (b * 2 ^ r % 2 ^ 64) else if j = q + 1 then B[j]?.getD 0 ^^^ (b * 2 ^ r / 2 ^ 64) else B[j]?.getD 0) :
    (ext 0 ys n = ext 0 B n) ↔ ∀ j, j < n → ys[j]?.getD 0 = B[j]?.getD 0 := by
  have hD := burst_two b r hb hr h0
  have hDl : wd (wd 0 (b * 2 ^ r % 2 ^ 64) 8) (b * 2 ^ r / 2 ^ 64) 8 < 2 ^ 32 := wd_lt _ _ _ (wd_lt _ _ _ (by omega))
  have key := ext_diff B ys q 2 (n - q - 2) _ hDl (fun j hj => by rw [HJ, if_neg (by omega), if_neg (by omega)]) (fun j hj => by rw [HJ, if_neg (by omega), if_neg (by omega)]) (fun R hR => by
    simp only [wds, List.getElem?_drop, Nat.add_zero]
    rw [HJ q, HJ (q + 1), if_pos rfl, if_neg (by omega), if_pos rfl]
    have e1 := wd_lin2 R 0 (B[q]?.getD 0) (b * 2 ^ r % 2 ^ 64) 8 hR (by omega)
    rw [Nat.xor_zero] at e1
    rw [e1, wd_lin2 _ _ _ _ 8 (wd_lt _ _ _ hR) (wd_lt _ _ _ (by omega))])
  rw [show q + 2 + (n - q - 2) = n by omega] at key
  rw [key]
  refine ⟨fun h => absurd h hD, fun h => ?_⟩
  have h1 := h q (by omega)
  have h2 := h (q + 1) (by omega)
  rw [HJ, if_pos rfl, xor_ne] at h1
  rw [HJ, if_neg (by omega), if_pos rfl, xor_ne] at h2
  rw [h1, h2, wd_00, wd_00]

theorem same_one (B ys : List Nat) (n q b r : Nat) (hb : b < 2 ^ 32) (hr : r < 64) (hq : q + 1 = n)
    (HJ : ∀ j, ys[j]?.getD 0 = if j = q then B[j]?.getD 0 ^^^ (b * 2 ^ r % 2 ^ 64) else B[j]?.getD 0) :
    (ext 0 ys n = ext 0 B n) ↔ ∀ j, j < n → ys[j]?.getD 0 = B[j]?.getD 0 := by
  subst hq
  have hDl : wd 0 (b * 2 ^ r % 2 ^ 64) 8 < 2 ^ 32 := wd_lt _ _ _ (by omega)
  have key := ext_diff B ys q 1 0 _ hDl (fun j hj => by rw [HJ, if_neg (by omega)]) (fun j hj => by rw [HJ, if_neg (by omega)]) (fun R hR => by
    simp only [wds, List.getElem?_drop, Nat.add_zero]
    rw [HJ q, if_pos rfl]
    have e1 := wd_lin2 R 0 (B[q]?.getD 0) (b * 2 ^ r % 2 ^ 64) 8 hR (by omega)
    rwa [Nat.xor_zero] at e1)
  rw [show q + 1 + 0 = q + 1 by omega] at key
  rw [key, burst_one b r hb hr]
  constructor
  · intro h j hj
    rw [HJ]
    by_cases e : j = q
    · rw [if_pos e, h, Nat.xor_zero]
    · rw [if_neg e]
  · intro h
    have h1 := h q (by omega)
    rwa [HJ, if_pos rfl, xor_ne] at h1

theorem set_at (B : List Nat) (q v j : Nat) (hq : q < B.length) : (B.set q v)[j]?.getD 0 = if j = q then v else B[j]?.getD 0 := by
  rw [List.getElem?_set]
  by_cases e : q = j
  · subst e; simp [hq]
  · rw [if_neg e, if_neg (fun h => e h.symm)]

theorem take_at (A : List Nat) (n j : Nat) (hj : j < n) : (A.take n)[j]?.getD 0 = A[j]?.getD 0 := by rw [List.getElem?_take_of_lt hj]

/-- the low part of a burst, as the program makes it -/
theorem burst_low (x b r : Nat) (hb : b < 2 ^ 32) (hx : x < 2 ^ 64) : bits .xor .u64 (x : Int) (IntKind.u64.wrap (IntKind.u64.wrap (b : Int) * 2 ^ r)) = ((x ^^^ (b * 2 ^ r % 2 ^ 64) : Nat) : Int) := by
  have e1 : IntKind.u64.wrap (b : Int) = (b : Int) := by simp [IntKind.wrap, IntKind.bits, IntKind.signed]; omega
  have e2 : IntKind.u64.wrap ((b : Int) * 2 ^ r) = ((b * 2 ^ r % 2 ^ 64 : Nat) : Int) := by
    simp only [IntKind.wrap, IntKind.bits, IntKind.signed]
    rw [Int.natCast_emod, Int.natCast_mul, Int.natCast_pow]; simp
  rw [e1, e2, u64_xor_nat _ _ hx (Nat.mod_lt _ (by omega))]
theorem burst_lt (x b r : Nat) (hx : x < 2 ^ 64) : x ^^^ (b * 2 ^ r % 2 ^ 64) < 2 ^ 64 := Nat.xor_lt_two_pow hx (Nat.mod_lt _ (by omega))
theorem high_lt (b r : Nat) (hb : b < 2 ^ 32) (hr : r < 64) : b * 2 ^ r / 2 ^ 64 < 2 ^ 64 := by
  have h1 : b * 2 ^ r < 2 ^ 32 * 2 ^ 64 := Nat.mul_lt_mul'' hb (Nat.pow_lt_pow_right (by omega) hr)
  exact Nat.div_lt_of_lt_mul (Nat.lt_trans h1 (by decide))
theorem high_eq (b r : Nat) (hr : r < 64) : b * 2 ^ r / 2 ^ 64 = b / 2 ^ (64 - r) := by
  rw [show (2 : Nat) ^ 64 = 2 ^ (64 - r) * 2 ^ r by rw [← Nat.pow_add, show 64 - r + r = 64 by omega], Nat.mul_div_mul_right _ _ (Nat.two_pow_pos _)]
theorem high_zero (b r : Nat) (hb : b < 2 ^ 32) (hr : r ≤ 32) : b * 2 ^ r / 2 ^ 64 = 0 := by
  refine Nat.div_eq_of_lt ?_
  have h1 : b * 2 ^ r < 2 ^ 32 * 2 ^ 32 := by
    refine Nat.lt_of_lt_of_le (Nat.mul_lt_mul_of_pos_right hb (Nat.two_pow_pos r)) (Nat.mul_le_mul_left _ (Nat.pow_le_pow_right (by omega) hr))
  exact h1

end Go.Proofs.Ytbgbjgedjmhcaaa.OldA
