/- Contracts of Back of layer 18 and of the reference, for all arguments: both return the same. No condition. -/
import Derived.Test.YtahnmmichekamaaF
namespace Go.Proofs.Ytahnmmichekamaa
open Go.ChangeShapes Go.WideShapes Go.ChangeAt Go.RowKit
set_option linter.unusedVariables false

/-- the sector at an offset of a leg, and whether it is data -/
def bkV (c n l a : Int) : Int × Bool := if l = n - a/c % (n + 1) then (0, false) else ((a/c*n + (l - (n - a/c % (n + 1)) - 1 + (n + 1)) % (n + 1))*c + a%c, true)

theorem bk_bd (c n a q : Int) (h0 : 1 ≤ c) (h1 : c ≤ 65536) (h2 : 2 ≤ n) (h3 : n ≤ 5) (h4 : 0 ≤ a) (h5 : a ≤ 1073741824) (hq : 0 ≤ q) (hq2 : q ≤ n) :
    0 ≤ a/c*n ∧ a/c*n ≤ 5368709120 ∧ 0 ≤ (a/c*n + q)*c ∧ (a/c*n + q)*c ≤ 5369036800 ∧ 0 ≤ a % c ∧ a % c < c := by
  have q1 : 0 ≤ a / c := Int.ediv_nonneg h4 (by omega)
  have q2 : a / c ≤ a := Int.ediv_le_self _ h4
  have q3 : a / c * c ≤ a := Int.ediv_mul_le _ (by omega)
  have q4 : 0 ≤ a/c*n := Int.mul_nonneg q1 (by omega)
  have q5 : a/c*n ≤ 1073741824 * 5 := Int.mul_le_mul (by omega) h3 (by omega) (by omega)
  have e : (a/c*n + q)*c = a/c*c*n + q*c := by rw [Int.add_mul, Int.mul_assoc, Int.mul_comm n c, ← Int.mul_assoc]
  have q6 : 0 ≤ a / c * c := Int.mul_nonneg q1 (by omega)
  have q7 : a/c*c*n ≤ 1073741824 * 5 := Int.mul_le_mul (by omega) h3 (by omega) (by omega)
  have q8 : q * c ≤ 5 * 65536 := Int.mul_le_mul (by omega) h1 (by omega) (by omega)
  have q9 : 0 ≤ a/c*c*n := Int.mul_nonneg q6 (by omega)
  have q10 : 0 ≤ q * c := Int.mul_nonneg hq (by omega)
  exact ⟨q4, by omega, by omega, by omega, Int.emod_nonneg _ (by omega), Int.emod_lt_of_pos _ (by omega)⟩

theorem back_in (c n l a : Int) (h0 : 1 ≤ c) (h1 : c ≤ 65536) (h2 : 2 ≤ n) (h3 : n ≤ 5) (h4 : 0 ≤ a) (h5 : a ≤ 1073741824) (h6 : 0 ≤ l) (h7 : l ≤ n) (w : World) :
    Calls Try.prog 23 #[.agg #[.int .i64 c, .int .i64 (n + 1), .int .i64 a], .int .i64 l] w fun e w' => ∃ (x : Int) (is : Bool), e = .returned (.tuple #[.int .i64 x, .bool is]) ∧ Hid (bkV c n l a = (x, is)) ∧ Below w.heap.size w w' := by
  have q1 : 0 ≤ a / c := Int.ediv_nonneg h4 (by omega)
  have q2 : a / c ≤ a := Int.ediv_le_self _ h4
  go_enter Try.func23, Try.ntmps23
  go_wp2_with fail
  have S0 := St.new w c (n + 1) a 47
  refine (parityOf_ex _ _ _ h2 h3 q1 _).mono ?_
  rintro e w3 ⟨p, rfl, p1, p2, HP, hb3⟩
  have S3 := hid (S0.kept hb3)
  clear S0 hb3
  by_cases hlp : l = p
  · have HV := hid (show bkV c n l a = (0, false) by rw [bkV, if_pos (by rw [hlp, HP.out])])
    go_wp2_with fail
    go_ret2
    exact ⟨_, _, rfl, HV, S3.out.2.2.2.2⟩
  · have hq0 : 0 ≤ (l - p - 1 + (n + 1)) % (n + 1) := Int.emod_nonneg _ (by omega)
    have hq1 : (l - p - 1 + (n + 1)) % (n + 1) < n + 1 := Int.emod_lt_of_pos _ (by omega)
    have HV := hid (show bkV c n l a = ((a/c*n + (l - p - 1 + (n + 1)) % (n + 1))*c + a%c, true) by rw [bkV, if_neg (by rw [← HP.out]; exact hlp), ← HP.out])
    have d0 : ¬ n + 1 = 0 := by omega
    have d3 : (l - p - 1 + (n + 1)).tmod (n + 1) = (l - p - 1 + (n + 1)) % (n + 1) := Int.tmod_eq_emod_of_nonneg (by omega)
    generalize (l - p - 1 + (n + 1)) % (n + 1) = q at hq0 hq1 HV d3
    obtain ⟨b1, b2, b3, b4, b5, b6⟩ := bk_bd c n a q h0 h1 h2 h3 h4 h5 hq0 (by omega)
    have hne : (l == p) = false := by simpa using hlp
    obtain ⟨g0, g1, g2, g3, g4⟩ := S3.out
    go_wp2_with fail
    have d4 : IntKind.i64.wrap (a / c * n) = a / c * n := IntWalk.i64_in _ (by omega)
    have d5 : IntKind.i64.wrap (a / c * n + q) = a / c * n + q := IntWalk.i64_in _ (by omega)
    have d6 : IntKind.i64.wrap ((a / c * n + q) * c) = (a / c * n + q) * c := IntWalk.i64_in _ (by omega)
    have d7 : IntKind.i64.wrap ((a / c * n + q) * c + a % c) = (a / c * n + q) * c + a % c := IntWalk.i64_in _ (by omega)
    go_region_held3 (fun w' => w'.cell? ⟨w.heap.size, 0, none⟩ = some (.int .i64 c) ∧ w'.cell? ⟨w.heap.size, 1, none⟩ = some (.int .i64 (n + 1)) ∧ w'.cell? ⟨w.heap.size, 2, none⟩ = some (.int .i64 a) ∧ w.heap.size < w'.heap.size ∧ Below w.heap.size w w') (first | exact S3.out.drew | assumption)
      (first | (go_at_call 25; refine (data_any _ _ h2 h3 _).mono ?_; rintro e w' ⟨rfl, hb⟩; have hS' := St.kept (by assumption) hb; clear hb) | (go_at_call 29; refine (inChunk_any _ _ _ h0 h4 _).mono ?_; rintro e w' ⟨rfl, hb⟩; have hS' := St.kept (by assumption) hb; clear hb))
    clear d0 d3 d4 d5 d6 d7 g0 g1 g2 g3 g4
    have hS4 := hS'
    clear hS'
    go_wp2_with fail
    go_ret2
    exact ⟨_, _, rfl, HV, hS4.2.2.2.2⟩

theorem back_no1 (c k l a : Int) (h : c < 1 ∨ 65536 < c ∨ k < 3 ∨ 6 < k) (w : World) :
    Calls Try.prog 10 #[.int .i64 c, .int .i64 k, .int .i64 l, .int .i64 a] w fun e w' => e = .returned (.tuple #[.int .i64 0, .bool false, .int .i64 1]) ∧ Below w.heap.size w w' := by
  have H := hid h
  clear h
  go_enter Try.func10, Try.ntmps10
  go_wp2_with (first | (go_at_call 19; refine (valid_no _ _ H.out _).mono ?_; rintro e w1 ⟨rfl, hb1⟩; obtain ⟨hc1, hf1⟩ := bcell hb1))
  go_ret3
  exact ⟨rfl, ((Below.refl _ _).alloc (Nat.le_refl _) _).trans (hb1.mono (by simp))⟩

theorem back_no2 (c k l a : Int) (h0 : 1 ≤ c) (h1 : c ≤ 65536) (h2 : 3 ≤ k) (h3 : k ≤ 6) (h : a < 0 ∨ 1073741824 < a) (w : World) :
    Calls Try.prog 10 #[.int .i64 c, .int .i64 k, .int .i64 l, .int .i64 a] w fun e w' => e = .returned (.tuple #[.int .i64 0, .bool false, .int .i64 1]) ∧ Below w.heap.size w w' := by
  have H := hid h
  clear h
  go_enter Try.func10, Try.ntmps10
  go_wp2_with (first | (go_at_call 19; refine (valid_yes _ _ h0 h1 h2 h3 _).mono ?_; rintro e w1 ⟨rfl, hb1⟩; obtain ⟨hc1, hf1⟩ := bcell hb1) | (go_at_call 20; refine (within_no _ _ H.out _).mono ?_; rintro e w2 ⟨rfl, rfl⟩))
  go_ret3
  exact ⟨rfl, ((Below.refl _ _).alloc (Nat.le_refl _) _).trans (hb1.mono (by simp))⟩

theorem back_no3 (c k l a : Int) (h0 : 1 ≤ c) (h1 : c ≤ 65536) (h2 : 3 ≤ k) (h3 : k ≤ 6) (h4 : 0 ≤ a) (h5 : a ≤ 1073741824) (h : l < 0 ∨ k - 1 < l) (w : World) :
    Calls Try.prog 10 #[.int .i64 c, .int .i64 k, .int .i64 l, .int .i64 a] w fun e w' => e = .returned (.tuple #[.int .i64 0, .bool false, .int .i64 1]) ∧ Below w.heap.size w w' := by
  have H := hid h
  clear h
  go_enter Try.func10, Try.ntmps10
  go_wp2_with (first | (go_at_call 19; refine (valid_yes _ _ h0 h1 h2 h3 _).mono ?_; rintro e w1 ⟨rfl, hb1⟩; obtain ⟨hc1, hf1⟩ := bcell hb1) | (go_at_call 20; ((with_reducible refine (within_yes _ _ h4 h5 _).mono ?_); rintro e w2 ⟨rfl, rfl⟩)) | (go_at_call 20; ((with_reducible refine (within_no _ _ H.out _).mono ?_); rintro e w2 ⟨rfl, rfl⟩)))
  go_ret3
  exact ⟨rfl, ((Below.refl _ _).alloc (Nat.le_refl _) _).trans (hb1.mono (by simp))⟩

theorem back_ok (c n l a : Int) (h0 : 1 ≤ c) (h1 : c ≤ 65536) (h2 : 2 ≤ n) (h3 : n ≤ 5) (h4 : 0 ≤ a) (h5 : a ≤ 1073741824) (h6 : 0 ≤ l) (h7 : l ≤ n) (w : World) :
    Calls Try.prog 10 #[.int .i64 c, .int .i64 (n + 1), .int .i64 l, .int .i64 a] w fun e w' => ∃ (x : Int) (is : Bool), e = .returned (.tuple #[.int .i64 x, .bool is, .int .i64 0]) ∧ Hid (bkV c n l a = (x, is)) ∧ Below w.heap.size w w' := by
  have h8 : 3 ≤ n + 1 := by omega
  have h9 : n + 1 ≤ 6 := by omega
  go_enter Try.func10, Try.ntmps10
  go_wp2_with (first | (go_at_call 19; refine (valid_yes _ _ h0 h1 h8 h9 _).mono ?_; rintro e w1 ⟨rfl, hb1⟩; obtain ⟨hc1, hf1⟩ := bcell hb1) | (go_at_call 20; ((with_reducible refine (within_yes _ _ h4 h5 _).mono ?_); rintro e w2 ⟨rfl, rfl⟩)) | (go_at_call 20; ((with_reducible refine (within_yes _ _ h6 h7 _).mono ?_); rintro e w2 ⟨rfl, rfl⟩)) | (go_at_call 23; refine (back_in c n l a h0 h1 h2 h3 h4 h5 h6 h7 _).mono ?_; rintro e w3 ⟨x, is, rfl, HV, hb3⟩))
  go_ret3
  exact ⟨_, _, rfl, HV, bt (((Below.refl _ _).alloc (Nat.le_refl _) _).trans (hb1.mono (by simp))) hb3⟩

def bkR (c k l a : Int) : (Int × Bool) × Int := if 1 ≤ c ∧ c ≤ 65536 ∧ 3 ≤ k ∧ k ≤ 6 ∧ 0 ≤ a ∧ a ≤ 1073741824 ∧ 0 ≤ l ∧ l < k then (bkV c (k - 1) l a, 0) else ((0, false), 1)

theorem back_any (c k l a : Int) (w : World) :
    Calls Try.prog 10 #[.int .i64 c, .int .i64 k, .int .i64 l, .int .i64 a] w fun e w' => ∃ (x : Int) (is : Bool) (r : Int), e = .returned (.tuple #[.int .i64 x, .bool is, .int .i64 r]) ∧ Hid (bkR c k l a = ((x, is), r)) ∧ Below w.heap.size w w' := by
  by_cases h : 1 ≤ c ∧ c ≤ 65536 ∧ 3 ≤ k ∧ k ≤ 6 ∧ 0 ≤ a ∧ a ≤ 1073741824 ∧ 0 ≤ l ∧ l < k
  · obtain ⟨n, rfl⟩ : ∃ n, k = n + 1 := ⟨k - 1, by omega⟩
    have h' := h
    obtain ⟨h0, h1, h2, h3, h4, h5, h6, h7⟩ := h
    exact (back_ok c n l a h0 h1 (by omega) (by omega) h4 h5 h6 (by omega) w).mono fun e w' ⟨x, is, he, hp, hb⟩ => ⟨x, is, 0, he, by show bkR _ _ _ _ = _; rw [bkR, if_pos h', show n + 1 - 1 = n by omega, hp.out], hb⟩
  · by_cases h' : c < 1 ∨ 65536 < c ∨ k < 3 ∨ 6 < k
    · exact (back_no1 c k l a h' w).mono fun e w' ⟨he, hb⟩ => ⟨_, _, _, he, if_neg h, hb⟩
    · by_cases h'' : a < 0 ∨ 1073741824 < a
      · exact (back_no2 c k l a (by omega) (by omega) (by omega) (by omega) h'' w).mono fun e w' ⟨he, hb⟩ => ⟨_, _, _, he, if_neg h, hb⟩
      · exact (back_no3 c k l a (by omega) (by omega) (by omega) (by omega) (by omega) (by omega) (by omega) w).mono fun e w' ⟨he, hb⟩ => ⟨_, _, _, he, if_neg h, hb⟩

theorem rback_ok (c n l a : Int) (h0 : 1 ≤ c) (h1 : c ≤ 65536) (h2 : 2 ≤ n) (h3 : n ≤ 5) (h4 : 0 ≤ a) (h5 : a ≤ 1073741824) (h6 : 0 ≤ l) (h7 : l ≤ n) (x : Int) (is : Bool) (H : Hid (bkV c n l a = (x, is))) (w : World) :
    Calls Try.prog 11 #[.int .i64 c, .int .i64 (n + 1), .int .i64 l, .int .i64 a] w fun e w' => e = .returned (.tuple #[.int .i64 x, .bool is, .int .i64 0]) ∧ Below w.heap.size w w' := by
  have q1 : 0 ≤ a / c := Int.ediv_nonneg h4 (by omega)
  have q2 : a / c ≤ a := Int.ediv_le_self _ h4
  have h8 : 3 ≤ n + 1 := by omega
  have h9 : n + 1 ≤ 6 := by omega
  have m1 : 0 ≤ a / c % (n + 1) := Int.emod_nonneg _ (by omega)
  have m2 : a / c % (n + 1) < n + 1 := Int.emod_lt_of_pos _ (by omega)
  have hx : ¬ n + 1 ≤ l := by omega
  have hx2 : l < n + 1 := by omega
  have E := hid (show n + 1 - 1 = n by omega)
  have H' := H.out
  unfold bkV at H'
  by_cases hlp : l = n - a / c % (n + 1)
  · rw [if_pos hlp] at H'
    cases H'
    have hd : (l == n - a / c % (n + 1)) = true := by simpa using hlp
    clear hlp H
    go_enter Try.func11, Try.ntmps11
    go_wp2_with (first | (go_at_call 22; refine (fits_yes _ _ h0 h1 h8 h9 _).mono ?_; rintro e w1 ⟨rfl, rfl⟩))
    go_ret3
    exact ⟨rfl, Below.refl _ _⟩
  · rw [if_neg hlp] at H'
    cases H'
    have hd : (l == n - a / c % (n + 1)) = false := by simpa using hlp
    have eq : (l - (n - a / c % (n + 1)) - 1 + (n + 1)) % (n + 1) = (l - (n - a / c % (n + 1)) - 1) % (n + 1) := by simp
    rw [eq] at H ⊢
    clear eq H hlp
    have hq0 : 0 ≤ (l - (n - a / c % (n + 1)) - 1) % (n + 1) := Int.emod_nonneg _ (by omega)
    have hq1 : (l - (n - a / c % (n + 1)) - 1) % (n + 1) < n + 1 := Int.emod_lt_of_pos _ (by omega)
    obtain ⟨b1, b2, b3, b4, b5, b6⟩ := bk_bd c n a _ h0 h1 h2 h3 h4 h5 hq0 (by omega)
    have d4 : wrap64 (a / c * n) = a / c * n := IntWalk.wrap64_in _ (by omega)
    have d5 : wrap64 (a / c * n + (l - (n - a / c % (n + 1)) - 1) % (n + 1)) = a / c * n + (l - (n - a / c % (n + 1)) - 1) % (n + 1) := IntWalk.wrap64_in _ (by omega)
    have d6 : wrap64 ((a / c * n + (l - (n - a / c % (n + 1)) - 1) % (n + 1)) * c) = (a / c * n + (l - (n - a / c % (n + 1)) - 1) % (n + 1)) * c := IntWalk.wrap64_in _ (by omega)
    have d7 : wrap64 ((a / c * n + (l - (n - a / c % (n + 1)) - 1) % (n + 1)) * c + a % c) = (a / c * n + (l - (n - a / c % (n + 1)) - 1) % (n + 1)) * c + a % c := IntWalk.wrap64_in _ (by omega)
    clear b1 b2 b3 b4 b5 b6 hq0 hq1
    go_enter Try.func11, Try.ntmps11
    go_wp2_with (first | (go_at_call 22; refine (fits_yes _ _ h0 h1 h8 h9 _).mono ?_; rintro e w1 ⟨rfl, rfl⟩))
    rw [d4, d5, d6, d7]
    go_ret3
    exact ⟨rfl, Below.refl _ _⟩

theorem rback_no (c k l a : Int) (h : c < 1 ∨ 65536 < c ∨ k < 3 ∨ 6 < k ∨ a < 0 ∨ 1073741824 < a ∨ l < 0 ∨ k ≤ l) (w : World) :
    Calls Try.prog 11 #[.int .i64 c, .int .i64 k, .int .i64 l, .int .i64 a] w fun e w' => e = .returned (.tuple #[.int .i64 0, .bool false, .int .i64 1]) ∧ Below w.heap.size w w' := by
  by_cases h' : c < 1 ∨ 65536 < c ∨ k < 3 ∨ 6 < k
  · have H := hid h'
    clear h h'
    go_enter Try.func11, Try.ntmps11
    go_wp2_with (first | (go_at_call 22; refine (fits_no _ _ H.out _).mono ?_; rintro e w1 ⟨rfl, rfl⟩))
    go_ret3
    exact ⟨rfl, Below.refl _ _⟩
  · have h0 : 1 ≤ c := by omega
    have h1 : c ≤ 65536 := by omega
    have h2 : 3 ≤ k := by omega
    have h3 : k ≤ 6 := by omega
    by_cases h4 : a < 0
    · clear h h'
      go_enter Try.func11, Try.ntmps11
      go_wp2_with (first | (go_at_call 22; refine (fits_yes _ _ h0 h1 h2 h3 _).mono ?_; rintro e w1 ⟨rfl, rfl⟩))
      go_ret3
      exact ⟨rfl, Below.refl _ _⟩
    by_cases h5 : 1073741824 < a
    · clear h h'
      go_enter Try.func11, Try.ntmps11
      go_wp2_with (first | (go_at_call 22; refine (fits_yes _ _ h0 h1 h2 h3 _).mono ?_; rintro e w1 ⟨rfl, rfl⟩))
      go_ret3
      exact ⟨rfl, Below.refl _ _⟩
    by_cases h6 : l < 0
    · clear h h'
      go_enter Try.func11, Try.ntmps11
      go_wp2_with (first | (go_at_call 22; refine (fits_yes _ _ h0 h1 h2 h3 _).mono ?_; rintro e w1 ⟨rfl, rfl⟩))
      go_ret3
      exact ⟨rfl, Below.refl _ _⟩
    have h7 : k ≤ l := by omega
    clear h h'
    go_enter Try.func11, Try.ntmps11
    go_wp2_with (first | (go_at_call 22; refine (fits_yes _ _ h0 h1 h2 h3 _).mono ?_; rintro e w1 ⟨rfl, rfl⟩))
    go_ret3
    exact ⟨rfl, Below.refl _ _⟩

theorem rback_same (c k l a : Int) (x : Int) (is : Bool) (r : Int) (H : Hid (bkR c k l a = ((x, is), r))) (w : World) :
    Calls Try.prog 11 #[.int .i64 c, .int .i64 k, .int .i64 l, .int .i64 a] w fun e w' => e = .returned (.tuple #[.int .i64 x, .bool is, .int .i64 r]) ∧ Below w.heap.size w w' := by
  have H' := H.out
  by_cases h : 1 ≤ c ∧ c ≤ 65536 ∧ 3 ≤ k ∧ k ≤ 6 ∧ 0 ≤ a ∧ a ≤ 1073741824 ∧ 0 ≤ l ∧ l < k
  · rw [bkR, if_pos h] at H'
    obtain ⟨n, rfl⟩ : ∃ n, k = n + 1 := ⟨k - 1, by omega⟩
    rw [show n + 1 - 1 = n by omega] at H'
    simp only [Prod.mk.injEq] at H'
    obtain ⟨h0, h1, h2, h3, h4, h5, h6, h7⟩ := h
    obtain ⟨H1, rfl⟩ := H'
    exact rback_ok c n l a h0 h1 (by omega) (by omega) h4 h5 h6 (by omega) x is H1 w
  · rw [bkR, if_neg h] at H'
    cases H'
    exact rback_no c k l a (by omega) w
end Go.Proofs.Ytahnmmichekamaa
