/- Contracts of Place of layer 18 and of the reference, for all arguments: both return the same. No condition. -/
import Derived.Test.YtahnmmichekamaaD
namespace Go.Proofs.Ytahnmmichekamaa
open Go.ChangeShapes Go.WideShapes Go.ChangeAt Go.RowKit
set_option linter.unusedVariables false

theorem place_no1 (c k a : Int) (h : c < 1 ∨ 65536 < c ∨ k < 3 ∨ 6 < k) (w : World) :
    Calls Try.prog 8 #[.int .i64 c, .int .i64 k, .int .i64 a] w fun e w' => e = .returned (.tuple #[.int .i64 0, .int .i64 0, .int .i64 0, .int .i64 1]) ∧ Below w.heap.size w w' := by
  have H := hid h
  clear h
  go_enter Try.func8, Try.ntmps8
  go_wp2_with (first | (go_at_call 19; refine (valid_no _ _ H.out _).mono ?_; rintro e w1 ⟨rfl, hb1⟩; obtain ⟨hc1, hf1⟩ := bcell hb1))
  refine bodyPost_ret (v := .tuple #[.int .i64 0, .int .i64 0, .int .i64 0, .int .i64 1]) (by simp [results, Try.results8, go_sem]) rfl ⟨rfl, ?_⟩
  exact ((Below.refl _ _).alloc (Nat.le_refl _) _).trans (hb1.mono (by simp))

theorem place_no2 (c k a : Int) (h0 : 1 ≤ c) (h1 : c ≤ 65536) (h2 : 3 ≤ k) (h3 : k ≤ 6) (h : a < 0 ∨ 1073741824 < a) (w : World) :
    Calls Try.prog 8 #[.int .i64 c, .int .i64 k, .int .i64 a] w fun e w' => e = .returned (.tuple #[.int .i64 0, .int .i64 0, .int .i64 0, .int .i64 1]) ∧ Below w.heap.size w w' := by
  have H := hid h
  clear h
  go_enter Try.func8, Try.ntmps8
  go_wp2_with (first | (go_at_call 19; refine (valid_yes _ _ h0 h1 h2 h3 _).mono ?_; rintro e w1 ⟨rfl, hb1⟩; obtain ⟨hc1, hf1⟩ := bcell hb1) | (go_at_call 20; refine (within_no _ _ H.out _).mono ?_; rintro e w2 ⟨rfl, rfl⟩))
  refine bodyPost_ret (v := .tuple #[.int .i64 0, .int .i64 0, .int .i64 0, .int .i64 1]) (by simp [results, Try.results8, go_sem]) rfl ⟨rfl, ?_⟩
  exact ((Below.refl _ _).alloc (Nat.le_refl _) _).trans (hb1.mono (by simp))

def plR (c k a : Int) : (Int × Int × Int) × Int := if 1 ≤ c ∧ c ≤ 65536 ∧ 3 ≤ k ∧ k ≤ 6 ∧ 0 ≤ a ∧ a ≤ 1073741824 then (plV c (k - 1) a, 0) else ((0, 0, 0), 1)

theorem place_any (c k a : Int) (w : World) :
    Calls Try.prog 8 #[.int .i64 c, .int .i64 k, .int .i64 a] w fun e w' => ∃ x y z r : Int, e = .returned (.tuple #[.int .i64 x, .int .i64 y, .int .i64 z, .int .i64 r]) ∧ Hid (plR c k a = ((x, y, z), r)) ∧ Below w.heap.size w w' := by
  by_cases h : 1 ≤ c ∧ c ≤ 65536 ∧ 3 ≤ k ∧ k ≤ 6 ∧ 0 ≤ a ∧ a ≤ 1073741824
  · obtain ⟨n, rfl⟩ : ∃ n, k = n + 1 := ⟨k - 1, by omega⟩
    have h' := h
    obtain ⟨h0, h1, h2, h3, h4, h5⟩ := h
    exact (place_ok c n a h0 h1 (by omega) (by omega) h4 h5 w).mono fun e w' ⟨x, y, z, he, hp, hb⟩ => ⟨x, y, z, 0, he, by show plR _ _ _ = _; rw [plR, if_pos h', show n + 1 - 1 = n by omega, hp.out], hb⟩
  · by_cases h' : c < 1 ∨ 65536 < c ∨ k < 3 ∨ 6 < k
    · exact (place_no1 c k a h' w).mono fun e w' ⟨he, hb⟩ => ⟨_, _, _, _, he, if_neg h, hb⟩
    · exact (place_no2 c k a (by omega) (by omega) (by omega) (by omega) (by omega) w).mono fun e w' ⟨he, hb⟩ => ⟨_, _, _, _, he, if_neg h, hb⟩

theorem fits_yes (c k : Int) (h0 : 1 ≤ c) (h1 : c ≤ 65536) (h2 : 3 ≤ k) (h3 : k ≤ 6) (w : World) :
    Calls Try.prog 22 #[.int .i64 c, .int .i64 k] w fun e w' => e = .returned (.bool true) ∧ w = w' := by
  go_enter Try.func22, Try.ntmps22
  go_wp2
  go_ret
  exact ⟨rfl, rfl⟩
theorem fits_no (c k : Int) (h : c < 1 ∨ 65536 < c ∨ k < 3 ∨ 6 < k) (w : World) :
    Calls Try.prog 22 #[.int .i64 c, .int .i64 k] w fun e w' => e = .returned (.bool false) ∧ w = w' := by
  by_cases h0 : 1 ≤ c <;> by_cases h1 : c ≤ 65536 <;> by_cases h2 : 3 ≤ k <;> by_cases h3 : k ≤ 6 <;> first | (exfalso; omega) | skip
  all_goals
    have d0 : decide (1 ≤ c) = decide (1 ≤ c) := rfl
    clear h d0
    go_enter Try.func22, Try.ntmps22
    go_wp2
    go_ret
    exact ⟨by first | rfl | simp [*], rfl⟩

theorem rplace_ok (c n a : Int) (h0 : 1 ≤ c) (h1 : c ≤ 65536) (h2 : 2 ≤ n) (h3 : n ≤ 5) (h4 : 0 ≤ a) (h5 : a ≤ 1073741824) (w : World) :
    Calls Try.prog 9 #[.int .i64 c, .int .i64 (n + 1), .int .i64 a] w fun e w' => e = .returned (.tuple #[.int .i64 ((n - a/c/n % (n + 1) + 1 + a/c%n) % (n + 1)), .int .i64 (a/c/n*c + a%c), .int .i64 (n - a/c/n % (n + 1)), .int .i64 0]) ∧ Below w.heap.size w w' := by
  have q1 : 0 ≤ a / c := Int.ediv_nonneg h4 (by omega)
  have q2 : a / c ≤ a := Int.ediv_le_self _ h4
  have q3 : 0 ≤ a / c / n := Int.ediv_nonneg q1 (by omega)
  have q4 : a / c / n ≤ a / c := Int.ediv_le_self _ q1
  have q5 : 0 ≤ a / c % n := Int.emod_nonneg _ (by omega)
  have q6 : a / c % n < n := Int.emod_lt_of_pos _ (by omega)
  have q7 : 0 ≤ a / c / n * c := Int.mul_nonneg q3 (by omega)
  have q8 : a / c / n * c ≤ a / c * c := Int.mul_le_mul_of_nonneg_right q4 (by omega)
  have q9 : a / c * c ≤ a := Int.ediv_mul_le _ (by omega)
  have q10 : 0 ≤ a % c := Int.emod_nonneg _ (by omega)
  have q11 : a % c < c := Int.emod_lt_of_pos _ (by omega)
  have q12 : 0 ≤ a / c / n % (n + 1) := Int.emod_nonneg _ (by omega)
  have q13 : a / c / n % (n + 1) < n + 1 := Int.emod_lt_of_pos _ (by omega)
  have E := hid (show n + 1 - 1 = n by omega)
  have h6 : 3 ≤ n + 1 := by omega
  have h7 : n + 1 ≤ 6 := by omega
  go_enter Try.func9, Try.ntmps9
  go_wp2_with (first | (go_at_call 22; refine (fits_yes _ _ h0 h1 h6 h7 _).mono ?_; rintro e w1 ⟨rfl, rfl⟩))
  have e1 : IntKind.i64.wrap (n + 1 - 1) = n := by rw [E.out]; exact IntWalk.i64_in _ (by omega)
  have d0 : ¬ n = 0 := by omega
  have d2 : (a / c).tmod n = a / c % n := Int.tmod_eq_emod_of_nonneg q1
  have d1 : IntKind.i64.wrap ((a / c).tdiv n) = a / c / n := by rw [Int.tdiv_eq_ediv_of_nonneg q1]; exact IntWalk.i64_in _ (by omega)
  go_quiet (fail)
  clear e1 d0 d1 d2
  go_wp2_with fail
  generalize hp : n - a / c / n % (n + 1) = p
  have p1 : 0 ≤ p := by omega
  have p2 : p ≤ n := by omega
  have HP := hid (show p = n - a / c / n % (n + 1) by omega)
  clear hp
  have d0 : ¬ n + 1 = 0 := by omega
  have d1 : IntKind.i64.wrap (p + 1) = p + 1 := IntWalk.i64_in _ (by omega)
  have d2 : IntKind.i64.wrap (p + 1 + a / c % n) = p + 1 + a / c % n := IntWalk.i64_in _ (by omega)
  have d3 : (p + 1 + a / c % n).tmod (n + 1) = (p + 1 + a / c % n) % (n + 1) := Int.tmod_eq_emod_of_nonneg (by omega)
  have d4 : IntKind.i64.wrap (a / c / n * c) = a / c / n * c := IntWalk.i64_in _ (by omega)
  have d5 : IntKind.i64.wrap (a / c / n * c + a % c) = a / c / n * c + a % c := IntWalk.i64_in _ (by omega)
  have d6 : a.tmod c = a % c := Int.tmod_eq_emod_of_nonneg h4
  have d7 : ¬ c = 0 := by omega
  go_quiet (fail)
  clear d0 d1 d2 d3 d4 d5 d6 d7
  go_wp2_with fail
  refine bodyPost_ret (v := .tuple #[.int .i64 ((p + 1 + a/c%n) % (n + 1)), .int .i64 (a/c/n*c + a%c), .int .i64 p, .int .i64 0]) (by simp [results, Try.results9, go_sem]) rfl ⟨by have hq := HP.out; clear HP; subst hq; rfl, ?_⟩
  exact below_drewN (below_drewN (Below.refl _ _) _) _

theorem rplace_no (c k a : Int) (h : c < 1 ∨ 65536 < c ∨ k < 3 ∨ 6 < k ∨ a < 0 ∨ 1073741824 < a) (w : World) :
    Calls Try.prog 9 #[.int .i64 c, .int .i64 k, .int .i64 a] w fun e w' => e = .returned (.tuple #[.int .i64 0, .int .i64 0, .int .i64 0, .int .i64 1]) ∧ Below w.heap.size w w' := by
  by_cases h' : c < 1 ∨ 65536 < c ∨ k < 3 ∨ 6 < k
  · have H := hid h'
    clear h h'
    go_enter Try.func9, Try.ntmps9
    go_wp2_with (first | (go_at_call 22; refine (fits_no _ _ H.out _).mono ?_; rintro e w1 ⟨rfl, rfl⟩))
    refine bodyPost_ret (v := .tuple #[.int .i64 0, .int .i64 0, .int .i64 0, .int .i64 1]) (by simp [results, Try.results9, go_sem]) rfl ⟨rfl, ?_⟩
    exact Below.refl _ _
  · have h0 : 1 ≤ c := by omega
    have h1 : c ≤ 65536 := by omega
    have h2 : 3 ≤ k := by omega
    have h3 : k ≤ 6 := by omega
    by_cases h4 : a < 0
    · clear h h'
      go_enter Try.func9, Try.ntmps9
      go_wp2_with (first | (go_at_call 22; refine (fits_yes _ _ h0 h1 h2 h3 _).mono ?_; rintro e w1 ⟨rfl, rfl⟩))
      refine bodyPost_ret (v := .tuple #[.int .i64 0, .int .i64 0, .int .i64 0, .int .i64 1]) (by simp [results, Try.results9, go_sem]) rfl ⟨rfl, ?_⟩
      exact Below.refl _ _
    · have h5 : 1073741824 < a := by omega
      clear h h'
      go_enter Try.func9, Try.ntmps9
      go_wp2_with (first | (go_at_call 22; refine (fits_yes _ _ h0 h1 h2 h3 _).mono ?_; rintro e w1 ⟨rfl, rfl⟩))
      refine bodyPost_ret (v := .tuple #[.int .i64 0, .int .i64 0, .int .i64 0, .int .i64 1]) (by simp [results, Try.results9, go_sem]) rfl ⟨rfl, ?_⟩
      exact Below.refl _ _

theorem rplace_same (c k a x y z r : Int) (H : Hid (plR c k a = ((x, y, z), r))) (w : World) :
    Calls Try.prog 9 #[.int .i64 c, .int .i64 k, .int .i64 a] w fun e w' => e = .returned (.tuple #[.int .i64 x, .int .i64 y, .int .i64 z, .int .i64 r]) ∧ Below w.heap.size w w' := by
  have H' := H.out
  by_cases h : 1 ≤ c ∧ c ≤ 65536 ∧ 3 ≤ k ∧ k ≤ 6 ∧ 0 ≤ a ∧ a ≤ 1073741824
  · rw [plR, if_pos h, plV] at H'
    obtain ⟨n, rfl⟩ : ∃ n, k = n + 1 := ⟨k - 1, by omega⟩
    rw [show n + 1 - 1 = n by omega] at H'
    cases H'
    obtain ⟨h0, h1, h2, h3, h4, h5⟩ := h
    exact rplace_ok c n a h0 h1 (by omega) (by omega) h4 h5 w
  · rw [plR, if_neg h] at H'
    cases H'
    exact rplace_no c k a (by omega) w
end Go.Proofs.Ytahnmmichekamaa
