/- Contracts of Place and Back of layer 17 and of the reference, for all arguments: both return the same. No condition. -/
import Derived.Test.YtnklfcmhbkhjdaaC
namespace Go.Proofs.Ytnklfcmhbkhjdaa
open Go.ChangeShapes Go.WideShapes Go.ChangeAt Go.RowKit
set_option linter.unusedVariables false

theorem hid {p : Prop} (h : p) : Hid p := h

theorem place_no1 (c k a : Int) (h : c < 1 ∨ 65536 < c ∨ k < 1 ∨ 6 < k) (w : World) :
    Calls Try.prog 8 #[.int .i64 c, .int .i64 k, .int .i64 a] w fun e w' => e = .returned (.tuple #[.int .i64 0, .int .i64 0, .int .i64 1]) ∧ Below w.heap.size w w' := by
  have H := hid h
  clear h
  go_enter Try.func8, Try.ntmps8
  go_wp2_with (first | (go_at_call 21; refine (valid_no _ _ H.out _).mono ?_; rintro e w1 ⟨rfl, hb1⟩; obtain ⟨hc1, hf1⟩ := bcell hb1))
  go_ret3
  exact ⟨rfl, ((Below.refl _ _).alloc (Nat.le_refl _) _).trans (hb1.mono (by simp))⟩

theorem place_no2 (c k a : Int) (h0 : 1 ≤ c) (h1 : c ≤ 65536) (h2 : 1 ≤ k) (h3 : k ≤ 6) (h : a < 0 ∨ 1073741824 < a) (w : World) :
    Calls Try.prog 8 #[.int .i64 c, .int .i64 k, .int .i64 a] w fun e w' => e = .returned (.tuple #[.int .i64 0, .int .i64 0, .int .i64 1]) ∧ Below w.heap.size w w' := by
  have H := hid h
  clear h
  go_enter Try.func8, Try.ntmps8
  go_wp2_with (first | (go_at_call 21; refine (valid_yes _ _ h0 h1 h2 h3 _).mono ?_; rintro e w1 ⟨rfl, hb1⟩; obtain ⟨hc1, hf1⟩ := bcell hb1) | (go_at_call 22; refine (within_no _ _ H.out _).mono ?_; rintro e w2 ⟨rfl, rfl⟩))
  go_ret3
  exact ⟨rfl, ((Below.refl _ _).alloc (Nat.le_refl _) _).trans (hb1.mono (by simp))⟩

def plR (c k a : Int) : Int × Int × Int := if 1 ≤ c ∧ c ≤ 65536 ∧ 1 ≤ k ∧ k ≤ 6 ∧ 0 ≤ a ∧ a ≤ 1073741824 then (a/c%k, a/c/k*c + a%c, 0) else (0, 0, 1)

theorem place_any (c k a : Int) (w : World) :
    Calls Try.prog 8 #[.int .i64 c, .int .i64 k, .int .i64 a] w fun e w' => ∃ i o r : Int, e = .returned (.tuple #[.int .i64 i, .int .i64 o, .int .i64 r]) ∧ Hid (plR c k a = (i, o, r)) ∧ Below w.heap.size w w' := by
  by_cases h : 1 ≤ c ∧ c ≤ 65536 ∧ 1 ≤ k ∧ k ≤ 6 ∧ 0 ≤ a ∧ a ≤ 1073741824
  · obtain ⟨h0, h1, h2, h3, h4, h5⟩ := h
    exact (place_ok c k a h0 h1 h2 h3 h4 h5 w).mono fun e w' ⟨he, hb⟩ => ⟨_, _, _, he, if_pos ⟨h0, h1, h2, h3, h4, h5⟩, hb⟩
  · by_cases h' : c < 1 ∨ 65536 < c ∨ k < 1 ∨ 6 < k
    · exact (place_no1 c k a h' w).mono fun e w' ⟨he, hb⟩ => ⟨_, _, _, he, if_neg h, hb⟩
    · exact (place_no2 c k a (by omega) (by omega) (by omega) (by omega) (by omega) w).mono fun e w' ⟨he, hb⟩ => ⟨_, _, _, he, if_neg h, hb⟩

theorem rplace_ok (c k a : Int) (h0 : 1 ≤ c) (h1 : c ≤ 65536) (h2 : 1 ≤ k) (h3 : k ≤ 6) (h4 : 0 ≤ a) (h5 : a ≤ 1073741824) (w : World) :
    Calls Try.prog 9 #[.int .i64 c, .int .i64 k, .int .i64 a] w fun e w' => e = .returned (.tuple #[.int .i64 (a/c % k), .int .i64 (a/c/k*c + a%c), .int .i64 0]) ∧ Below w.heap.size w w' := by
  obtain ⟨e1, e2, e3, e4, e5, e6, e7, e8⟩ := pl1 a c k h0 h2 h4
  go_enter Try.func9, Try.ntmps9
  go_wp2
  go_quiet (fail)
  go_wp2
  go_ret3
  exact ⟨rfl, below_drewN (Below.refl _ _) _⟩

theorem rplace_no (c k a : Int) (h : c < 1 ∨ 65536 < c ∨ k < 1 ∨ 6 < k ∨ a < 0 ∨ 1073741824 < a) (w : World) :
    Calls Try.prog 9 #[.int .i64 c, .int .i64 k, .int .i64 a] w fun e w' => e = .returned (.tuple #[.int .i64 0, .int .i64 0, .int .i64 1]) ∧ Below w.heap.size w w' := by
  by_cases h0 : c < 1
  · clear h; go_enter Try.func9, Try.ntmps9; go_wp2; go_ret3; exact ⟨rfl, Below.refl _ _⟩
  by_cases h1 : 65536 < c
  · clear h; go_enter Try.func9, Try.ntmps9; go_wp2; go_ret3; exact ⟨rfl, Below.refl _ _⟩
  by_cases h2 : k < 1
  · clear h; go_enter Try.func9, Try.ntmps9; go_wp2; go_ret3; exact ⟨rfl, Below.refl _ _⟩
  by_cases h3 : 6 < k
  · clear h; go_enter Try.func9, Try.ntmps9; go_wp2; go_ret3; exact ⟨rfl, Below.refl _ _⟩
  by_cases h4 : a < 0
  · clear h; go_enter Try.func9, Try.ntmps9; go_wp2; go_ret3; exact ⟨rfl, Below.refl _ _⟩
  have h5 : 1073741824 < a := by omega
  clear h; go_enter Try.func9, Try.ntmps9; go_wp2; go_ret3; exact ⟨rfl, Below.refl _ _⟩

theorem rplace_same (c k a i o r : Int) (H : Hid (plR c k a = (i, o, r))) (w : World) :
    Calls Try.prog 9 #[.int .i64 c, .int .i64 k, .int .i64 a] w fun e w' => e = .returned (.tuple #[.int .i64 i, .int .i64 o, .int .i64 r]) ∧ Below w.heap.size w w' := by
  have H' := H.out
  by_cases h : 1 ≤ c ∧ c ≤ 65536 ∧ 1 ≤ k ∧ k ≤ 6 ∧ 0 ≤ a ∧ a ≤ 1073741824
  · rw [plR, if_pos h] at H'
    cases H'
    obtain ⟨h0, h1, h2, h3, h4, h5⟩ := h
    exact rplace_ok c k a h0 h1 h2 h3 h4 h5 w
  · rw [plR, if_neg h] at H'
    cases H'
    exact rplace_no c k a (by omega) w

theorem back_no1 (c k l a : Int) (h : c < 1 ∨ 65536 < c ∨ k < 1 ∨ 6 < k) (w : World) :
    Calls Try.prog 10 #[.int .i64 c, .int .i64 k, .int .i64 l, .int .i64 a] w fun e w' => e = .returned (.tuple #[.int .i64 0, .int .i64 1]) ∧ Below w.heap.size w w' := by
  have H := hid h
  clear h
  go_enter Try.func10, Try.ntmps10
  go_wp2_with (first | (go_at_call 21; refine (valid_no _ _ H.out _).mono ?_; rintro e w1 ⟨rfl, hb1⟩; obtain ⟨hc1, hf1⟩ := bcell hb1))
  go_ret2
  exact ⟨rfl, ((Below.refl _ _).alloc (Nat.le_refl _) _).trans (hb1.mono (by simp))⟩

theorem back_no2 (c k l a : Int) (h0 : 1 ≤ c) (h1 : c ≤ 65536) (h2 : 1 ≤ k) (h3 : k ≤ 6) (h : a < 0 ∨ 1073741824 < a) (w : World) :
    Calls Try.prog 10 #[.int .i64 c, .int .i64 k, .int .i64 l, .int .i64 a] w fun e w' => e = .returned (.tuple #[.int .i64 0, .int .i64 1]) ∧ Below w.heap.size w w' := by
  have H := hid h
  clear h
  go_enter Try.func10, Try.ntmps10
  go_wp2_with (first | (go_at_call 21; refine (valid_yes _ _ h0 h1 h2 h3 _).mono ?_; rintro e w1 ⟨rfl, hb1⟩; obtain ⟨hc1, hf1⟩ := bcell hb1) | (go_at_call 22; refine (within_no _ _ H.out _).mono ?_; rintro e w2 ⟨rfl, rfl⟩))
  go_ret2
  exact ⟨rfl, ((Below.refl _ _).alloc (Nat.le_refl _) _).trans (hb1.mono (by simp))⟩

theorem back_no3 (c k l a : Int) (h0 : 1 ≤ c) (h1 : c ≤ 65536) (h2 : 1 ≤ k) (h3 : k ≤ 6) (h4 : 0 ≤ a) (h5 : a ≤ 1073741824) (h : l < 0 ∨ k - 1 < l) (w : World) :
    Calls Try.prog 10 #[.int .i64 c, .int .i64 k, .int .i64 l, .int .i64 a] w fun e w' => e = .returned (.tuple #[.int .i64 0, .int .i64 1]) ∧ Below w.heap.size w w' := by
  have H := hid h
  clear h
  go_enter Try.func10, Try.ntmps10
  go_wp2_with (first | (go_at_call 21; refine (valid_yes _ _ h0 h1 h2 h3 _).mono ?_; rintro e w1 ⟨rfl, hb1⟩; obtain ⟨hc1, hf1⟩ := bcell hb1) | (go_at_call 22; ((with_reducible refine (within_yes _ _ h4 h5 _).mono ?_); rintro e w2 ⟨rfl, rfl⟩)) | (go_at_call 22; ((with_reducible refine (within_no _ _ H.out _).mono ?_); rintro e w2 ⟨rfl, rfl⟩)))
  go_ret2
  exact ⟨rfl, ((Below.refl _ _).alloc (Nat.le_refl _) _).trans (hb1.mono (by simp))⟩

def bkR (c k l a : Int) : Int × Int := if 1 ≤ c ∧ c ≤ 65536 ∧ 1 ≤ k ∧ k ≤ 6 ∧ 0 ≤ a ∧ a ≤ 1073741824 ∧ 0 ≤ l ∧ l < k then ((a/c*k+l)*c + a%c, 0) else (0, 1)

theorem back_any (c k l a : Int) (w : World) :
    Calls Try.prog 10 #[.int .i64 c, .int .i64 k, .int .i64 l, .int .i64 a] w fun e w' => ∃ i r : Int, e = .returned (.tuple #[.int .i64 i, .int .i64 r]) ∧ Hid (bkR c k l a = (i, r)) ∧ Below w.heap.size w w' := by
  by_cases h : 1 ≤ c ∧ c ≤ 65536 ∧ 1 ≤ k ∧ k ≤ 6 ∧ 0 ≤ a ∧ a ≤ 1073741824 ∧ 0 ≤ l ∧ l < k
  · obtain ⟨h0, h1, h2, h3, h4, h5, h6, h7⟩ := h
    exact (back_ok c k l a h0 h1 h2 h3 h4 h5 h6 h7 w).mono fun e w' ⟨he, hb⟩ => ⟨_, _, he, if_pos ⟨h0, h1, h2, h3, h4, h5, h6, h7⟩, hb⟩
  · by_cases h' : c < 1 ∨ 65536 < c ∨ k < 1 ∨ 6 < k
    · exact (back_no1 c k l a h' w).mono fun e w' ⟨he, hb⟩ => ⟨_, _, he, if_neg h, hb⟩
    · by_cases h'' : a < 0 ∨ 1073741824 < a
      · exact (back_no2 c k l a (by omega) (by omega) (by omega) (by omega) h'' w).mono fun e w' ⟨he, hb⟩ => ⟨_, _, he, if_neg h, hb⟩
      · exact (back_no3 c k l a (by omega) (by omega) (by omega) (by omega) (by omega) (by omega) (by omega) w).mono fun e w' ⟨he, hb⟩ => ⟨_, _, he, if_neg h, hb⟩

theorem rback_ok (c k l a : Int) (h0 : 1 ≤ c) (h1 : c ≤ 65536) (h2 : 1 ≤ k) (h3 : k ≤ 6) (h4 : 0 ≤ a) (h5 : a ≤ 1073741824) (h6 : 0 ≤ l) (h7 : l < k) (w : World) :
    Calls Try.prog 11 #[.int .i64 c, .int .i64 k, .int .i64 l, .int .i64 a] w fun e w' => e = .returned (.tuple #[.int .i64 ((a/c*k+l)*c + a%c), .int .i64 0]) ∧ Below w.heap.size w w' := by
  obtain ⟨e1, e2, e3, e4, e5, e6, e7, e8⟩ := pl1 a c k h0 h2 h4
  obtain ⟨f1, f2, f3, f4⟩ := pl2 a c k l h0 h1 h2 h3 h4 h5 h6 h7
  go_enter Try.func11, Try.ntmps11
  go_wp2
  go_quiet (fail)
  go_wp2
  go_ret2
  exact ⟨rfl, below_drewN (Below.refl _ _) _⟩

theorem rback_no (c k l a : Int) (h : c < 1 ∨ 65536 < c ∨ k < 1 ∨ 6 < k ∨ a < 0 ∨ 1073741824 < a ∨ l < 0 ∨ k ≤ l) (w : World) :
    Calls Try.prog 11 #[.int .i64 c, .int .i64 k, .int .i64 l, .int .i64 a] w fun e w' => e = .returned (.tuple #[.int .i64 0, .int .i64 1]) ∧ Below w.heap.size w w' := by
  by_cases h0 : c < 1
  · clear h; go_enter Try.func11, Try.ntmps11; go_wp2; go_ret2; exact ⟨rfl, Below.refl _ _⟩
  by_cases h1 : 65536 < c
  · clear h; go_enter Try.func11, Try.ntmps11; go_wp2; go_ret2; exact ⟨rfl, Below.refl _ _⟩
  by_cases h2 : k < 1
  · clear h; go_enter Try.func11, Try.ntmps11; go_wp2; go_ret2; exact ⟨rfl, Below.refl _ _⟩
  by_cases h3 : 6 < k
  · clear h; go_enter Try.func11, Try.ntmps11; go_wp2; go_ret2; exact ⟨rfl, Below.refl _ _⟩
  by_cases h4 : a < 0
  · clear h; go_enter Try.func11, Try.ntmps11; go_wp2; go_ret2; exact ⟨rfl, Below.refl _ _⟩
  by_cases h5 : 1073741824 < a
  · clear h; go_enter Try.func11, Try.ntmps11; go_wp2; go_ret2; exact ⟨rfl, Below.refl _ _⟩
  by_cases h6 : l < 0
  · clear h; go_enter Try.func11, Try.ntmps11; go_wp2; go_ret2; exact ⟨rfl, Below.refl _ _⟩
  have h7 : k ≤ l := by omega
  clear h; go_enter Try.func11, Try.ntmps11; go_wp2; go_ret2; exact ⟨rfl, Below.refl _ _⟩

theorem rback_same (c k l a i r : Int) (H : Hid (bkR c k l a = (i, r))) (w : World) :
    Calls Try.prog 11 #[.int .i64 c, .int .i64 k, .int .i64 l, .int .i64 a] w fun e w' => e = .returned (.tuple #[.int .i64 i, .int .i64 r]) ∧ Below w.heap.size w w' := by
  have H' := H.out
  by_cases h : 1 ≤ c ∧ c ≤ 65536 ∧ 1 ≤ k ∧ k ≤ 6 ∧ 0 ≤ a ∧ a ≤ 1073741824 ∧ 0 ≤ l ∧ l < k
  · rw [bkR, if_pos h] at H'
    cases H'
    obtain ⟨h0, h1, h2, h3, h4, h5, h6, h7⟩ := h
    exact rback_ok c k l a h0 h1 h2 h3 h4 h5 h6 h7 w
  · rw [bkR, if_neg h] at H'
    cases H'
    exact rback_no c k l a (by omega) w
end Go.Proofs.Ytnklfcmhbkhjdaa
