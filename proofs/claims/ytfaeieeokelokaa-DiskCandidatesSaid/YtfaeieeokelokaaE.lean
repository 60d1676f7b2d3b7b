/- The program's hasSector, checkSector, checkBad, first. No conditions but those of each theorem. -/
import Derived.Test.YtfaeieeokelokaaD
namespace Go.Proofs.Ytfaeieeokelokaa
open Go.ChangeShapes Go.WideShapes Go.ChangeAt Go.RowKit
set_option linter.unusedVariables false
set_option linter.unusedSimpArgs false
theorem hd_iff {k : Dk} {d : Int} : hd k d = true ↔ ∃ n : Nat, d = n ∧ n < k.U.length := by
  unfold hd
  rw [Bool.and_eq_true, decide_eq_true_eq, decide_eq_true_eq]
  constructor
  · rintro ⟨h1, h2⟩; exact ⟨d.toNat, by omega, by omega⟩
  · rintro ⟨n, rfl, h⟩; exact ⟨by omega, by omega⟩
set_option maxHeartbeats 4000000 in
theorem hasS_ok {W : World} {A : Nat} {c : Co} {k : Dk} (h : DA W A c k) (d t : Int) :
    Calls Try.prog 47 #[.pointer (some ⟨A, 0, none⟩), .agg #[.int .i64 d, .int .i64 t]] W fun e W' => e = .returned (.bool (hs k d t)) ∧ Below W.heap.size W W' := by
  have H := hid h
  have h8 := h.b8
  have c0 := h.c0
  have HL := h.lt
  have HS := hid (show hs k d t = (hd k d && (decide (0 ≤ t) && decide (t < ((gu k.U d.toNat).now.length : Int)))) from rfl)
  have HH := hid (fun (W1 : World) (hb : Below W.heap.size W W1) => has_ok (h.below hb) d)
  cases hb : hd k d with
  | false =>
    rw [hb] at HH HS
    clear h hb
    generalize hs k d t = res at *
    go_enter Try.func47, Try.ntmps47
    go_wp2_with fail
    go_quiet ((go_at_call 43; exact Calls.quiet_of_same (HH.out _ (((Below.refl _ _).alloc (Nat.le_refl _) _).trans (bdn _ _ _)))))
    go_wp2_with fail
    go_ret
    exact ⟨by rw [HS.out]; rfl, ((Below.refl _ _).alloc (Nat.le_refl _) _).trans (bdn _ _ _)⟩
  | true =>
    obtain ⟨n, rfl, hn⟩ := hd_iff.1 hb
    rw [hb] at HH HS
    rw [show ((n : Int)).toNat = n from rfl] at HS
    by_cases h0 : 0 ≤ t
    · obtain ⟨ub, hub, hul, c1, -, -, -⟩ := h.unit hn
      rw [hub] at c0
      have hbn := h.bn n hn
      clear h hb hub
      by_cases h1 : t < ((gu k.U n).now.length : Int)
      · rw [decide_eq_true h0, decide_eq_true h1] at HS
        generalize hs k (n : Int) t = res at *
        generalize (gu k.U n).now.length = len at *
        go_enter Try.func47, Try.ntmps47
        go_wp2_with fail
        go_quiet ((go_at_call 43; exact Calls.quiet_of_same (HH.out _ (((Below.refl _ _).alloc (Nat.le_refl _) _).trans (bdn _ _ _)))))
        go_wp2_with fail
        go_ret
        exact ⟨by rw [HS.out]; rfl, ((Below.refl _ _).alloc (Nat.le_refl _) _).trans (bdn _ _ _)⟩
      · rw [decide_eq_true h0, decide_eq_false h1] at HS
        generalize hs k (n : Int) t = res at *
        generalize (gu k.U n).now.length = len at *
        have g1 : decide (t < (len : Int)) = false := decide_eq_false h1
        clear h1
        go_enter Try.func47, Try.ntmps47
        go_wp2_with fail
        go_quiet ((go_at_call 43; exact Calls.quiet_of_same (HH.out _ (((Below.refl _ _).alloc (Nat.le_refl _) _).trans (bdn _ _ _)))))
        go_wp2_with fail
        go_ret
        exact ⟨by rw [HS.out]; rfl, ((Below.refl _ _).alloc (Nat.le_refl _) _).trans (bdn _ _ _)⟩
    · rw [decide_eq_false h0] at HS
      clear h hb
      have g0 : decide (0 ≤ t) = false := decide_eq_false h0
      clear h0
      generalize hs k (n : Int) t = res at *
      go_enter Try.func47, Try.ntmps47
      go_wp2_with fail
      go_quiet ((go_at_call 43; exact Calls.quiet_of_same (HH.out _ (((Below.refl _ _).alloc (Nat.le_refl _) _).trans (bdn _ _ _)))))
      go_wp2_with fail
      go_ret
      exact ⟨by rw [HS.out]; rfl, ((Below.refl _ _).alloc (Nat.le_refl _) _).trans (bdn _ _ _)⟩
set_option maxHeartbeats 4000000 in
theorem sector_ok {W : World} {A : Nat} {c : Co} {k : Dk} (h : DA W A c k) (d t : Int) :
    Calls Try.prog 39 #[.pointer (some ⟨A, 0, none⟩), .agg #[.int .i64 d, .int .i64 t]] W fun e W' => e = .returned (.int .i64 (if hs k d t then 0 else 1)) ∧ Below W.heap.size W W' := by
  have HH := hid (fun (W1 : World) (hb : Below W.heap.size W W1) => hasS_ok (h.below hb) d t)
  clear h
  generalize hs k d t = b at *
  cases b with
  | true =>
    go_enter Try.func39, Try.ntmps39
    go_wp2_with fail
    refine (HH.out _ ((Below.refl _ _).alloc (Nat.le_refl _) _)).mono ?_
    rintro e w1 ⟨rfl, hb1⟩
    have HB := hid (((Below.refl W.heap.size W).alloc (Nat.le_refl _) (.cells #[.int .i64 d, .int .i64 t] 83)).trans (hb1.mono (by simp)))
    clear hb1
    go_wp2_with fail
    go_ret
    exact ⟨rfl, HB.out⟩
  | false =>
    go_enter Try.func39, Try.ntmps39
    go_wp2_with fail
    refine (HH.out _ ((Below.refl _ _).alloc (Nat.le_refl _) _)).mono ?_
    rintro e w1 ⟨rfl, hb1⟩
    have HB := hid (((Below.refl W.heap.size W).alloc (Nat.le_refl _) (.cells #[.int .i64 d, .int .i64 t] 83)).trans (hb1.mono (by simp)))
    clear hb1
    go_wp2_with fail
    go_ret
    exact ⟨rfl, HB.out⟩
end Go.Proofs.Ytfaeieeokelokaa
