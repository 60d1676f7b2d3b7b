/- The sanity check of layer 18, and the exclusive or of words as natural numbers. No conditions but those of each theorem. -/
import Derived.Test.YtahnmmichekamaaD
namespace Go.Proofs.Ytahnmmichekamaa
open Go.ChangeShapes Go.WideShapes Go.ChangeAt Go.RowKit
set_option linter.unusedVariables false

theorem place_awake (w : World) :
    Calls Try.prog 8 #[.int .i64 1, .int .i64 3, .int .i64 5] w fun e w' => e = .returned (.tuple #[.int .i64 2, .int .i64 2, .int .i64 0, .int .i64 0]) ∧ Below w.heap.size w w' :=
  (place_ok 1 2 5 (by omega) (by omega) (by omega) (by omega) (by omega) (by omega) w).mono fun e w' ⟨x, y, z, he, hp, hb⟩ => by
    have hq := hp.out
    have h2 : plV 1 2 5 = (2, 2, 0) := by decide
    rw [h2] at hq
    cases hq
    exact ⟨he, hb⟩

theorem xo_awake : bits .xor .u64 (xo [5, 0, 6] 3) ([5, 0, 6].getD 1 0) = 3 := by decide

theorem rebuild_awake (w : World) :
    Calls Try.prog 14 #[.slice (some ⟨w.heap.size, 0, none⟩) 3 3, .int .i64 1] (w.alloc (.cells #[.int .u64 5, .int .u64 0, .int .u64 6] 37)) fun e w' => e = .returned (.tuple #[.int .u64 3, .int .i64 0]) ∧ Below w.heap.size w w' := by
  have h := rebuild_ok (some ⟨w.heap.size, 0, none⟩) 3 3 [5, 0, 6] 1 (w.alloc (.cells #[.int .u64 5, .int .u64 0, .int .u64 6] 37)) (by omega) (fun j hj => ⟨_, _, rfl, by
    match j, hj with
    | 0, _ => simp [go_sem]
    | 1, _ => simp [go_sem]
    | 2, _ => simp [go_sem]⟩) (by omega)
  rw [xo_awake] at h
  exact h.mono fun e w' ⟨he, hb⟩ => ⟨he, ((Below.refl _ _).alloc (Nat.le_refl _) _).trans (hb.mono (by simp))⟩

theorem awake_ok (w : World) :
    Calls Try.prog 7 #[] w fun e w' => e = .returned (.bool true) ∧ Below w.heap.size w w' := by
  go_enter Try.func7, Try.ntmps7
  go_wp2_with (first | (go_at_call 8; refine (place_awake _).mono ?_; rintro e w1 ⟨rfl, hb1⟩) | (go_at_call 14; refine (rebuild_awake _).mono ?_; rintro e w2 ⟨rfl, hb2⟩))
  go_ret
  exact ⟨rfl, bt hb1 hb2⟩

/-- what the walk is told of a slice of integers that came in: it is nil, or it leads to a row of 'cap' cells, the numbers 'zs', each fitting its kind -/
def IsRow (k : IntKind) (w : World) (a : Option Addr) (len cap : Nat) (zs : List Int) : Prop :=
  (a = none ∧ len = 0 ∧ cap = 0 ∧ zs = []) ∨
  ∃ x, a = some x ∧ len ≤ cap ∧ cap ≤ maxLen ∧ zs.length = cap ∧ (∀ i, i < zs.length → w.cell? (x.add i) = some (.int k (zs.getD i 0))) ∧ ∀ n ∈ zs, (Lit.int k n).wf = true

theorem sl_of {w : World} {a : Option Addr} {len cap : Nat} {zs : List Int} (h : IsRow .u64 w a len cap zs) : Sl w a len zs := by
  intro j hj
  rcases h with ⟨rfl, rfl, rfl, rfl⟩ | ⟨x, rfl, hl, hm, hz, hcell, hwz⟩
  · omega
  · obtain ⟨b, off, spot⟩ := x
    have hc := hcell 0 (by omega)
    have hspot : spot = none := by simpa [Addr.add] using World.cell?_spot hc
    subst hspot
    refine ⟨b, off, rfl, ?_⟩
    have := hcell j (by omega)
    by_cases e : j = 0
    · subst e; simpa [Addr.add] using this
    · simpa [Addr.add, e] using this

theorem wf_of {w : World} {a : Option Addr} {len cap : Nat} {zs : List Int} (h : IsRow .u64 w a len cap zs) : len ≤ zs.length ∧ len ≤ 9223372036854775807 ∧ ∀ j, 0 ≤ zs.getD j 0 ∧ zs.getD j 0 < 18446744073709551616 := by
  rcases h with ⟨rfl, rfl, rfl, rfl⟩ | ⟨x, rfl, hl, hm, hz, hcell, hwz⟩
  · exact ⟨by omega, by omega, fun j => by simp⟩
  · refine ⟨by omega, by unfold maxLen at hm; omega, fun j => ?_⟩
    by_cases hj : j < zs.length
    · have := hwz _ (List.getElem_mem hj)
      simp [Lit.wf, IntKind.min, IntKind.max, IntKind.signed, IntKind.bits] at this
      simp [List.getD_eq_getElem?_getD, List.getElem?_eq_getElem hj]
      omega
    · simp [List.getD_eq_getElem?_getD, List.getElem?_eq_none (by omega : zs.length ≤ j)]

/-! the exclusive or of words, as natural numbers -/
def xn (zs : List Int) : Nat → Nat
  | 0 => 0
  | k + 1 => xn zs k ^^^ (zs.getD k 0).toNat

theorem xn_lt (zs : List Int) (h : ∀ j, 0 ≤ zs.getD j 0 ∧ zs.getD j 0 < 18446744073709551616) (k : Nat) : xn zs k < 2 ^ 64 := by
  induction k with
  | zero => show 0 < 2 ^ 64; decide
  | succ k ih => exact Nat.xor_lt_two_pow ih (by have := h k; omega)

theorem xo_xn (zs : List Int) (h : ∀ j, 0 ≤ zs.getD j 0 ∧ zs.getD j 0 < 18446744073709551616) (k : Nat) : xo zs k = (xn zs k : Int) := by
  induction k with
  | zero => rfl
  | succ k ih =>
    have h1 := xn_lt zs h k
    have h2 := h k
    rw [xo, ih, u64_xor _ _ (by omega) (by omega) (by omega) (by omega)]
    rfl
end Go.Proofs.Ytahnmmichekamaa
