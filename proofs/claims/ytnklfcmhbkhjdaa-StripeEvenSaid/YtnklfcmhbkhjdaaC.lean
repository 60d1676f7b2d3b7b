/- Contracts of the functions of layer 17 (stripe) that the laws call: what each call returns, and that it changes nothing that was there. No conditions but those of each theorem. -/
import Derived.Test.YtnklfcmhbkhjdaaRows
import Derived.WalkKit
import Derived.ProofKit
import Derived.OpenShut
import Derived.LoopTactic
import Derived.Outline
import Derived.Below
import Derived.WalkLawsBesides
import Derived.WalkSpells
import Derived.Deep.QuietTactic
import Derived.BigQuiet
import Derived.RegionTactic
namespace Go.Proofs.Ytnklfcmhbkhjdaa
open Go.ChangeShapes Go.WideShapes Go.ChangeAt Go.RowKit
set_option linter.unusedVariables false

theorem bcell {W w1 : World} (hb : Below W.heap.size W w1) : (∀ b o, b < W.heap.size → w1.cell? ⟨b, o, none⟩ = W.cell? ⟨b, o, none⟩) ∧ (∀ b o, b < W.heap.size → w1.frozen? ⟨b, o, none⟩ = W.frozen? ⟨b, o, none⟩) :=
  ⟨fun b o h => hb.cell (p := ⟨b, o, none⟩) h, fun b o h => hb.frozen (p := ⟨b, o, none⟩) h⟩
theorem within_yes (a m : Int) (h0 : 0 ≤ a) (h1 : a ≤ m) (w : World) :
    Calls Try.prog 22 #[.int .i64 a, .int .i64 m] w fun e w' => e = .returned (.bool true) ∧ w = w' := by
  go_enter Try.func22, Try.ntmps22
  go_wp2
  go_ret
  exact ⟨rfl, rfl⟩
theorem within_no (a m : Int) (h : a < 0 ∨ m < a) (w : World) :
    Calls Try.prog 22 #[.int .i64 a, .int .i64 m] w fun e w' => e = .returned (.bool false) ∧ w = w' := by
  by_cases h0 : 0 ≤ a
  · have h1 : m < a := by omega
    have hd : decide (a ≤ m) = false := by simp; omega
    clear h
    go_enter Try.func22, Try.ntmps22
    go_wp2
    go_ret
    exact ⟨rfl, rfl⟩
  · clear h
    go_enter Try.func22, Try.ntmps22
    go_wp2
    go_ret
    exact ⟨rfl, rfl⟩
theorem valid_yes (c k : Int) (h0 : 1 ≤ c) (h1 : c ≤ 65536) (h2 : 1 ≤ k) (h3 : k ≤ 6) (w : World) :
    Calls Try.prog 21 #[.agg #[.int .i64 c, .int .i64 k]] w fun e w' => e = .returned (.bool true) ∧ Below w.heap.size w w' := by
  go_enter Try.func21, Try.ntmps21
  go_wp2
  go_ret
  exact ⟨rfl, (Below.refl _ _).alloc (Nat.le_refl _) _⟩
theorem valid_no (c k : Int) (h : c < 1 ∨ 65536 < c ∨ k < 1 ∨ 6 < k) (w : World) :
    Calls Try.prog 21 #[.agg #[.int .i64 c, .int .i64 k]] w fun e w' => e = .returned (.bool false) ∧ Below w.heap.size w w' := by
  by_cases h0 : 1 ≤ c <;> by_cases h1 : c ≤ 65536 <;> by_cases h2 : 1 ≤ k <;> by_cases h3 : k ≤ 6 <;> first | (exfalso; omega) | skip
  all_goals
    clear h
    go_enter Try.func21, Try.ntmps21
    go_wp2
    go_ret
    exact ⟨rfl, (Below.refl _ _).alloc (Nat.le_refl _) _⟩

theorem pl1 (a c k : Int) (h0 : 1 ≤ c) (h2 : 1 ≤ k) (h4 : 0 ≤ a) : 0 ≤ a / c ∧ a / c ≤ a ∧ 0 ≤ a/c/k ∧ a/c/k ≤ a/c ∧ 0 ≤ a/c/k*c ∧ a/c/k*c ≤ a - a%c ∧ 0 ≤ a % c ∧ a % c < c := by
  have e1 : 0 ≤ a / c := Int.ediv_nonneg h4 (by omega)
  have e2 : a / c ≤ a := Int.ediv_le_self _ h4
  have e3 : 0 ≤ a/c/k := Int.ediv_nonneg e1 (by omega)
  have e4 : a/c/k ≤ a/c := Int.ediv_le_self _ e1
  have e5 : a / c / k * c ≤ a / c * c := Int.mul_le_mul_of_nonneg_right e4 (by omega)
  have e6 := Int.mul_ediv_add_emod a c
  have e7 : a / c * c = c * (a / c) := Int.mul_comm _ _
  exact ⟨e1, e2, e3, e4, Int.mul_nonneg e3 (by omega), by omega, Int.emod_nonneg _ (by omega), Int.emod_lt_of_pos _ (by omega)⟩

theorem place_in (c k a : Int) (h0 : 1 ≤ c) (h1 : c ≤ 65536) (h2 : 1 ≤ k) (h3 : k ≤ 6) (h4 : 0 ≤ a) (h5 : a ≤ 1073741824) (w : World) :
    Calls Try.prog 23 #[.agg #[.int .i64 c, .int .i64 k], .int .i64 a] w fun e w' => e = .returned (.tuple #[.int .i64 (a/c % k), .int .i64 (a/c/k*c + a%c)]) ∧ Below w.heap.size w w' := by
  obtain ⟨e1, e2, e3, e4, e5, e6, e7, e8⟩ := pl1 a c k h0 h2 h4
  go_enter Try.func23, Try.ntmps23
  go_wp2
  go_quiet (fail)
  go_wp2
  go_ret2
  exact ⟨rfl, below_drewN ((Below.refl _ _).alloc (Nat.le_refl _) _) _⟩
theorem pl2 (a c k l : Int) (h0 : 1 ≤ c) (h1 : c ≤ 65536) (h2 : 1 ≤ k) (h3 : k ≤ 6) (h4 : 0 ≤ a) (h5 : a ≤ 1073741824) (h6 : 0 ≤ l) (h7 : l < k) :
    0 ≤ a/c*k ∧ a/c*k ≤ 6442450944 ∧ 0 ≤ (a/c*k+l)*c ∧ (a/c*k+l)*c ≤ 422212859723776 := by
  obtain ⟨e1, e2, e3, e4, e5, e6, e7, e8⟩ := pl1 a c k h0 h2 h4
  have g1 : 0 ≤ a/c*k := Int.mul_nonneg e1 (by omega)
  have g2 : a/c*k ≤ 1073741824 * 6 := Int.mul_le_mul (by omega) h3 (by omega) (by omega)
  have g3 : (a/c*k+l)*c ≤ 6442450950 * 65536 := Int.mul_le_mul (by omega) h1 (by omega) (by omega)
  exact ⟨g1, by omega, Int.mul_nonneg (by omega) (by omega), by omega⟩

theorem back_in (c k l a : Int) (h0 : 1 ≤ c) (h1 : c ≤ 65536) (h2 : 1 ≤ k) (h3 : k ≤ 6) (h4 : 0 ≤ a) (h5 : a ≤ 1073741824) (h6 : 0 ≤ l) (h7 : l < k) (w : World) :
    Calls Try.prog 24 #[.agg #[.int .i64 c, .int .i64 k], .int .i64 l, .int .i64 a] w fun e w' => e = .returned (.int .i64 ((a/c*k+l)*c + a%c)) ∧ Below w.heap.size w w' := by
  obtain ⟨e1, e2, e3, e4, e5, e6, e7, e8⟩ := pl1 a c k h0 h2 h4
  obtain ⟨f1, f2, f3, f4⟩ := pl2 a c k l h0 h1 h2 h3 h4 h5 h6 h7
  go_enter Try.func24, Try.ntmps24
  go_wp2
  go_quiet (fail)
  go_wp2
  go_ret
  exact ⟨rfl, below_drewN ((Below.refl _ _).alloc (Nat.le_refl _) _) _⟩

theorem place_ok (c k a : Int) (h0 : 1 ≤ c) (h1 : c ≤ 65536) (h2 : 1 ≤ k) (h3 : k ≤ 6) (h4 : 0 ≤ a) (h5 : a ≤ 1073741824) (w : World) :
    Calls Try.prog 8 #[.int .i64 c, .int .i64 k, .int .i64 a] w fun e w' => e = .returned (.tuple #[.int .i64 (a/c % k), .int .i64 (a/c/k*c + a%c), .int .i64 0]) ∧ Below w.heap.size w w' := by
  go_enter Try.func8, Try.ntmps8
  go_wp2_with (first | (go_at_call 21; refine (valid_yes _ _ h0 h1 h2 h3 _).mono ?_; rintro e w1 ⟨rfl, hb1⟩; obtain ⟨hc1, hf1⟩ := bcell hb1) | (go_at_call 22; refine (within_yes _ _ h4 h5 _).mono ?_; rintro e w2 ⟨rfl, rfl⟩) | (go_at_call 23; refine (place_in _ _ _ h0 h1 h2 h3 h4 h5 _).mono ?_; rintro e w3 ⟨rfl, hb3⟩))
  go_ret3
  exact ⟨rfl, (((Below.refl _ _).alloc (Nat.le_refl _) _).trans (hb1.mono (by simp))).trans (hb3.mono (by have := hb1.size; simp at this; omega))⟩

theorem back_ok (c k l a : Int) (h0 : 1 ≤ c) (h1 : c ≤ 65536) (h2 : 1 ≤ k) (h3 : k ≤ 6) (h4 : 0 ≤ a) (h5 : a ≤ 1073741824) (h6 : 0 ≤ l) (h7 : l < k) (w : World) :
    Calls Try.prog 10 #[.int .i64 c, .int .i64 k, .int .i64 l, .int .i64 a] w fun e w' => e = .returned (.tuple #[.int .i64 ((a/c*k+l)*c + a%c), .int .i64 0]) ∧ Below w.heap.size w w' := by
  have h8 : l ≤ k - 1 := by omega
  go_enter Try.func10, Try.ntmps10
  go_wp2_with (first | (go_at_call 21; refine (valid_yes _ _ h0 h1 h2 h3 _).mono ?_; rintro e w1 ⟨rfl, hb1⟩; obtain ⟨hc1, hf1⟩ := bcell hb1) | (go_at_call 22; ((with_reducible refine (within_yes _ _ h4 h5 _).mono ?_); rintro e w2 ⟨rfl, rfl⟩)) | (go_at_call 22; ((with_reducible refine (within_yes _ _ h6 h8 _).mono ?_); rintro e w2 ⟨rfl, rfl⟩)) | (go_at_call 24; refine (back_in _ _ _ _ h0 h1 h2 h3 h4 h5 h6 h7 _).mono ?_; rintro e w3 ⟨rfl, hb3⟩))
  go_ret2
  exact ⟨rfl, (((Below.refl _ _).alloc (Nat.le_refl _) _).trans (hb1.mono (by simp))).trans (hb3.mono (by have := hb1.size; simp at this; omega))⟩

def mn (zs : List Int) : Nat → Int
  | 0 => zs.getD 0 0
  | k + 1 => min (mn zs k) (zs.getD (k + 1) 0)

theorem min_any (b off len cap : Nat) (zs : List Int) (w : World) (hl : 1 ≤ len) (hbig : len ≤ 9223372036854775807) (hc : ∀ j, j < len → w.cell? ⟨b, off + j, none⟩ = some (.int .i64 (zs.getD j 0))) :
    Calls Try.prog 25 #[.slice (some ⟨b, off, none⟩) len cap] w fun e w' => e = .returned (.int .i64 (mn zs (len - 1))) ∧ w = w' := by
  have hc0 : w.cell? ⟨b, off, none⟩ = some (.int .i64 (zs.getD 0 0)) := by simpa using hc 0 (by omega)
  go_enter Try.func25, Try.ntmps25
  go_wp2
  go_loop [3, 4] (fun m i => ∃ k : Nat, 1 ≤ k ∧ k ≤ len ∧ i = .int .i64 k ∧ m = .int .i64 (mn zs (k - 1))) (fun _ i => len - (intOf i).toNat)
  case atStart => exact ⟨1, by omega, by omega, rfl, rfl⟩
  case round =>
    obtain ⟨k, hk1, hk, rfl, rfl⟩ := hrel
    by_cases hlt : k < len
    · have hck := hc k hlt
      go_wp2
      go_round
      case rel => exact ⟨k + 1, by omega, by omega, by go_num, by rw [show k + 1 - 1 = (k - 1) + 1 from by omega, mn, show k - 1 + 1 = k from by omega]; simp only [List.getD_eq_getElem?_getD]; congr 1; omega⟩
      case measure => simp [intOf]; omega
    · obtain rfl : k = len := by omega
      go_wp2
      go_ret
      exact ⟨rfl, rfl⟩

theorem min_q (b off len cap : Nat) (zs : List Int) (w : World) (hl : 1 ≤ len) (hbig : len ≤ 9223372036854775807) (hc : ∀ j, j < len → w.cell? ⟨b, off + j, none⟩ = some (.int .i64 (zs.getD j 0))) :
    Calls Try.prog 25 #[.slice (some ⟨b, off, none⟩) len cap] w fun e w' => e = .returned (.int .i64 (mn zs (len - 1))) ∧ w' = w :=
  (min_any b off len cap zs w hl hbig hc).mono fun _ _ ⟨he, hw⟩ => ⟨he, hw.symm⟩

theorem mn_bd (zs : List Int) (k : Nat) (h : ∀ j, j ≤ k → 0 ≤ zs.getD j 0 ∧ zs.getD j 0 ≤ 1073741824) : 0 ≤ mn zs k ∧ mn zs k ≤ 1073741824 := by
  induction k with
  | zero => exact h 0 (by omega)
  | succ k ih =>
    have := ih (fun j hj => h j (by omega))
    have := h (k + 1) (by omega)
    unfold mn
    omega

theorem sz1 (c m n : Int) (h0 : 1 ≤ c) (h4 : 0 ≤ m) (h5 : m ≤ 1073741824) (h6 : 0 ≤ n) (h7 : n ≤ 6) : 0 ≤ m/c ∧ m/c ≤ 1073741824 ∧ 0 ≤ m/c*c ∧ m/c*c ≤ 1073741824 ∧ 0 ≤ m/c*c*n ∧ m/c*c*n ≤ 6442450944 := by
  have e1 : 0 ≤ m / c := Int.ediv_nonneg h4 (by omega)
  have e2 : m / c ≤ m := Int.ediv_le_self _ h4
  have e3 : m / c * c ≤ m := Int.ediv_mul_le _ (by omega)
  have e4 : 0 ≤ m/c*c := Int.mul_nonneg e1 (by omega)
  have e5 : m/c*c*n ≤ 1073741824 * 6 := Int.mul_le_mul (by omega) h7 h6 (by omega)
  exact ⟨e1, by omega, e4, by omega, Int.mul_nonneg e4 h6, by omega⟩

theorem size_ok (c : Int) (b off len cap : Nat) (zs : List Int) (w : World) (h0 : 1 ≤ c) (h1 : c ≤ 65536) (hl : 1 ≤ len) (hl6 : len ≤ 6) (hb : b < w.heap.size) (hc : ∀ j, j < len → w.cell? ⟨b, off + j, none⟩ = some (.int .i64 (zs.getD j 0)))
    (hz : ∀ j, j < len → 0 ≤ zs.getD j 0 ∧ zs.getD j 0 ≤ 1073741824) :
    Calls Try.prog 12 #[.int .i64 c, .slice (some ⟨b, off, none⟩) len cap] w fun e w' => e = .returned (.tuple #[.int .i64 (mn zs (len - 1) / c * c * len), .int .i64 0]) ∧ Below w.heap.size w w' := by
  obtain ⟨g1, g2⟩ := mn_bd zs (len - 1) (fun j hj => hz j (by omega))
  obtain ⟨f1, f2, f3, f4, f5, f6⟩ := sz1 c (mn zs (len - 1)) len h0 g1 g2 (by omega) (by omega)
  have hl1 : (1 : Int) ≤ len := by omega
  have hl7 : (len : Int) ≤ 6 := by omega
  go_enter Try.func12, Try.ntmps12
  go_wp2_with (first | (go_at_call 21; refine (valid_yes _ _ h0 h1 hl1 hl7 _).mono ?_; rintro e w1 ⟨rfl, hb1⟩; obtain ⟨hc1, hf1⟩ := bcell hb1))
  go_loop [18] (fun i => ∃ k : Nat, k ≤ len ∧ i = .int .i64 k) (fun i => len - (intOf i).toNat)
  case atStart => exact ⟨0, by omega, rfl⟩
  case round =>
    obtain ⟨k, hk, rfl⟩ := hrel
    have hs1 := hb1.size
    simp at hs1
    by_cases hlt : k < len
    · have hck := hc k hlt
      have hck1 : w1.cell? ⟨b, off + k, none⟩ = some (.int .i64 (zs.getD k 0)) := by rw [hc1 b _ (by simp; omega), ← hck]; exact World.cell?_alloc_old _ _ _ (by simp; omega)
      obtain ⟨z1, z2⟩ := hz k hlt
      go_wp2_with (first | (go_at_call 22; refine (within_yes _ _ (by simpa using z1) (by simpa using z2) _).mono ?_; rintro e w2 ⟨rfl, rfl⟩))
      go_round
      case rel => exact ⟨k + 1, by omega, by go_num⟩
      case measure => simp [intOf]; omega
    · obtain rfl : k = len := by omega
      have hn : ¬ ((k : Int) < (k : Int)) := by omega
      have hcw : Hid (∀ j, j < k → w1.cell? ⟨b, off + j, none⟩ = some (.int .i64 (zs.getD j 0))) := fun j hj => by
        rw [hc1 b _ (by simp; omega), ← hc j hj]; exact World.cell?_alloc_old _ _ _ (by simp; omega)
      have hk6 : k ≤ 9223372036854775807 := by omega
      go_wp2_with fail
      go_quiet ((go_at_call 25; exact Calls.quiet_of_same (min_q b off k cap zs _ hl hk6 (fun j hj => hcw.out j hj))))
      go_wp2
      go_ret2
      exact ⟨rfl, below_drewN (((Below.refl _ _).alloc (Nat.le_refl _) _).trans (hb1.mono (by simp))) _⟩

/-- what the walk is told of a slice of integers that came in: it is nil, or it leads to a row of 'cap' cells, the numbers 'zs', each fitting its kind -/
def IsRow (k : IntKind) (w : World) (a : Option Addr) (len cap : Nat) (zs : List Int) : Prop :=
  (a = none ∧ len = 0 ∧ cap = 0 ∧ zs = []) ∨
  ∃ x, a = some x ∧ len ≤ cap ∧ cap ≤ maxLen ∧ zs.length = cap ∧ (∀ i, i < zs.length → w.cell? (x.add i) = some (.int k (zs.getD i 0))) ∧ ∀ n ∈ zs, (Lit.int k n).wf = true

theorem bt {W a b : World} (h : Below W.heap.size W a) (k : Below a.heap.size a b) : Below W.heap.size W b := h.trans (k.mono h.size)

theorem size_awake (w : World) : Calls Try.prog 12 #[.int .i64 4, .slice (some ⟨w.heap.size, 0, none⟩) 2 2] (w.alloc (.cells #[.int .i64 10, .int .i64 8] 3)) fun e w' => e = .returned (.tuple #[.int .i64 16, .int .i64 0]) ∧ Below w.heap.size w w' := by
  refine (size_ok 4 w.heap.size 0 2 2 [10, 8] _ (by omega) (by omega) (by omega) (by omega) (by simp) (fun j hj => ?_) (fun j hj => ?_)).mono fun e w' ⟨he, hb⟩ => ⟨he, ((Below.refl _ _).alloc (Nat.le_refl _) _).trans (hb.mono (by simp))⟩
  · match j, hj with
    | 0, _ => simp [go_sem]
    | 1, _ => simp [go_sem]
  · match j, hj with
    | 0, _ => decide
    | 1, _ => decide

theorem awake_ok (w : World) :
    Calls Try.prog 7 #[] w fun e w' => e = .returned (.bool true) ∧ Below w.heap.size w w' := by
  go_enter Try.func7, Try.ntmps7
  go_wp2_with (first | (go_at_call 8; refine (place_ok 4 2 9 (by omega) (by omega) (by omega) (by omega) (by omega) (by omega) _).mono ?_; rintro e w1 ⟨rfl, hb1⟩; obtain ⟨hc1, hf1⟩ := bcell hb1) | (go_at_call 12; refine (size_awake _).mono ?_; rintro e w2 ⟨rfl, hb2⟩))
  go_ret
  exact ⟨rfl, hb1.trans (hb2.mono hb1.size)⟩

end Go.Proofs.Ytnklfcmhbkhjdaa

