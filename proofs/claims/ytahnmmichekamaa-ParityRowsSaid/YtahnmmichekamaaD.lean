/- Contracts of Place of layer 18 and of what it calls, for arguments within the bounds. No conditions but those of each theorem. -/
import Derived.Test.YtahnmmichekamaaC
import Derived.Deep.RegionHeld3
namespace Go.Proofs.Ytahnmmichekamaa
open Go.ChangeShapes Go.WideShapes Go.ChangeAt Go.RowKit
set_option linter.unusedVariables false

theorem valid_yes (c k : Int) (h0 : 1 ≤ c) (h1 : c ≤ 65536) (h2 : 3 ≤ k) (h3 : k ≤ 6) (w : World) :
    Calls Try.prog 19 #[.agg #[.int .i64 c, .int .i64 k]] w fun e w' => e = .returned (.bool true) ∧ Below w.heap.size w w' := by
  go_enter Try.func19, Try.ntmps19
  go_wp2
  go_ret
  exact ⟨rfl, (Below.refl _ _).alloc (Nat.le_refl _) _⟩
theorem valid_no (c k : Int) (h : c < 1 ∨ 65536 < c ∨ k < 3 ∨ 6 < k) (w : World) :
    Calls Try.prog 19 #[.agg #[.int .i64 c, .int .i64 k]] w fun e w' => e = .returned (.bool false) ∧ Below w.heap.size w w' := by
  by_cases h0 : 1 ≤ c <;> by_cases h1 : c ≤ 65536 <;> by_cases h2 : 3 ≤ k <;> by_cases h3 : k ≤ 6 <;> first | (exfalso; omega) | skip
  all_goals
    clear h
    go_enter Try.func19, Try.ntmps19
    go_wp2
    go_ret
    exact ⟨rfl, (Below.refl _ _).alloc (Nat.le_refl _) _⟩
theorem data_any (c n : Int) (h2 : 2 ≤ n) (h3 : n ≤ 5) (w : World) :
    Calls Try.prog 25 #[.agg #[.int .i64 c, .int .i64 (n + 1)]] w fun e w' => e = .returned (.int .i64 n) ∧ Below w.heap.size w w' := by
  have e1 := hid (show n + 1 - 1 = n by omega)
  go_enter Try.func25, Try.ntmps25
  go_wp2
  go_ret
  exact ⟨by first | rfl | rw [e1.out], (Below.refl _ _).alloc (Nat.le_refl _) _⟩
theorem parityOf_any (c n r : Int) (h2 : 2 ≤ n) (h3 : n ≤ 5) (h4 : 0 ≤ r) (w : World) :
    Calls Try.prog 28 #[.agg #[.int .i64 c, .int .i64 (n + 1)], .int .i64 r] w fun e w' => e = .returned (.int .i64 (n - r % (n + 1))) ∧ Below w.heap.size w w' := by
  have q1 : 0 ≤ r % (n + 1) := Int.emod_nonneg _ (by omega)
  have q2 : r % (n + 1) < n + 1 := Int.emod_lt_of_pos _ (by omega)
  have e1 := hid (show n + 1 - 1 = n by omega)
  go_enter Try.func28, Try.ntmps28
  go_wp2
  go_quiet (fail)
  go_wp2
  go_ret
  exact ⟨by first | rfl | rw [e1.out], below_drewN ((Below.refl _ _).alloc (Nat.le_refl _) _) _⟩
theorem inChunk_any (c k a : Int) (h0 : 1 ≤ c) (h4 : 0 ≤ a) (w : World) :
    Calls Try.prog 29 #[.agg #[.int .i64 c, .int .i64 k, .int .i64 a]] w fun e w' => e = .returned (.int .i64 (a % c)) ∧ Below w.heap.size w w' := by
  go_enter Try.func29, Try.ntmps29
  go_wp2
  go_ret
  exact ⟨rfl, (Below.refl _ _).alloc (Nat.le_refl _) _⟩

/-- a point lies in block B, and nothing that lay in W has turned -/
abbrev St (W : World) (B : Nat) (c k a : Int) (w' : World) : Prop :=
  w'.cell? ⟨B, 0, none⟩ = some (.int .i64 c) ∧ w'.cell? ⟨B, 1, none⟩ = some (.int .i64 k) ∧ w'.cell? ⟨B, 2, none⟩ = some (.int .i64 a) ∧ B < w'.heap.size ∧ Below W.heap.size W w'

theorem St.kept {W : World} {B : Nat} {c k a : Int} {w' w'' : World} (h : St W B c k a w') (hb : Below w'.heap.size w' w'') : St W B c k a w'' := by
  obtain ⟨h0, h1, h2, hB, hW⟩ := h
  exact ⟨(hb.cell (p := ⟨B, 0, none⟩) hB).trans h0, (hb.cell (p := ⟨B, 1, none⟩) hB).trans h1, (hb.cell (p := ⟨B, 2, none⟩) hB).trans h2, Nat.lt_of_lt_of_le hB hb.size, bt hW hb⟩

theorem St.drew {W : World} {B : Nat} {c k a : Int} {w' : World} (h : St W B c k a w') : St W B c k a w'.drew := h.kept ((Below.refl _ _).drew)

theorem St.new (w : World) (c k a : Int) (t : TypeId) : St w w.heap.size c k a (w.alloc (Obj.cells #[Value.int IntKind.i64 c, Value.int IntKind.i64 k, Value.int IntKind.i64 a] t)) :=
  ⟨by simp [go_sem], by simp [go_sem], by simp [go_sem], by simp, (Below.refl _ _).alloc (Nat.le_refl _) _⟩

theorem parityOf_ex (c n r : Int) (h2 : 2 ≤ n) (h3 : n ≤ 5) (h4 : 0 ≤ r) (w : World) :
    Calls Try.prog 28 #[.agg #[.int .i64 c, .int .i64 (n + 1)], .int .i64 r] w fun e w' => ∃ p : Int, e = .returned (.int .i64 p) ∧ 0 ≤ p ∧ p ≤ n ∧ Hid (p = n - r % (n + 1)) ∧ Below w.heap.size w w' := by
  have q1 : 0 ≤ r % (n + 1) := Int.emod_nonneg _ (by omega)
  have q2 : r % (n + 1) < n + 1 := Int.emod_lt_of_pos _ (by omega)
  exact (parityOf_any c n r h2 h3 h4 w).mono fun e w' ⟨he, hb⟩ => ⟨_, he, by omega, by omega, rfl, hb⟩

theorem place_in (c n a : Int) (h0 : 1 ≤ c) (h1 : c ≤ 65536) (h2 : 2 ≤ n) (h3 : n ≤ 5) (h4 : 0 ≤ a) (h5 : a ≤ 1073741824) (w : World) :
    Calls Try.prog 21 #[.agg #[.int .i64 c, .int .i64 (n + 1), .int .i64 a]] w fun e w' => e = .returned (.tuple #[.int .i64 ((n - a/c/n % (n + 1) + 1 + a/c%n) % (n + 1)), .int .i64 (a/c/n*c + a%c), .int .i64 (n - a/c/n % (n + 1))]) ∧ Below w.heap.size w w' := by
  have q1 : 0 ≤ a / c := Int.ediv_nonneg h4 (by omega)
  have q2 : a / c ≤ a := Int.ediv_le_self _ h4
  have q3 : 0 ≤ a / c / n := Int.ediv_nonneg q1 (by omega)
  have q4 : a / c / n ≤ a / c := Int.ediv_le_self _ q1
  have q5 : 0 ≤ a / c % n := Int.emod_nonneg _ (by omega)
  have q6 : a / c % n < n := Int.emod_lt_of_pos _ (by omega)
  have q7 : 0 ≤ a / c / n * c := Int.mul_nonneg q3 (by omega)
  have q8 : a / c / n * c ≤ a / c * c := Int.mul_le_mul_of_nonneg_right q4 (by omega)
  have q9 : a / c * c ≤ a := Int.ediv_mul_le _ (by omega)
  have q10 : 0 ≤ a % c := Int.emod_nonneg _ (by omega)
  have q11 : a % c < c := Int.emod_lt_of_pos _ (by omega)
  go_enter Try.func21, Try.ntmps21
  go_wp2
  have S0 := St.new w c (n + 1) a 47
  have d0 : ¬ n = 0 := by omega
  have d2 : (a / c).tmod n = a / c % n := Int.tmod_eq_emod_of_nonneg q1
  have d1 : IntKind.i64.wrap ((a / c).tdiv n) = a / c / n := by rw [Int.tdiv_eq_ediv_of_nonneg q1]; exact IntWalk.i64_in _ (by omega)
  go_region_held3 (fun w' => w'.cell? ⟨w.heap.size, 0, none⟩ = some (.int .i64 c) ∧ w'.cell? ⟨w.heap.size, 1, none⟩ = some (.int .i64 (n + 1)) ∧ w'.cell? ⟨w.heap.size, 2, none⟩ = some (.int .i64 a) ∧ w.heap.size < w'.heap.size ∧ Below w.heap.size w w') (first | exact S0.drew | assumption)
    (first | (go_at_call 25; refine (data_any _ _ h2 h3 _).mono ?_; rintro e w' ⟨rfl, hb⟩; have hS' := St.kept (by assumption) hb; clear hb))
  clear d0 d1 d2 S0
  have hS2 := hS'
  clear hS'
  obtain ⟨g0, g1, g2, g3, g4⟩ := hid hS2
  go_wp2_with fail
  refine (parityOf_ex _ _ _ h2 h3 q3 _).mono ?_
  rintro e w3 ⟨p, rfl, p1, p2, HP, hb3⟩
  have S3 := hS2.kept hb3
  clear g0 g1 g2 g3 g4 hS2 hb3
  obtain ⟨g0, g1, g2, g3, g4⟩ := hid S3
  go_wp2_with fail
  have d0 : ¬ n + 1 = 0 := by omega
  have d1 : IntKind.i64.wrap (p + 1) = p + 1 := IntWalk.i64_in _ (by omega)
  have d2 : IntKind.i64.wrap (p + 1 + a / c % n) = p + 1 + a / c % n := IntWalk.i64_in _ (by omega)
  have d3 : (p + 1 + a / c % n).tmod (n + 1) = (p + 1 + a / c % n) % (n + 1) := Int.tmod_eq_emod_of_nonneg (by omega)
  have d4 : IntKind.i64.wrap (a / c / n * c) = a / c / n * c := IntWalk.i64_in _ (by omega)
  have d5 : IntKind.i64.wrap (a / c / n * c + a % c) = a / c / n * c + a % c := IntWalk.i64_in _ (by omega)
  go_region_held3 (fun w' => w'.cell? ⟨w.heap.size, 0, none⟩ = some (.int .i64 c) ∧ w'.cell? ⟨w.heap.size, 1, none⟩ = some (.int .i64 (n + 1)) ∧ w'.cell? ⟨w.heap.size, 2, none⟩ = some (.int .i64 a) ∧ w.heap.size < w'.heap.size ∧ Below w.heap.size w w') (first | exact S3.drew | assumption)
    (first | (go_at_call 29; refine (inChunk_any _ _ _ h0 h4 _).mono ?_; rintro e w' ⟨rfl, hb⟩; have hS' := St.kept (by assumption) hb; clear hb))
  clear d0 d1 d2 d3 d4 d5 S3 g0 g1 g2 g3 g4
  have hS4 := hS'
  clear hS'
  go_wp2_with fail
  go_ret3
  exact ⟨by rw [HP.out]; rfl, hS4.2.2.2.2⟩

/-- the place of a sector: leg, offset, leg with the parity -/
def plV (c n a : Int) : Int × Int × Int := ((n - a/c/n % (n + 1) + 1 + a/c%n) % (n + 1), a/c/n*c + a%c, n - a/c/n % (n + 1))

theorem place_ok (c n a : Int) (h0 : 1 ≤ c) (h1 : c ≤ 65536) (h2 : 2 ≤ n) (h3 : n ≤ 5) (h4 : 0 ≤ a) (h5 : a ≤ 1073741824) (w : World) :
    Calls Try.prog 8 #[.int .i64 c, .int .i64 (n + 1), .int .i64 a] w fun e w' => ∃ x y z : Int, e = .returned (.tuple #[.int .i64 x, .int .i64 y, .int .i64 z, .int .i64 0]) ∧ Hid (plV c n a = (x, y, z)) ∧ Below w.heap.size w w' := by
  have h6 : 3 ≤ n + 1 := by omega
  have h7 : n + 1 ≤ 6 := by omega
  have P0 := fun w => place_in c n a h0 h1 h2 h3 h4 h5 w
  generalize hx : (n - a/c/n % (n + 1) + 1 + a/c%n) % (n + 1) = x at P0
  generalize hy : a/c/n*c + a%c = y at P0
  generalize hz : n - a/c/n % (n + 1) = z at P0 hx
  have HF := hid (show plV c n a = (x, y, z) by rw [plV, hz, hy, hx])
  have HP := hid P0
  clear P0 hx hy hz
  refine Calls.mono (R := fun e w' => e = .returned (.tuple #[.int .i64 x, .int .i64 y, .int .i64 z, .int .i64 0]) ∧ Below w.heap.size w w') ?_ fun e w' ⟨he, hb⟩ => ⟨x, y, z, he, HF, hb⟩
  go_enter Try.func8, Try.ntmps8
  go_wp2_with (first | (go_at_call 19; refine (valid_yes _ _ h0 h1 h6 h7 _).mono ?_; rintro e w1 ⟨rfl, hb1⟩; obtain ⟨hc1, hf1⟩ := bcell hb1) | (go_at_call 20; refine (within_yes _ _ h4 h5 _).mono ?_; rintro e w2 ⟨rfl, rfl⟩) | (go_at_call 21; refine (HP.out _).mono ?_; rintro e w3 ⟨rfl, hb3⟩))
  refine bodyPost_ret (v := .tuple #[.int .i64 x, .int .i64 y, .int .i64 z, .int .i64 0]) (by simp [results, Try.results8, go_sem]) rfl ⟨rfl, ?_⟩
  exact bt (((Below.refl _ _).alloc (Nat.le_refl _) _).trans (hb1.mono (by simp))) hb3
end Go.Proofs.Ytahnmmichekamaa
