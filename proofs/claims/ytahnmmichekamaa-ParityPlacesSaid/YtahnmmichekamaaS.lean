/- Contracts of Size of layer 18 and of the reference, for all arguments: both return the same. No condition. -/
import Derived.Test.YtahnmmichekamaaB
import Derived.Test.YtahnmmichekamaaE
namespace Go.Proofs.Ytahnmmichekamaa
open Go.ChangeShapes Go.WideShapes Go.ChangeAt Go.RowKit
set_option linter.unusedVariables false

def mn (zs : List Int) : Nat → Int
  | 0 => zs.getD 0 0
  | k + 1 => min (mn zs k) (zs.getD (k + 1) 0)

theorem min_any (b off len cap : Nat) (zs : List Int) (w : World) (hl : 1 ≤ len) (hbig : len ≤ 9223372036854775807) (hc : ∀ j, j < len → w.cell? ⟨b, off + j, none⟩ = some (.int .i64 (zs.getD j 0))) :
    Calls Try.prog 24 #[.slice (some ⟨b, off, none⟩) len cap] w fun e w' => e = .returned (.int .i64 (mn zs (len - 1))) ∧ w = w' := by
  have hc0 : w.cell? ⟨b, off, none⟩ = some (.int .i64 (zs.getD 0 0)) := by simpa using hc 0 (by omega)
  go_enter Try.func24, Try.ntmps24
  go_wp2
  go_loop [3, 4] (fun m i => ∃ k : Nat, 1 ≤ k ∧ k ≤ len ∧ i = .int .i64 k ∧ m = .int .i64 (mn zs (k - 1))) (fun _ i => len - (intOf i).toNat)
  case atStart => exact ⟨1, by omega, by omega, rfl, rfl⟩
  case round =>
    obtain ⟨k, hk1, hk, rfl, rfl⟩ := hrel
    by_cases hlt : k < len
    · have hck := hc k hlt
      go_wp2
      go_round
      case rel => exact ⟨k + 1, by omega, by omega, by go_num, by rw [show k + 1 - 1 = (k - 1) + 1 from by omega, mn, show k - 1 + 1 = k from by omega]; simp only [List.getD_eq_getElem?_getD]; congr 1; omega⟩
      case measure => simp [intOf]; omega
    · obtain rfl : k = len := by omega
      go_wp2
      go_ret
      exact ⟨rfl, rfl⟩

theorem min_q (b off len cap : Nat) (zs : List Int) (w : World) (hl : 1 ≤ len) (hbig : len ≤ 9223372036854775807) (hc : ∀ j, j < len → w.cell? ⟨b, off + j, none⟩ = some (.int .i64 (zs.getD j 0))) :
    Calls Try.prog 24 #[.slice (some ⟨b, off, none⟩) len cap] w fun e w' => e = .returned (.int .i64 (mn zs (len - 1))) ∧ w' = w :=
  (min_any b off len cap zs w hl hbig hc).mono fun _ _ ⟨he, hw⟩ => ⟨he, hw.symm⟩

theorem mn_bd (zs : List Int) (k : Nat) (h : ∀ j, j ≤ k → 0 ≤ zs.getD j 0 ∧ zs.getD j 0 ≤ 1073741824) : 0 ≤ mn zs k ∧ mn zs k ≤ 1073741824 := by
  induction k with
  | zero => exact h 0 (by omega)
  | succ k ih =>
    have := ih (fun j hj => h j (by omega))
    have := h (k + 1) (by omega)
    unfold mn
    omega

theorem sz1 (c m n : Int) (h0 : 1 ≤ c) (h4 : 0 ≤ m) (h5 : m ≤ 1073741824) (h6 : 0 ≤ n) (h7 : n ≤ 6) : 0 ≤ m/c ∧ m/c ≤ 1073741824 ∧ 0 ≤ m/c*c ∧ m/c*c ≤ 1073741824 ∧ 0 ≤ m/c*c*n ∧ m/c*c*n ≤ 6442450944 := by
  have e1 : 0 ≤ m / c := Int.ediv_nonneg h4 (by omega)
  have e2 : m / c ≤ m := Int.ediv_le_self _ h4
  have e3 : m / c * c ≤ m := Int.ediv_mul_le _ (by omega)
  have e4 : 0 ≤ m/c*c := Int.mul_nonneg e1 (by omega)
  have e5 : m/c*c*n ≤ 1073741824 * 6 := Int.mul_le_mul (by omega) h7 h6 (by omega)
  exact ⟨e1, by omega, e4, by omega, Int.mul_nonneg e4 h6, by omega⟩

theorem data_len (c : Int) (len : Nat) (hl : 3 ≤ len) (hl6 : len ≤ 6) (w : World) :
    Calls Try.prog 25 #[.agg #[.int .i64 c, .int .i64 (len : Int)]] w fun e w' => e = .returned (.int .i64 ((len : Int) - 1)) ∧ Below w.heap.size w w' := by
  have h := data_any c ((len : Int) - 1) (by omega) (by omega) w
  rwa [show (len : Int) - 1 + 1 = (len : Int) by omega] at h

/-- a layout lies in block B, and nothing that lay in W has turned -/
abbrev St2 (W : World) (B : Nat) (c k : Int) (w' : World) : Prop :=
  w'.cell? ⟨B, 0, none⟩ = some (.int .i64 c) ∧ w'.cell? ⟨B, 1, none⟩ = some (.int .i64 k) ∧ B < w'.heap.size ∧ Below W.heap.size W w'
theorem St2.kept {W : World} {B : Nat} {c k : Int} {w' w'' : World} (h : St2 W B c k w') (hb : Below w'.heap.size w' w'') : St2 W B c k w'' := by
  obtain ⟨h0, h1, hB, hW⟩ := h
  exact ⟨(hb.cell (p := ⟨B, 0, none⟩) hB).trans h0, (hb.cell (p := ⟨B, 1, none⟩) hB).trans h1, Nat.lt_of_lt_of_le hB hb.size, bt hW hb⟩
theorem St2.drew {W : World} {B : Nat} {c k : Int} {w' : World} (h : St2 W B c k w') : St2 W B c k w'.drew := h.kept ((Below.refl _ _).drew)
theorem St2.new (w : World) (c k : Int) (t : TypeId) : St2 w w.heap.size c k (w.alloc (Obj.cells #[Value.int IntKind.i64 c, Value.int IntKind.i64 k] t)) :=
  ⟨by simp [go_sem], by simp [go_sem], by simp, (Below.refl _ _).alloc (Nat.le_refl _) _⟩
/-- the numbers of 'sizes' lie in W -/
def Szs (W : World) (b off len : Nat) (zs : List Int) : Prop := b < W.heap.size ∧ ∀ j, j < len → W.cell? ⟨b, off + j, none⟩ = some (.int .i64 (zs.getD j 0))
theorem Szs.there {W : World} {b off len : Nat} {zs : List Int} (h : Szs W b off len zs) {B : Nat} {c k : Int} {w' : World} (hs : St2 W B c k w') : ∀ j, j < len → w'.cell? ⟨b, off + j, none⟩ = some (.int .i64 (zs.getD j 0)) :=
  fun j hj => (hs.2.2.2.cell (p := ⟨b, off + j, none⟩) h.1).trans (h.2 j hj)

theorem size_ok (c : Int) (b off len cap : Nat) (zs : List Int) (w : World) (h0 : 1 ≤ c) (h1 : c ≤ 65536) (hl : 3 ≤ len) (hl6 : len ≤ 6) (hb : b < w.heap.size) (hc : ∀ j, j < len → w.cell? ⟨b, off + j, none⟩ = some (.int .i64 (zs.getD j 0)))
    (hz : ∀ j, j < len → 0 ≤ zs.getD j 0 ∧ zs.getD j 0 ≤ 1073741824) :
    Calls Try.prog 12 #[.int .i64 c, .slice (some ⟨b, off, none⟩) len cap] w fun e w' => e = .returned (.tuple #[.int .i64 (mn zs (len - 1) / c * c * ((len : Int) - 1)), .int .i64 0]) ∧ Below w.heap.size w w' := by
  obtain ⟨g1, g2⟩ := mn_bd zs (len - 1) (fun j hj => hz j (by omega))
  obtain ⟨f1, f2, f3, f4, f5, f6⟩ := sz1 c (mn zs (len - 1)) ((len : Int) - 1) h0 g1 g2 (by omega) (by omega)
  have hl1 : (3 : Int) ≤ len := by omega
  have hl7 : (len : Int) ≤ 6 := by omega
  go_enter Try.func12, Try.ntmps12
  go_wp2_with (first | (go_at_call 19; refine (valid_yes _ _ h0 h1 hl1 hl7 _).mono ?_; rintro e w1 ⟨rfl, hb1⟩; obtain ⟨hc1, hf1⟩ := bcell hb1))
  go_loop [18] (fun i => ∃ k : Nat, k ≤ len ∧ i = .int .i64 k) (fun i => len - (intOf i).toNat)
  case atStart => exact ⟨0, by omega, rfl⟩
  case round =>
    obtain ⟨k, hk, rfl⟩ := hrel
    have hs1 := hb1.size
    simp at hs1
    by_cases hlt : k < len
    · have hck := hc k hlt
      have hck1 : w1.cell? ⟨b, off + k, none⟩ = some (.int .i64 (zs.getD k 0)) := by rw [hc1 b _ (by simp; omega), ← hck]; exact World.cell?_alloc_old _ _ _ (by simp; omega)
      obtain ⟨z1, z2⟩ := hz k hlt
      go_wp2_with (first | (go_at_call 20; refine (within_yes _ _ (by simpa using z1) (by simpa using z2) _).mono ?_; rintro e w2 ⟨rfl, rfl⟩))
      go_round
      case rel => exact ⟨k + 1, by omega, by go_num⟩
      case measure => simp [intOf]; omega
    · obtain rfl : k = len := by omega
      have hn : ¬ ((k : Int) < (k : Int)) := by omega
      have HZ := hid (show Szs w b off k zs from ⟨hb, hc⟩)
      have S0 := hid ((St2.new w c k 45).kept hb1)
      have hk6 : k ≤ 9223372036854775807 := by omega
      have hl' : 1 ≤ k := by omega
      clear hc hz hb1 hc1 hf1 hs1
      go_wp2_with fail
      generalize hM : mn zs (k - 1) = M at *
      have HM := hid (fun w' (h : St2 w w.heap.size c (k : Int) w') => min_any b off k cap zs w' hl' hk6 (HZ.out.there h))
      rw [hM] at HM
      have d1 : IntKind.i64.wrap (M.tdiv c) = M / c := by rw [Int.tdiv_eq_ediv_of_nonneg g1]; exact IntWalk.i64_in _ (by omega)
      have d2 : IntKind.i64.wrap (M / c * c) = M / c * c := IntWalk.i64_in _ (by omega)
      have d3 : IntKind.i64.wrap (M / c * c * ((k : Int) - 1)) = M / c * c * ((k : Int) - 1) := IntWalk.i64_in _ (by omega)
      have d0 : ¬ c = 0 := by omega
      go_region_held3 (fun w' => w'.cell? ⟨w.heap.size, 0, none⟩ = some (.int .i64 c) ∧ w'.cell? ⟨w.heap.size, 1, none⟩ = some (.int .i64 (k : Int)) ∧ w.heap.size < w'.heap.size ∧ Below w.heap.size w w') (first | exact S0.out.drew | assumption)
        (first | (go_at_call 24; refine (HM.out _ (by first | exact S0.out.drew | assumption)).mono ?_; rintro e w' ⟨rfl, rfl⟩) | (go_at_call 25; refine (data_len _ _ hl hl6 _).mono ?_; rintro e w' ⟨rfl, hb⟩; have hS' := St2.kept (by first | exact S0.out.drew | assumption) hb; clear hb))
      clear d0 d1 d2 d3
      have hS4 := hS'
      clear hS'
      go_wp2_with fail
      go_ret2
      exact ⟨by subst hM; rfl, hS4.2.2.2⟩
theorem size_no1 (c : Int) (a : Option Addr) (len cap : Nat) (h : c < 1 ∨ 65536 < c ∨ (len : Int) < 3 ∨ 6 < (len : Int)) (w : World) :
    Calls Try.prog 12 #[.int .i64 c, .slice a len cap] w fun e w' => e = .returned (.tuple #[.int .i64 0, .int .i64 1]) ∧ Below w.heap.size w w' := by
  have H := hid h
  clear h
  go_enter Try.func12, Try.ntmps12
  go_wp2_with (first | (go_at_call 19; refine (valid_no _ _ H.out _).mono ?_; rintro e w1 ⟨rfl, hb1⟩; obtain ⟨hc1, hf1⟩ := bcell hb1))
  go_ret2
  exact ⟨rfl, ((Below.refl _ _).alloc (Nat.le_refl _) _).trans (hb1.mono (by simp))⟩

theorem size_no2 (c : Int) (b off len cap : Nat) (zs : List Int) (k0 : Nat) (w : World) (h0 : 1 ≤ c) (h1 : c ≤ 65536) (hl : 3 ≤ len) (hl6 : len ≤ 6) (hb : b < w.heap.size) (hc : ∀ j, j < len → w.cell? ⟨b, off + j, none⟩ = some (.int .i64 (zs.getD j 0)))
    (hk0 : k0 < len) (hz : ∀ j, j < k0 → 0 ≤ zs.getD j 0 ∧ zs.getD j 0 ≤ 1073741824) (hbad : zs.getD k0 0 < 0 ∨ 1073741824 < zs.getD k0 0) :
    Calls Try.prog 12 #[.int .i64 c, .slice (some ⟨b, off, none⟩) len cap] w fun e w' => e = .returned (.tuple #[.int .i64 0, .int .i64 1]) ∧ Below w.heap.size w w' := by
  have hl1 : (3 : Int) ≤ len := by omega
  have hl7 : (len : Int) ≤ 6 := by omega
  have HB := hid hbad
  clear hbad
  go_enter Try.func12, Try.ntmps12
  go_wp2_with (first | (go_at_call 19; refine (valid_yes _ _ h0 h1 hl1 hl7 _).mono ?_; rintro e w1 ⟨rfl, hb1⟩; obtain ⟨hc1, hf1⟩ := bcell hb1))
  go_loop [18] (fun i => ∃ k : Nat, k ≤ k0 ∧ i = .int .i64 k) (fun i => len - (intOf i).toNat)
  case atStart => exact ⟨0, by omega, rfl⟩
  case round =>
    obtain ⟨k, hk, rfl⟩ := hrel
    have hs1 := hb1.size
    simp at hs1
    have hlt : k < len := by omega
    have hck := hc k hlt
    have hck1 : w1.cell? ⟨b, off + k, none⟩ = some (.int .i64 (zs.getD k 0)) := by rw [hc1 b _ (by simp; omega), ← hck]; exact World.cell?_alloc_old _ _ _ (by simp; omega)
    by_cases hk1 : k < k0
    · obtain ⟨z1, z2⟩ := hz k hk1
      go_wp2_with (first | (go_at_call 20; refine (within_yes _ _ (by simpa using z1) (by simpa using z2) _).mono ?_; rintro e w2 ⟨rfl, rfl⟩))
      go_round
      case rel => exact ⟨k + 1, by omega, by go_num⟩
      case measure => simp [intOf]; omega
    · obtain rfl : k = k0 := by omega
      go_wp2_with (first | (go_at_call 20; refine (within_no _ _ (by simpa using HB.out) _).mono ?_; rintro e w2 ⟨rfl, rfl⟩))
      go_ret2
      exact ⟨rfl, ((Below.refl _ _).alloc (Nat.le_refl _) _).trans (hb1.mono (by simp))⟩

theorem rsize_no1 (c : Int) (a : Option Addr) (len cap : Nat) (h : c < 1 ∨ 65536 < c ∨ (len : Int) < 3 ∨ 6 < (len : Int)) (w : World) :
    Calls Try.prog 13 #[.int .i64 c, .slice a len cap] w fun e w' => e = .returned (.tuple #[.int .i64 0, .int .i64 1]) ∧ Below w.heap.size w w' := by
  have H := hid h
  clear h
  go_enter Try.func13, Try.ntmps13
  go_wp2_with (first | (go_at_call 22; refine (fits_no _ _ H.out _).mono ?_; rintro e w1 ⟨rfl, rfl⟩))
  go_ret2
  exact ⟨rfl, Below.refl _ _⟩

/-- the least of 2^30 and the first k numbers -/
def lst (zs : List Int) : Nat → Int
  | 0 => 1073741824
  | k + 1 => min (lst zs k) (zs.getD k 0)

theorem lst_mn (zs : List Int) (k : Nat) (h : ∀ j, j ≤ k → 0 ≤ zs.getD j 0 ∧ zs.getD j 0 ≤ 1073741824) : lst zs (k + 1) = mn zs k := by
  induction k with
  | zero => have := h 0 (by omega); unfold lst mn; unfold lst; omega
  | succ k ih =>
    have := ih (fun j hj => h j (by omega))
    rw [lst, this, mn]

theorem rsize_no2 (c : Int) (b off len cap : Nat) (zs : List Int) (k0 : Nat) (w : World) (h0 : 1 ≤ c) (h1 : c ≤ 65536) (hl : 3 ≤ len) (hl6 : len ≤ 6) (hc : ∀ j, j < len → w.cell? ⟨b, off + j, none⟩ = some (.int .i64 (zs.getD j 0)))
    (hk0 : k0 < len) (hz : ∀ j, j < k0 → 0 ≤ zs.getD j 0 ∧ zs.getD j 0 ≤ 1073741824) (hbad : zs.getD k0 0 < 0 ∨ 1073741824 < zs.getD k0 0) :
    Calls Try.prog 13 #[.int .i64 c, .slice (some ⟨b, off, none⟩) len cap] w fun e w' => e = .returned (.tuple #[.int .i64 0, .int .i64 1]) ∧ Below w.heap.size w w' := by
  have hl1 : (3 : Int) ≤ len := by omega
  have hl7 : (len : Int) ≤ 6 := by omega
  have HB := hid hbad
  clear hbad
  go_enter Try.func13, Try.ntmps13
  go_wp2_with (first | (go_at_call 22; refine (fits_yes _ _ h0 h1 hl1 hl7 _).mono ?_; rintro e w1 ⟨rfl, rfl⟩))
  go_loop [6, 7] (fun m i => ∃ k : Nat, k ≤ k0 ∧ i = .int .i64 k ∧ m = .int .i64 (lst zs k)) (fun _ i => len - (intOf i).toNat)
  case atStart => exact ⟨0, by omega, rfl, rfl⟩
  case round =>
    obtain ⟨k, hk, rfl, rfl⟩ := hrel
    have hlt : k < len := by omega
    have hck := hc k hlt
    by_cases hk1 : k < k0
    · obtain ⟨z1, z2⟩ := hz k hk1
      have hn : lst zs (k + 1) = min (lst zs k) (zs.getD k 0) := rfl
      have HN := hid hn
      clear hn
      simp only [List.getD_eq_getElem?_getD] at z1 z2
      go_wp2
      go_round
      case rel => exact ⟨k + 1, by omega, by go_num, by rw [HN.out]; simp only [List.getD_eq_getElem?_getD]; congr 1; omega⟩
      case measure => simp [intOf]; omega
    · obtain rfl : k = k0 := by omega
      have HB' := HB.out
      simp only [List.getD_eq_getElem?_getD] at HB'
      by_cases hneg : zs[k]?.getD 0 < 0
      · clear HB'
        go_wp2
        go_ret2
        exact ⟨rfl, Below.refl _ _⟩
      · have hpos : 1073741824 < zs[k]?.getD 0 := by omega
        clear HB'
        go_wp2
        go_ret2
        exact ⟨rfl, Below.refl _ _⟩

theorem rsize_ok (c : Int) (b off len cap : Nat) (zs : List Int) (w : World) (h0 : 1 ≤ c) (h1 : c ≤ 65536) (hl : 3 ≤ len) (hl6 : len ≤ 6) (hc : ∀ j, j < len → w.cell? ⟨b, off + j, none⟩ = some (.int .i64 (zs.getD j 0)))
    (hz : ∀ j, j < len → 0 ≤ zs.getD j 0 ∧ zs.getD j 0 ≤ 1073741824) :
    Calls Try.prog 13 #[.int .i64 c, .slice (some ⟨b, off, none⟩) len cap] w fun e w' => e = .returned (.tuple #[.int .i64 (mn zs (len - 1) / c * c * ((len : Int) - 1)), .int .i64 0]) ∧ Below w.heap.size w w' := by
  obtain ⟨g1, g2⟩ := mn_bd zs (len - 1) (fun j hj => hz j (by omega))
  obtain ⟨f1, f2, f3, f4, f5, f6⟩ := sz1 c (mn zs (len - 1)) ((len : Int) - 1) h0 g1 g2 (by omega) (by omega)
  have hlm : Hid (lst zs len = mn zs (len - 1)) := by
    have := lst_mn zs (len - 1) (fun j hj => hz j (by omega))
    rwa [show len - 1 + 1 = len from by omega] at this
  have hl1 : (3 : Int) ≤ len := by omega
  have hl7 : (len : Int) ≤ 6 := by omega
  rw [Int.mul_comm (mn zs (len - 1) / c * c)] at f5 f6 ⊢
  go_enter Try.func13, Try.ntmps13
  go_wp2_with (first | (go_at_call 22; refine (fits_yes _ _ h0 h1 hl1 hl7 _).mono ?_; rintro e w1 ⟨rfl, rfl⟩))
  go_loop [6, 7] (fun m i => ∃ k : Nat, k ≤ len ∧ i = .int .i64 k ∧ m = .int .i64 (lst zs k)) (fun _ i => len - (intOf i).toNat)
  case atStart => exact ⟨0, by omega, rfl, rfl⟩
  case round =>
    obtain ⟨k, hk, rfl, rfl⟩ := hrel
    by_cases hk1 : k < len
    · obtain ⟨z1, z2⟩ := hz k hk1
      have hck := hc k hk1
      have hn : lst zs (k + 1) = min (lst zs k) (zs.getD k 0) := rfl
      have HN := hid hn
      clear hn
      simp only [List.getD_eq_getElem?_getD] at z1 z2
      go_wp2
      go_round
      case rel => exact ⟨k + 1, by omega, by go_num, by rw [HN.out]; simp only [List.getD_eq_getElem?_getD]; congr 1; omega⟩
      case measure => simp [intOf]; omega
    · obtain rfl : k = len := by omega
      rw [hlm.out]
      have hn : ¬ ((k : Int) < (k : Int)) := by omega
      go_wp2
      go_ret2
      exact ⟨rfl, Below.refl _ _⟩

/-- what is known of the slice 'sizes' -/
def SzRow (w : World) (a : Option Addr) (len : Nat) (zs : List Int) : Prop :=
  len = 0 ∨ ∃ b off, a = some ⟨b, off, none⟩ ∧ b < w.heap.size ∧ ∀ j, j < len → w.cell? ⟨b, off + j, none⟩ = some (.int .i64 (zs.getD j 0))

open Classical in
noncomputable def szR (c : Int) (len : Nat) (zs : List Int) : Int × Int :=
  if 1 ≤ c ∧ c ≤ 65536 ∧ 3 ≤ len ∧ len ≤ 6 ∧ ∀ j, j < len → 0 ≤ zs.getD j 0 ∧ zs.getD j 0 ≤ 1073741824 then (mn zs (len - 1) / c * c * ((len : Int) - 1), 0) else (0, 1)

theorem first_bad (zs : List Int) (len : Nat) (h : ¬ ∀ j, j < len → 0 ≤ zs.getD j 0 ∧ zs.getD j 0 ≤ 1073741824) :
    ∃ k0, k0 < len ∧ (∀ j, j < k0 → 0 ≤ zs.getD j 0 ∧ zs.getD j 0 ≤ 1073741824) ∧ (zs.getD k0 0 < 0 ∨ 1073741824 < zs.getD k0 0) := by
  induction len with
  | zero => exact absurd (fun j hj => by omega) h
  | succ n ih =>
    by_cases hn : ∀ j, j < n → 0 ≤ zs.getD j 0 ∧ zs.getD j 0 ≤ 1073741824
    · refine ⟨n, by omega, hn, ?_⟩
      by_cases hb : 0 ≤ zs.getD n 0 ∧ zs.getD n 0 ≤ 1073741824
      · exact absurd (fun j hj => by
          by_cases e : j = n
          · rw [e]; exact hb
          · exact hn j (by omega)) h
      · omega
    · obtain ⟨k0, h1, h2, h3⟩ := ih hn
      exact ⟨k0, by omega, h2, h3⟩

theorem size_any (c : Int) (a : Option Addr) (len cap : Nat) (zs : List Int) (w : World) (hr : SzRow w a len zs) :
    Calls Try.prog 12 #[.int .i64 c, .slice a len cap] w fun e w' => ∃ i r : Int, e = .returned (.tuple #[.int .i64 i, .int .i64 r]) ∧ Hid (szR c len zs = (i, r)) ∧ Below w.heap.size w w' := by
  by_cases h' : c < 1 ∨ 65536 < c ∨ (len : Int) < 3 ∨ 6 < (len : Int)
  · exact (size_no1 c a len cap h' w).mono fun e w' ⟨he, hb⟩ => ⟨_, _, he, if_neg (fun h => by omega), hb⟩
  · rcases hr with hr | ⟨b, off, rfl, hb, hc⟩
    · omega
    · by_cases hz : ∀ j, j < len → 0 ≤ zs.getD j 0 ∧ zs.getD j 0 ≤ 1073741824
      · exact (size_ok c b off len cap zs w (by omega) (by omega) (by omega) (by omega) hb hc hz).mono fun e w' ⟨he, hb⟩ => ⟨_, _, he, if_pos ⟨by omega, by omega, by omega, by omega, hz⟩, hb⟩
      · obtain ⟨k0, h1, h2, h3⟩ := first_bad zs len hz
        exact (size_no2 c b off len cap zs k0 w (by omega) (by omega) (by omega) (by omega) hb hc h1 h2 h3).mono fun e w' ⟨he, hb⟩ => ⟨_, _, he, if_neg (fun h => hz h.2.2.2.2), hb⟩

theorem rsize_same (c : Int) (a : Option Addr) (len cap : Nat) (zs : List Int) (i r : Int) (H : Hid (szR c len zs = (i, r))) (w : World) (hr : SzRow w a len zs) :
    Calls Try.prog 13 #[.int .i64 c, .slice a len cap] w fun e w' => e = .returned (.tuple #[.int .i64 i, .int .i64 r]) ∧ Below w.heap.size w w' := by
  have H' := H.out
  by_cases h' : c < 1 ∨ 65536 < c ∨ (len : Int) < 3 ∨ 6 < (len : Int)
  · rw [szR, if_neg (fun h => by omega)] at H'
    cases H'
    exact rsize_no1 c a len cap h' w
  · rcases hr with hr | ⟨b, off, rfl, hb, hc⟩
    · omega
    · by_cases hz : ∀ j, j < len → 0 ≤ zs.getD j 0 ∧ zs.getD j 0 ≤ 1073741824
      · rw [szR, if_pos ⟨by omega, by omega, by omega, by omega, hz⟩] at H'
        cases H'
        exact rsize_ok c b off len cap zs w (by omega) (by omega) (by omega) (by omega) hc hz
      · rw [szR, if_neg (fun h => hz h.2.2.2.2)] at H'
        cases H'
        obtain ⟨k0, h1, h2, h3⟩ := first_bad zs len hz
        exact rsize_no2 c b off len cap zs k0 w (by omega) (by omega) (by omega) (by omega) hc h1 h2 h3
end Go.Proofs.Ytahnmmichekamaa
