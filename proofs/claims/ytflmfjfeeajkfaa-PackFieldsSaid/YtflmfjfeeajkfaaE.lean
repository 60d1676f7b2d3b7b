/- Fields and Split of the reference of layer 2, and the errors of both. No conditions but those of each theorem. -/
import Derived.Test.YtflmfjfeeajkfaaSP
namespace Go.Proofs.Ytflmfjfeeajkfaa
open Go.ChangeShapes Go.WideShapes Go.ChangeAt Go.RowKit Go.Shelf
set_option linter.unusedVariables false
set_option linter.unusedSimpArgs false
attribute [local go_sem] Oper.semAt_some

set_option maxRecDepth 100000 in
theorem fields_size (a b : Option Addr) (len len2 cap cap2 : Nat) (h : len ≠ len2) (w : World) :
    Calls Try.prog 22 #[.slice a len cap, .slice b len2 cap2] w fun e w' => e = .returned (.tuple #[.int .u64 0, .int .i64 3]) ∧ Below w.heap.size w w' := by
  have h2 : (len : Int) ≠ (len2 : Int) := by omega
  have hb : ((len : Int) == (len2 : Int)) = false := beq_eq_false_iff_ne.2 h2
  refine (callsIn_wide (n := 5)).1 (callsIn_of_wp_marks Try.func22 rfl trivial ?_ rfl)
  simp only [Try.ntmps22, List.size_toArray, List.length_cons, List.length_nil, Nat.reduceAdd, Nat.reduceSub, Array.replicate_succ, Array.replicate_zero, List.push_toArray, List.append_toArray, List.nil_append, List.cons_append]
  refine wpIn_wide.2 ?_
  go_wp2_with fail
  have b2 := (Boxed.new (w.alloc (.cells #[.slice b len2 cap2] 23)) 32 (.int .u64 0)).alloc (.cells #[.int .i64 3] 24)
  have b3 := Boxed.new ((w.alloc (.cells #[.slice b len2 cap2] 23)).alloc (.cells #[.int .u64 0] 32)) 24 (.int .i64 3)
  have hB0 := (((Below.refl _ w).alloc (Nat.le_refl _) (.cells #[.slice b len2 cap2] 23)).alloc (by simp) (.cells #[.int .u64 0] 32)).alloc (by simp; omega) (.cells #[.int .i64 3] 24)
  simp only [World.size_alloc] at b2 b3
  have c2 := b2.cell
  have c3 := b3.cell
  refine ⟨.tuple #[.int .u64 0, .int .i64 3], ?_, rfl, hB0⟩
  simp [results, Try.f22, go_sem, c2, c3]

set_option maxRecDepth 100000 in
theorem fields_bad (a b : Option Addr) (len cap cap2 : Nat) (zs : List Int) (hbig : len ≤ 9223372036854775807) (h : ¬ ∀ j, j < len → fit zs j) (w : World) (hI : Wi w.heap.size w a len zs) :
    Calls Try.prog 22 #[.slice a len cap, .slice b len cap2] w fun e w' => e = .returned (.tuple #[.int .u64 0, .int .i64 1]) ∧ Below w.heap.size w w' := by
  obtain ⟨k0, hk0, h1, h2⟩ := first_not _ _ h
  have HI := hid hI
  have H1 := hid h1
  have H2 := hid h2
  clear hI h h1 h2
  refine (callsIn_wide (n := 5)).1 (callsIn_of_wp_marks Try.func22 rfl trivial ?_ rfl)
  simp only [Try.ntmps22, List.size_toArray, List.length_cons, List.length_nil, Nat.reduceAdd, Nat.reduceSub, Array.replicate_succ, Array.replicate_zero, List.push_toArray, List.append_toArray, List.nil_append, List.cons_append]
  refine wpIn_wide.2 ?_
  go_wp2_with fail
  obtain ⟨wC, hwC⟩ : ∃ wC, wC = ((w.alloc (Obj.cells #[Value.slice b len cap2] 23)).alloc (Obj.cells #[Value.int IntKind.u64 0] 32)).alloc (Obj.cells #[Value.int IntKind.i64 0] 24) := ⟨_, rfl⟩
  rw [← hwC]
  have b2 := (Boxed.new (w.alloc (.cells #[.slice b len cap2] 23)) 32 (.int .u64 0)).alloc (.cells #[.int .i64 0] 24)
  have b3 := Boxed.new ((w.alloc (.cells #[.slice b len cap2] 23)).alloc (.cells #[.int .u64 0] 32)) 24 (.int .i64 0)
  simp only [World.size_alloc] at b2 b3
  have hB0 : Below w.heap.size w wC := by rw [hwC]; exact (((Below.refl _ w).alloc (Nat.le_refl _) _).alloc (by simp) _).alloc (by simp; omega) _
  rw [← hwC] at b2 b3
  have B2 := hid b2; have B3 := hid b3; have HB0 := hid hB0
  clear hwC b2 b3 hB0
  refine (chk_no a len cap zs w.heap.size wC hbig (HI.out.below HB0.out) k0 hk0 H1.out H2.out).mono ?_
  rintro e w1 ⟨rfl, rfl⟩
  have f2 := B2.out.frozen
  have f3 := B3.out.frozen
  have c2 := B2.out.cell
  have c3 := B3.out.cell
  go_wp2_with fail
  clear f2 f3 c2 c3
  have d2 := (B2.out.set (.int .u64 0)).other (B' := w.heap.size + 1 + 1) (by omega) (.int .i64 1)
  have d3 := (B3.out.other (B' := w.heap.size + 1) (by omega) (.int .u64 0)).set (.int .i64 1)
  have hB9 := (HB0.out.setCell (p := ⟨w.heap.size + 1, 0, none⟩) (by simp) (.int .u64 0)).setCell (p := ⟨w.heap.size + 1 + 1, 0, none⟩) (by simp; omega) (.int .i64 1)
  have c2 := d2.cell
  have c3 := d3.cell
  refine ⟨.tuple #[.int .u64 0, .int .i64 1], ?_, rfl, hB9⟩
  simp [results, Try.f22, go_sem, c2, c3]

set_option maxRecDepth 100000 in
theorem split_bad (x : Int) (a : Option Addr) (len cap : Nat) (zs : List Int) (hbig : len ≤ 9223372036854775807) (h : ¬ ∀ j, j < len → fit zs j) (w : World) (hI : Wi w.heap.size w a len zs) :
    Calls Try.prog 24 #[.int .u64 x, .slice a len cap] w fun e w' => e = .returned (.tuple #[.slice none 0 0, .int .i64 1]) ∧ Below w.heap.size w w' := by
  obtain ⟨k0, hk0, h1, h2⟩ := first_not _ _ h
  have HI := hid hI
  have H1 := hid h1
  have H2 := hid h2
  clear hI h h1 h2
  refine (callsIn_wide (n := 5)).1 (callsIn_of_wp_marks Try.func24 rfl trivial ?_ rfl)
  simp only [Try.ntmps24, List.size_toArray, List.length_cons, List.length_nil, Nat.reduceAdd, Nat.reduceSub, Array.replicate_succ, Array.replicate_zero, List.push_toArray, List.append_toArray, List.nil_append, List.cons_append]
  refine wpIn_wide.2 ?_
  go_wp2_with fail
  have hB0 := hid ((Below.refl w.heap.size w).alloc (Nat.le_refl _) (.cells #[.int .u64 x] 32))
  generalize w.alloc (.cells #[.int .u64 x] 32) = wC at *
  refine (chk_no a len cap zs w.heap.size wC hbig (HI.out.below hB0.out) k0 hk0 H1.out H2.out).mono ?_
  rintro e w1 ⟨rfl, rfl⟩
  go_wp2_with fail
  refine ⟨.tuple #[.slice none 0 0, .int .i64 1], ?_, rfl, hB0.out⟩
  simp [results, Try.f24, go_sem]

theorem widths_ok (a : Option Addr) (len cap : Nat) (zs : List Int) (n₀ : Nat) (w : World) (hbig : len ≤ 9223372036854775807) (hI : Wi n₀ w a len zs) (hz : ∀ j, j < len → fit zs j) :
    Calls Try.prog 33 #[.slice a len cap] w fun e w' => e = .returned (.bool true) ∧ w = w' := by
  have HI := hid hI
  have HZ := hid hz
  clear hI hz
  go_enter Try.func33, Try.ntmps33
  go_wp2
  go_loop [3, 4] (fun sv iv => ∃ k : Nat, k ≤ len ∧ iv = .int .i64 (k : Int) ∧ sv = .int .i64 (sw zs k)) (fun _ iv => len - (intOf iv).toNat)
  case atStart => exact ⟨0, by omega, rfl, rfl⟩
  case round =>
    obtain ⟨k, hk, rfl, rfl⟩ := hrel
    by_cases hlt : k < len
    · obtain ⟨b, off, rfl, _, hall⟩ := HI.out.resolve_left (by omega)
      have hck := hall k hlt
      clear hall
      have hf := HZ.out k hlt
      obtain ⟨h1, h2⟩ := sw_bd zs k (fun j hj => HZ.out j (by omega))
      unfold fit at hf
      have HS := hid (show sw zs (k + 1) = sw zs k + zs[k]?.getD 0 from rfl)
      generalize zs[k]?.getD 0 = z at *
      generalize sw zs k = s at *
      obtain ⟨f1, f2⟩ := hf
      have h3 : (k : Int) < (len : Int) := by omega
      have f3 : ¬ z < 1 := by omega
      have f4 : ¬ 64 < z := by omega
      have f5 : ¬ 64 < s + z := by omega
      go_wp2_with fail
      go_round
      case rel => exact ⟨k + 1, by omega, by go_num, by rw [HS.out]⟩
      case measure => simp [intOf]; omega
    · obtain rfl : k = len := by omega
      have h3 : ¬ (k : Int) < (k : Int) := by omega
      go_wp2
      go_ret
      exact ⟨rfl, rfl⟩

theorem widths_no (a : Option Addr) (len cap : Nat) (zs : List Int) (n₀ : Nat) (w : World) (hbig : len ≤ 9223372036854775807) (hI : Wi n₀ w a len zs) (k0 : Nat) (hk0 : k0 < len) (hz : ∀ j, j < k0 → fit zs j) (hn : ¬ fit zs k0) :
    Calls Try.prog 33 #[.slice a len cap] w fun e w' => e = .returned (.bool false) ∧ w = w' := by
  have HI := hid hI
  have HZ := hid hz
  have HN := hid hn
  clear hI hz hn
  go_enter Try.func33, Try.ntmps33
  go_wp2
  go_loop [3, 4] (fun sv iv => ∃ k : Nat, k ≤ k0 ∧ iv = .int .i64 (k : Int) ∧ sv = .int .i64 (sw zs k)) (fun _ iv => len - (intOf iv).toNat)
  case atStart => exact ⟨0, by omega, rfl, rfl⟩
  case round =>
    obtain ⟨k, hk, rfl, rfl⟩ := hrel
    obtain ⟨b, off, rfl, _, hall⟩ := HI.out.resolve_left (by omega)
    have hck := hall k (by omega)
    clear hall
    obtain ⟨h1, h2⟩ := sw_bd zs k (fun j hj => HZ.out j (by omega))
    have h3 : (k : Int) < (len : Int) := by omega
    by_cases hlt : k < k0
    · have hf := HZ.out k hlt
      unfold fit at hf
      have HS := hid (show sw zs (k + 1) = sw zs k + zs[k]?.getD 0 from rfl)
      generalize zs[k]?.getD 0 = z at *
      generalize sw zs k = s at *
      obtain ⟨f1, f2⟩ := hf
      have f3 : ¬ z < 1 := by omega
      have f4 : ¬ 64 < z := by omega
      have f5 : ¬ 64 < s + z := by omega
      go_wp2_with fail
      go_round
      case rel => exact ⟨k + 1, by omega, by go_num, by rw [HS.out]⟩
      case measure => simp [intOf]; omega
    · obtain rfl : k = k0 := by omega
      have hf := HN.out
      unfold fit at hf
      generalize zs[k]?.getD 0 = z at *
      generalize sw zs k = s at *
      by_cases f1 : z < 1
      · clear hf
        go_wp2
        go_ret
        exact ⟨rfl, rfl⟩
      · by_cases f4 : 64 < z
        · clear hf
          go_wp2
          go_ret
          exact ⟨rfl, rfl⟩
        · have f2 : 64 < s + z := by omega
          clear hf
          go_wp2
          go_ret
          exact ⟨rfl, rfl⟩

/-- the facts of a round of Fields of the reference -/
theorem div_fits (v : Nat) (z : Int) (h : v < 2 ^ z.toNat) : (v : Int) / 2 ^ z.toNat = 0 := by
  have : v / 2 ^ z.toNat = 0 := Nat.div_eq_of_lt h
  rw [← pw, ← Int.natCast_ediv, this]; rfl
theorem div_not (v : Nat) (z : Int) (h : ¬ v < 2 ^ z.toNat) : (v : Int) / 2 ^ z.toNat ≠ 0 := by
  have : 0 < v / 2 ^ z.toNat := Nat.div_pos (by omega) (Nat.two_pow_pos _)
  rw [← pw, ← Int.natCast_ediv]; omega

theorem reff_size (a b : Option Addr) (len len2 cap cap2 : Nat) (h : len ≠ len2) (w : World) :
    Calls Try.prog 23 #[.slice a len cap, .slice b len2 cap2] w fun e w' => e = .returned (.tuple #[.int .u64 0, .int .i64 3]) ∧ ∃ n, w' = w.drewN n := by
  have h2 : (len : Int) ≠ (len2 : Int) := by omega
  have hb : ((len : Int) == (len2 : Int)) = false := beq_eq_false_iff_ne.2 h2
  go_enter Try.func23, Try.ntmps23
  go_wp2_with fail
  go_ret2
  exact ⟨rfl, 0, rfl⟩
theorem reff_bad (a b : Option Addr) (len cap cap2 : Nat) (zs : List Int) (hbig : len ≤ 100) (h : ¬ ∀ j, j < len → fit zs j) (w : World) (hI : Wi w.heap.size w a len zs) :
    Calls Try.prog 23 #[.slice a len cap, .slice b len cap2] w fun e w' => e = .returned (.tuple #[.int .u64 0, .int .i64 1]) ∧ ∃ n, w' = w.drewN n := by
  obtain ⟨k0, hk0, h1, h2⟩ := first_not _ _ h
  go_enter Try.func23, Try.ntmps23
  go_wp2_with fail
  refine (widths_no a len cap zs w.heap.size w (by omega) hI k0 hk0 h1 h2).mono ?_
  rintro e w1 ⟨rfl, rfl⟩
  go_wp2_with fail
  go_ret2
  exact ⟨rfl, 0, rfl⟩

set_option maxRecDepth 100000 in
set_option maxHeartbeats 1000000 in
theorem reff_ok (a b : Option Addr) (len cap cap2 : Nat) (zs : List Int) (vs : List Nat) (hbig : len ≤ 100) (hz : ∀ j, j < len → fit zs j) (hv : ∀ j, j < len → vfit zs vs j) (w : World) (hI : Wi w.heap.size w a len zs) (hV : Va w.heap.size w b len vs) :
    Calls Try.prog 23 #[.slice a len cap, .slice b len cap2] w fun e w' => e = .returned (.tuple #[.int .u64 (fw zs vs len : Nat), .int .i64 0]) ∧ ∃ n, w' = w.drewN n := by
  have HI := hid hI
  have HZ := hid hz
  have HV := hid hV
  have HY := hid hv
  clear hI hz hV hv
  go_enter Try.func23, Try.ntmps23
  go_wp2_with fail
  refine (widths_ok a len cap zs w.heap.size w (by omega) HI.out HZ.out).mono ?_
  rintro e w1 ⟨rfl, rfl⟩
  go_wp2_with fail
  go_loopw [6, 7, 8] (fun xv sv iv w1 => ∃ (k : Nat) (m : Nat), k ≤ len ∧ w1 = w.drewN m ∧ iv = .int .i64 (k : Int) ∧ sv = .int .i64 (sw zs k) ∧ xv = .int .u64 (fw zs vs k : Nat)) (fun _ _ iv _ => len - (intOf iv).toNat)
  case atStart => exact ⟨0, 0, by omega, rfl, rfl, rfl, rfl⟩
  case round =>
    obtain ⟨k, m, hk, rfl, rfl, rfl, rfl⟩ := hrel
    by_cases hlt : k < len
    · obtain ⟨c, off, rfl, _, hall⟩ := HI.out.resolve_left (by omega)
      obtain ⟨c2, off2, rfl, _, hall2⟩ := HV.out.2.resolve_left (by omega)
      have hck := hall k hlt
      have hcv := hall2 k hlt
      have hv64 := HV.out.1 k hlt
      clear hall hall2
      have hf := HZ.out k hlt
      have hvf := HY.out k hlt
      obtain ⟨h1, h2⟩ := sw_bd zs k (fun j hj => HZ.out j (by omega))
      unfold fit at hf
      unfold vfit at hvf
      have HS := hid (show sw zs (k + 1) = sw zs k + zs[k]?.getD 0 from rfl)
      have HF := hid (show fw zs vs (k + 1) = fw zs vs k ||| ((vs[k]?.getD 0) <<< (sw zs k).toNat) from rfl)
      have hfl := fw_lt zs vs k (fun j hj => ⟨HZ.out j (by omega), HY.out j (by omega)⟩)
      obtain ⟨f1, f2⟩ := hf
      have hsl := shl_lt (vs[k]?.getD 0) (sw zs k) (zs[k]?.getD 0) h1 f1 (by omega) hvf
      have HO := hid (or_shl (fw zs vs k) (vs[k]?.getD 0) (sw zs k) hfl hsl)
      generalize zs[k]?.getD 0 = z at *
      generalize sw zs k = s at *
      generalize vs[k]?.getD 0 = v at *
      generalize fw zs vs k = y at *
      have h3 : (k : Int) < (len : Int) := by omega
      have hq := div_fits v z hvf
      have ho := HO.out
      clear hfl hsl hvf
      by_cases h64 : z < 64
      · go_wp2_with fail
        go_quiet (fail)
        go_wp2_with fail
        exact ⟨⟨k + 1, m + nq, by omega, rfl, by go_num, by rw [HS.out], by rw [HF.out]⟩, by simp [intOf]; omega⟩
      · obtain rfl : z = 64 := by omega
        go_wp2_with fail
        go_quiet (fail)
        go_wp2_with fail
        exact ⟨⟨k + 1, m + nq, by omega, rfl, by go_num, by rw [HS.out], by rw [HF.out]⟩, by simp [intOf]; omega⟩
    · obtain rfl : k = len := by omega
      have h3 : ¬ (k : Int) < (k : Int) := by omega
      go_wp2
      go_ret2
      exact ⟨rfl, m, rfl⟩

set_option maxRecDepth 100000 in
set_option maxHeartbeats 1000000 in
theorem reff_no (a b : Option Addr) (len cap cap2 : Nat) (zs : List Int) (vs : List Nat) (hbig : len ≤ 100) (hz : ∀ j, j < len → fit zs j) (hv : ¬ ∀ j, j < len → vfit zs vs j) (w : World) (hI : Wi w.heap.size w a len zs) (hV : Va w.heap.size w b len vs) :
    Calls Try.prog 23 #[.slice a len cap, .slice b len cap2] w fun e w' => e = .returned (.tuple #[.int .u64 0, .int .i64 1]) ∧ ∃ n, w' = w.drewN n := by
  obtain ⟨k0, hk0, hy, hno⟩ := first_not _ _ hv
  have HI := hid hI
  have HZ := hid hz
  have HV := hid hV
  have HY := hid hy
  have HN := hid hno
  clear hI hz hV hv hy hno
  go_enter Try.func23, Try.ntmps23
  go_wp2_with fail
  refine (widths_ok a len cap zs w.heap.size w (by omega) HI.out HZ.out).mono ?_
  rintro e w1 ⟨rfl, rfl⟩
  go_wp2_with fail
  go_loopw [6, 7, 8] (fun xv sv iv w1 => ∃ (k : Nat) (m : Nat), k ≤ k0 ∧ w1 = w.drewN m ∧ iv = .int .i64 (k : Int) ∧ sv = .int .i64 (sw zs k) ∧ xv = .int .u64 (fw zs vs k : Nat)) (fun _ _ iv _ => len - (intOf iv).toNat)
  case atStart => exact ⟨0, 0, by omega, rfl, rfl, rfl, rfl⟩
  case round =>
    obtain ⟨k, m, hk, rfl, rfl, rfl, rfl⟩ := hrel
    obtain ⟨c, off, rfl, _, hall⟩ := HI.out.resolve_left (by omega)
    obtain ⟨c2, off2, rfl, _, hall2⟩ := HV.out.2.resolve_left (by omega)
    have hck := hall k (by omega)
    have hcv := hall2 k (by omega)
    have hv64 := HV.out.1 k (by omega)
    have hf := HZ.out k (by omega)
    clear hall hall2
    obtain ⟨h1, h2⟩ := sw_bd zs k (fun j hj => HZ.out j (by omega))
    unfold fit at hf
    have h3 : (k : Int) < (len : Int) := by omega
    by_cases hlt : k < k0
    · have hvf := HY.out k hlt
      unfold vfit at hvf
      have HS := hid (show sw zs (k + 1) = sw zs k + zs[k]?.getD 0 from rfl)
      have HF := hid (show fw zs vs (k + 1) = fw zs vs k ||| ((vs[k]?.getD 0) <<< (sw zs k).toNat) from rfl)
      have hfl := fw_lt zs vs k (fun j hj => ⟨HZ.out j (by omega), HY.out j (by omega)⟩)
      obtain ⟨f1, f2⟩ := hf
      have hsl := shl_lt (vs[k]?.getD 0) (sw zs k) (zs[k]?.getD 0) h1 f1 (by omega) hvf
      have HO := hid (or_shl (fw zs vs k) (vs[k]?.getD 0) (sw zs k) hfl hsl)
      generalize zs[k]?.getD 0 = z at *
      generalize sw zs k = s at *
      generalize vs[k]?.getD 0 = v at *
      generalize fw zs vs k = y at *
      have hq := div_fits v z hvf
      have ho := HO.out
      clear hfl hsl hvf
      by_cases h64 : z < 64
      · go_wp2_with fail
        go_quiet (fail)
        go_wp2_with fail
        exact ⟨⟨k + 1, m + nq, by omega, rfl, by go_num, by rw [HS.out], by rw [HF.out]⟩, by simp [intOf]; omega⟩
      · obtain rfl : z = 64 := by omega
        go_wp2_with fail
        go_quiet (fail)
        go_wp2_with fail
        exact ⟨⟨k + 1, m + nq, by omega, rfl, by go_num, by rw [HS.out], by rw [HF.out]⟩, by simp [intOf]; omega⟩
    · obtain rfl : k = k0 := by omega
      have hvf := HN.out
      unfold vfit at hvf
      obtain ⟨f1, f2⟩ := hf
      generalize zs[k]?.getD 0 = z at *
      generalize vs[k]?.getD 0 = v at *
      have h64 : z < 64 := by
        refine Decidable.byContradiction fun h => hvf ?_
        obtain rfl : z = 64 := by omega
        exact hv64
      have hq := div_not v z hvf
      have hqb : ((v : Int) / 2 ^ z.toNat == 0) = false := beq_eq_false_iff_ne.2 hq
      clear hvf
      go_wp2_with fail
      go_quiet (fail)
      go_wp2_with fail
      go_ret2
      exact ⟨rfl, m + nq, by rw [World.drewN_drewN]⟩

theorem rsplit_bad (x : Int) (a : Option Addr) (len cap : Nat) (zs : List Int) (hbig : len ≤ 100) (h : ¬ ∀ j, j < len → fit zs j) (w : World) (hI : Wi w.heap.size w a len zs) :
    Calls Try.prog 25 #[.int .u64 x, .slice a len cap] w fun e w' => e = .returned (.tuple #[.slice none 0 0, .int .i64 1]) ∧ w = w' := by
  obtain ⟨k0, hk0, h1, h2⟩ := first_not _ _ h
  go_enter Try.func25, Try.ntmps25
  go_wp2_with fail
  refine (widths_no a len cap zs w.heap.size w (by omega) hI k0 hk0 h1 h2).mono ?_
  rintro e w1 ⟨rfl, rfl⟩
  go_wp2_with fail
  go_ret2
  exact ⟨rfl, rfl⟩

theorem app_below {w wr w4 : World} {av : Value} {o : Obj} {n : Nat} {xs : List Value} (hB : Below w.heap.size w wr ∧ w.heap.size ≤ wr.heap.size) (hown : wr.ownsRow w.heap.size 32 1 av n xs) (hg : (wr.alloc o).grownBy w4 av.ownBlock) : Below w.heap.size w w4 ∧ w.heap.size ≤ w4.heap.size := by
  have hb := own_base hown
  refine ⟨(hB.1.alloc hB.2 o).grown hg (by have := hB.2; simp; omega) (fun k e => hb k e), ?_⟩
  have := hg.size; have := hB.2; simp at *; omega

set_option maxRecDepth 100000 in
set_option maxHeartbeats 1000000 in
theorem rsplit_ok (x : Nat) (hx : x < 18446744073709551616) (a : Option Addr) (len cap : Nat) (zs : List Int) (hbig : len ≤ 100) (hz : ∀ j, j < len → fit zs j) (w : World) (hI : Wi w.heap.size w a len zs) :
    Calls Try.prog 25 #[.int .u64 (x : Int), .slice a len cap] w fun e w' => ∃ a' cap', e = .returned (.tuple #[.slice a' len cap', .int .i64 0]) ∧ Hid (Wd w'.heap.size w' a' len cap' (fvl zs x (firsts len len (Nat.le_refl _)))) ∧ Below w.heap.size w w' := by
  have HI := hid hI
  have HZ := hid hz
  have HX := hid hx
  clear hI hz hx
  obtain ⟨i0, hi, hz0, hz1, hz2⟩ := info_parts Try.info32
  have HI0 := hid hi; have HZ0 := hid hz0; have HZ1 := hid hz1; have HZ2 := hid hz2
  clear hi hz0 hz1 hz2
  go_enter Try.func25, Try.ntmps25
  go_wp2_with fail
  refine (widths_ok a len cap zs w.heap.size w (by omega) HI.out HZ.out).mono ?_
  rintro e w1 ⟨rfl, rfl⟩
  go_wp2_with fail
  go_loopw [0, 6, 7] (fun xv av iv wr => ∃ (k : Nat) (hk : k ≤ len) (y : Nat), iv = .int .i64 (k : Int) ∧ xv = .int .u64 (y : Int) ∧ (k < len → y = x / 2 ^ (sw zs k).toNat) ∧ Hid (wr.ownsRow w.heap.size 32 1 av k (vs (fvl zs x (firsts len k hk)))) ∧ Hid (Below w.heap.size w wr ∧ w.heap.size ≤ wr.heap.size)) (fun _ _ iv _ => len - (intOf iv).toNat)
  case atStart => exact ⟨0, by omega, x, rfl, rfl, fun _ => by simp [sw], World.ownsRow_nil _ _ _ _, Below.refl _ _, Nat.le_refl _⟩
  case round =>
    obtain ⟨k, hk, y, rfl, rfl, hy, HR, HB⟩ := hrel
    obtain ⟨va, vc, rfl⟩ := own_slice HR.out
    by_cases hlt : k < len
    · obtain rfl := hy hlt
      obtain ⟨b, off, rfl, hbl, hall⟩ := HI.out.resolve_left (by omega)
      have hck := (HB.out.1.cell (p := ⟨b, off + k, none⟩) hbl).trans (hall k hlt)
      clear hall hy
      have hf := HZ.out k hlt
      have HLast := hid (fun hs : sw zs (k + 1) = 64 => show k + 1 = len from by
        refine Decidable.byContradiction fun hne => ?_
        have := HZ.out (k + 1) (by omega)
        unfold fit at this
        omega)
      obtain ⟨h1, h2⟩ := sw_bd zs k (fun j hj => HZ.out j (by omega))
      unfold fit at hf
      obtain ⟨f1, f2⟩ := hf
      have HFV := hid (fv_eq zs x k HX.out f1 (by omega))
      have HSN := hid (show vs (fvl zs x (firsts len (k + 1) (by omega))) = vs (fvl zs x (firsts len k hk)) ++ [.int .u64 (fv zs x k : Nat)] by simp [firsts, fvl, vs])
      have HS := hid (show sw zs (k + 1) = sw zs k + zs[k]?.getD 0 from rfl)
      have HDef := hid (show fv zs x k = x / 2 ^ (sw zs k).toNat % 2 ^ (zs[k]?.getD 0).toNat from rfl)
      have HYX := hid (show x / 2 ^ (sw zs k).toNat < 18446744073709551616 from Nat.lt_of_le_of_lt (Nat.div_le_self _ _) HX.out)
      have HDD := hid (show x / 2 ^ (sw zs k).toNat / 2 ^ (zs[k]?.getD 0).toNat = x / 2 ^ (sw zs k + zs[k]?.getD 0).toNat by rw [Nat.div_div_eq_div_mul, ← Nat.pow_add]; congr 2; omega)
      have HDI := hid (show (x : Int) / 2 ^ (sw zs k).toNat = ((x / 2 ^ (sw zs k).toNat : Nat) : Int) by rw [Int.natCast_ediv, pw])
      rw [HDI.out] at HFV
      have h3 : (k : Int) < (len : Int) := by omega
      generalize fv zs x k = f at *
      by_cases h64 : zs[k]?.getD 0 = 64
      · have hs0 : sw zs k = 0 := by omega
        have hfy : f = x / 2 ^ (sw zs k).toNat := by
          rw [HDef.out, h64]
          exact Nat.mod_eq_of_lt HYX.out
        rw [h64] at hck
        rw [hfy] at HSN
        clear hfy
        generalize x / 2 ^ (sw zs k).toNat = y at *
        go_wp2_with (first | (at_builtin; refine wpList_append_own _ rfl _ _ 23 rfl w.heap.size 32 i0 (.int .u64 0) 1 8 Try.underlying23 HI0.out HZ0.out HZ1.out HZ2.out rfl (by decide) _ _ _ rfl (HR.out.alloc _) ⟨_, 0, none⟩ 1 1 [.int .u64 (y : Int)] rfl rfl (cell_one_new _ _ _) (by simp [Value.oneCell']) (by unfold maxLen; omega) (by omega) (by have := HB.out.2; simp; omega) ?_; intro v4 w4 hown4 hgrow4 _))
        have HB4 := hid (app_below HB.out HR.out hgrow4)
        rw [← HSN.out] at hown4
        exact ⟨⟨k + 1, by omega, y, by go_num, rfl, fun hk1 => by have := HLast.out (by rw [HS.out]; omega); omega, hid hown4, HB4⟩, by simp [intOf]; omega⟩
      · obtain ⟨zn, hzn⟩ := Int.eq_ofNat_of_zero_le (show 0 ≤ zs[k]?.getD 0 by omega)
        rw [hzn] at hck f1 f2 h64 HS HFV HDD
        simp only [Int.ofNat_eq_natCast, Int.toNat_natCast] at hck f1 f2 h64 HS HFV HDD
        have hz63 : zn < 64 := by omega
        have t1 := shl1 zn hz63
        rw [pw] at t1
        have t2 : IntKind.u64.wrap ((2 : Int) ^ zn - 1) = (2 : Int) ^ zn - 1 := by
          have h1 := pow_lt hz63
          have h2 := Nat.two_pow_pos zn
          rw [← pw]
          generalize 2 ^ zn = y at h1 h2
          simp [IntKind.wrap, IntKind.bits, IntKind.signed]; omega
        have t3 : ((2 ^ zn - 1 : Nat) : Int) = (2 : Int) ^ zn - 1 := by
          have h2 := Nat.two_pow_pos zn
          rw [← pw]; omega
        have t4 := HFV.out
        rw [t3] at t4
        have t5 : ((x / 2 ^ (sw zs k).toNat : Nat) : Int) / 2 ^ zn = ((x / 2 ^ (sw zs k).toNat / 2 ^ zn : Nat) : Int) := by rw [Int.natCast_ediv (x / 2 ^ (sw zs k).toNat) (2 ^ zn), pw]
        have hf64 : (f : Int) = f := rfl
        clear HDef HDI
        have HD5 := hid HDD.out
        rw [HD5.out] at t5
        generalize x / 2 ^ (sw zs k).toNat = y at *
        go_wp2_with (first | (at_builtin; refine wpList_append_own _ rfl _ _ 23 rfl w.heap.size 32 i0 (.int .u64 0) 1 8 Try.underlying23 HI0.out HZ0.out HZ1.out HZ2.out rfl (by decide) _ _ _ rfl (HR.out.alloc _) ⟨_, 0, none⟩ 1 1 [.int .u64 (f : Int)] rfl rfl (cell_one_new _ _ _) (by simp [Value.oneCell']) (by unfold maxLen; omega) (by omega) (by have := HB.out.2; simp; omega) ?_; intro v4 w4 hown4 hgrow4 _; have HB4 := hid (app_below HB.out HR.out hgrow4); have hck4 := (HB4.out.1.cell (p := ⟨b, off + k, none⟩) hbl).trans ((HB.out.1.cell (p := ⟨b, off + k, none⟩) hbl).symm.trans hck)))
        rw [← HSN.out] at hown4
        refine ⟨⟨k + 1, by omega, x / 2 ^ (sw zs k + zn).toNat, by go_num, by rw [Int.natCast_ediv x, pw], fun _ => by rw [HS.out], hid hown4, HB4⟩, by simp [intOf]; omega⟩
    · obtain rfl : k = len := by omega
      have h3 : ¬ (k : Int) < (k : Int) := by omega
      go_wp2
      go_ret2
      obtain ⟨a', cap', ev, hW⟩ := own_wd HR.out (fun j hj => by
        have hj2 : j < (firsts k k (Nat.le_refl _)).length := by rw [firsts_length]; exact hj
        simp only [fvl, List.getElem?_map, List.getElem?_eq_getElem hj2, Option.map_some, Option.getD_some]
        exact fv_lt zs x _ HX.out)
      simp only [Value.slice.injEq, true_and] at ev
      obtain ⟨rfl, rfl⟩ := ev
      exact ⟨_, _, rfl, hid hW, HB.out.1⟩
end Go.Proofs.Ytflmfjfeeajkfaa
