/- SetBit of the reference, and Bit of layer 2 and of the reference. No conditions but those of each theorem. -/
import Derived.Test.YtflmfjfeeajkfaaS
namespace Go.Proofs.Ytflmfjfeeajkfaa
open Go.ChangeShapes Go.WideShapes Go.ChangeAt Go.RowKit
set_option linter.unusedVariables false
set_option linter.unusedSimpArgs false

set_option maxHeartbeats 1000000 in
theorem rset_ok (a : Option Addr) (len cap n q r : Nat) (ws : List Nat) (is : Bool) (hl : len ≤ 100000) (hn : n = 64 * q + r) (hr : r < 64) (h : q < len) (w : World) (hW : Wd w.heap.size w a len cap ws) :
    Calls Try.prog 27 #[.slice a len cap, .int .i64 (n : Int), .bool is] w fun e w' => ∃ a' cap', e = .returned (.tuple #[.slice a' len cap', .int .i64 0]) ∧ Hid (Wd w'.heap.size w' a' len cap' (ws.set q (sb (ws[q]?.getD 0) r is))) ∧ Below w.heap.size w w' := by
  obtain ⟨i0, hi, hz0, hz1, hz2⟩ := info_parts Try.info32
  have HI := hid hi; have HZ0 := hid hz0; have HZ1 := hid hz1; have HZ2 := hid hz2
  clear hi hz0 hz1 hz2
  have HL := hid hW.1
  have HB := hid hW.2.1
  have HS := hid hW.src
  have LA := hid (show (vs ws).length = len * 1 by simp [vs]; exact hW.1)
  have O1 := hid (one_of ws)
  have C1 := hid (show 0 + len ≤ maxLen by unfold maxLen; omega)
  have C2 := hid (show (0 + len) * 8 ≤ 140737488355328 by omega)
  clear hW
  have hn2 : (n : Int) ≤ 9223372036854775807 := by omega
  have q2 : (n : Int) / 64 = (q : Int) := by omega
  have r2 : (n : Int) % 64 = (r : Int) := by omega
  have w5 : (n : Int).tmod 64 = (r : Int) := by rw [Int.tmod_eq_emod_of_nonneg (by omega)]; exact r2
  have q3 : (q : Int) < (len : Int) := by omega
  have q4 : (0 : Int) ≤ q := by omega
  have w1 : IntKind.i64.wrap (q : Int) = (q : Int) := IntWalk.i64_in _ (by omega)
  have w2 : IntKind.i64.wrap (r : Int) = (r : Int) := IntWalk.i64_in _ (by omega)
  have hx := HB.out _ h
  have w3' := shl1 r hr
  have w4 := u64_andNot_nat (ws[q]?.getD 0) (2 ^ r) hx (pow_lt hr)
  have w6 := u64_or_nat (ws[q]?.getD 0 &&& (18446744073709551615 - 2 ^ r)) (2 ^ r) (cb_lt _ _) (pow_lt hr)
  rw [pw] at w3' w4 w6
  have d1 : decide ((n : Int) < 0) = false := decide_eq_false (by omega)
  clear hn
  go_enter Try.func27, Try.ntmps27
  go_wp2_with (first | (at_builtin; refine wpList_append_src _ rfl (.const (.slice none 0 0)) _ 23 rfl w.heap.size 32 i0 (.int .u64 0) 1 8 Try.underlying23 HI.out HZ0.out HZ1.out HZ2.out rfl (by decide) (.slice none 0 0) 0 [] rfl (World.ownsRow_nil _ _ _ _) _ _ _ _ rfl HS.out LA.out O1.out C1.out C2.out (Nat.le_refl _) ?_; intro v3 w3 hown3 hgrow3; simp only [Nat.zero_add, List.nil_append] at hown3; have hb3 := hid ((Below.refl w.heap.size w).grown hgrow3 (Nat.le_refl _) (fun k e => by simp [Value.ownBlock] at e))))
  obtain ⟨g, cap3, rfl⟩ := own_some hown3 (by omega)
  clear hgrow3 HS O1 C1 C2
  have hg : w.heap.size ≤ g := own_base hown3 g rfl
  have hl1 := HL.out
  have t1 : w3.cell? ⟨g, q, none⟩ = some (.int .u64 (ws[q]?.getD 0 : Nat)) := by
    rw [hown3.cellAt _ (by omega), vs_at _ _ (by omega)]
  have t2 := hown3.frozenAt q
  have HE1 := hid (hown3.drew.stored q (.int .u64 ((ws[q]?.getD 0 &&& (18446744073709551615 - 2 ^ r) : Nat) : Int))).1
  have HB1 := hid (hb3.out.drew.setCell (p := ⟨g, q, none⟩) hg (.int .u64 ((ws[q]?.getD 0 &&& (18446744073709551615 - 2 ^ r) : Nat) : Int)))
  rw [vs_set] at HE1
  clear hown3 hl1
  have hq3 := HL.out
  have HQ := hid (show q < ws.length by omega)
  clear hq3
  cases is
  · have HV := hid (show sb (ws[q]?.getD 0) r false = ws[q]?.getD 0 &&& (18446744073709551615 - 2 ^ r) from rfl)
    have HC := hid (cb_lt (ws[q]?.getD 0) r)
    clear w6
    go_wp2_with fail
    go_still_tail 10, (by kernel_rfl)
    repeat still_step
    change wpList _ _ _ _ _ w3.drew
    have t3 : w3.drew.cell? ⟨g, q, none⟩ = some (.int .u64 (ws[q]?.getD 0 : Nat)) := t1
    have t4 : w3.drew.frozen? ⟨g, q, none⟩ = false := t2
    clear t1 t2 w4
    generalize ws[q]?.getD 0 &&& (18446744073709551615 - 2 ^ r) = x at *
    generalize w3.drew = w3 at *
    go_wp2_with fail
    go_ret2
    obtain ⟨a', cap', e1, e2⟩ := own_wd HE1.out (fun j hj => by
      rw [set_getD _ _ _ _ HQ.out]
      split
      · exact HC.out
      · exact HB.out j (by omega))
    simp only [Value.slice.injEq, Nat.mul_one, true_and] at e1
    obtain ⟨rfl, rfl⟩ := e1
    refine ⟨_, _, rfl, hid ?_, HB1.out⟩
    rw [HV.out]
    simpa using e2
  · have HV := hid (show sb (ws[q]?.getD 0) r true = (ws[q]?.getD 0 &&& (18446744073709551615 - 2 ^ r)) ||| 2 ^ r from rfl)
    have HC := hid (sb_lt r true hx hr)
    go_wp2_with fail
    go_still_tail 10, (by kernel_rfl)
    repeat still_step
    change wpList _ _ _ _ _ w3.drew
    have t3 : w3.drew.cell? ⟨g, q, none⟩ = some (.int .u64 (ws[q]?.getD 0 : Nat)) := t1
    have t4 : w3.drew.frozen? ⟨g, q, none⟩ = false := t2
    clear t1 t2 w4
    have HE2 := hid (HE1.out.drew.stored q (.int .u64 (((ws[q]?.getD 0 &&& (18446744073709551615 - 2 ^ r)) ||| 2 ^ r : Nat) : Int))).1
    have HB2 := hid (HB1.out.drew.setCell (p := ⟨g, q, none⟩) hg (.int .u64 (((ws[q]?.getD 0 &&& (18446744073709551615 - 2 ^ r)) ||| 2 ^ r : Nat) : Int)))
    rw [vs_set, List.set_set] at HE2
    have t5 : (w3.drew.setCell ⟨g, q, none⟩ (.int .u64 ((ws[q]?.getD 0 &&& (18446744073709551615 - 2 ^ r) : Nat) : Int))).cell? ⟨g, q, none⟩ = some (.int .u64 ((ws[q]?.getD 0 &&& (18446744073709551615 - 2 ^ r) : Nat) : Int)) := World.cell?_setCell_same' _ _ _ (by rw [t3]; rfl)
    have t6 : (w3.drew.setCell ⟨g, q, none⟩ (.int .u64 ((ws[q]?.getD 0 &&& (18446744073709551615 - 2 ^ r) : Nat) : Int))).frozen? ⟨g, q, none⟩ = false := (World.frozen?_setCell _ _ _ _).trans t4
    clear HE1 HB1
    generalize ws[q]?.getD 0 &&& (18446744073709551615 - 2 ^ r) = x at *
    generalize w3.drew = w6 at *
    go_wp2_with fail
    clear t3 t4
    generalize w6.setCell ⟨g, q, none⟩ (.int .u64 (x : Int)) = w4 at *
    go_wp2_with fail
    go_still_tail 10, (by kernel_rfl)
    repeat still_step
    change wpList _ _ _ _ _ w4.drew
    have t7 : w4.drew.cell? ⟨g, q, none⟩ = some (.int .u64 (x : Int)) := t5
    have t8 : w4.drew.frozen? ⟨g, q, none⟩ = false := t6
    clear t5 t6
    generalize x ||| 2 ^ r = y at *
    generalize w4.drew = w5 at *
    go_wp2_with fail
    go_ret2
    obtain ⟨a', cap', e1, e2⟩ := own_wd HE2.out (fun j hj => by
      rw [set_getD _ _ _ _ HQ.out]
      split
      · rw [← HV.out]; exact HC.out
      · exact HB.out j (by omega))
    simp only [Value.slice.injEq, Nat.mul_one, true_and] at e1
    obtain ⟨rfl, rfl⟩ := e1
    refine ⟨_, _, rfl, hid ?_, HB2.out⟩
    rw [HV.out]
    simpa using e2


theorem rset_no (a : Option Addr) (len cap : Nat) (n : Int) (is : Bool) (hn : n ≤ 9223372036854775807) (h : n < 0 ∨ (len : Int) ≤ n / 64) (w : World) :
    Calls Try.prog 27 #[.slice a len cap, .int .i64 n, .bool is] w fun e w' => e = .returned (.tuple #[.slice none 0 0, .int .i64 1]) ∧ w = w' := by
  by_cases h0 : n < 0
  · clear h
    go_enter Try.func27, Try.ntmps27
    go_wp2_with fail
    go_ret2
    exact ⟨rfl, rfl⟩
  · have h1 : (len : Int) ≤ n / 64 := by omega
    have h2 : 0 ≤ n := by omega
    clear h
    go_enter Try.func27, Try.ntmps27
    go_wp2_with fail
    go_ret2
    exact ⟨rfl, rfl⟩

/-- there is a bit with this number -/
def hasP (len : Nat) (z : Int) : Prop := 0 ≤ z ∧ z / 64 < (len : Int)
instance (len : Nat) (z : Int) : Decidable (hasP len z) := by unfold hasP; infer_instance
/-- the bit, and the error -/
def bitV (len : Nat) (ws : List Nat) (z : Int) : Bool := if hasP len z then (ws[(z / 64).toNat]?.getD 0).testBit (z % 64).toNat else false
def bitE (len : Nat) (z : Int) : Int := if hasP len z then 0 else 1
theorem bit_nat (x r : Nat) (hx : x < 18446744073709551616) : bits .and .u64 ((x : Int) / 2 ^ r) 1 = if x.testBit r then 1 else 0 := by
  have h : ((x : Int) / 2 ^ r) = ((x / 2 ^ r : Nat) : Int) := by rw [Int.natCast_ediv, pw]
  have hlt : x / 2 ^ r < 18446744073709551616 := Nat.lt_of_le_of_lt (Nat.div_le_self _ _) hx
  rw [h, show (1 : Int) = ((1 : Nat) : Int) from rfl, u64_and_nat _ _ hlt (by omega), Nat.and_one_is_mod, Nat.testBit_eq_decide_div_mod_eq]
  have : x / 2 ^ r % 2 = 0 ∨ x / 2 ^ r % 2 = 1 := by omega
  rcases this with h | h <;> simp [h]

theorem bit_any (a : Option Addr) (len cap : Nat) (z : Int) (ws : List Nat) (n₀ : Nat) (hl : len ≤ 100000) (hz : z ≤ 9223372036854775807) (w : World) (hW : Wd n₀ w a len cap ws) :
    Calls Try.prog 28 #[.slice a len cap, .int .i64 z] w fun e w' => e = .returned (.tuple #[.bool (bitV len ws z), .int .i64 (bitE len z)]) ∧ w = w' := by
  by_cases hp : hasP len z
  · have e1 := hid (show bitE len z = 0 from if_pos hp)
    have e2 := hid (show bitV len ws z = (ws[(z / 64).toNat]?.getD 0).testBit (z % 64).toNat from if_pos hp)
    obtain ⟨h0, h1⟩ := hp
    obtain ⟨k, rfl⟩ := Int.eq_ofNat_of_zero_le h0
    have HN := hid (has_yes a len cap k (by omega) (by omega))
    obtain ⟨q, hq⟩ : ∃ q, q = k / 64 := ⟨_, rfl⟩
    obtain ⟨r, hr⟩ : ∃ r, r = k % 64 := ⟨_, rfl⟩
    have q2 : (k : Int) / 64 = (q : Int) := by omega
    have r2 : (k : Int) % 64 = (r : Int) := by omega
    have w5 : (k : Int).tmod 64 = (r : Int) := by rw [Int.tmod_eq_emod_of_nonneg (by omega)]; exact r2
    have hq2 : q < len := by omega
    have hq3 : (q : Int) < (len : Int) := by omega
    rw [q2, r2] at e2
    simp only [Int.toNat_natCast] at e2
    have HB := hid (hW.2.1 q hq2)
    obtain ⟨b, off, rfl, _, hc⟩ := hW.2.2.2.resolve_left (by omega)
    have hcq := hc q hq2
    clear hc hW hq hr h1
    have hbit := bit_nat (ws[q]?.getD 0) r HB.out
    generalize ws[q]?.getD 0 = x at *
    by_cases hx : x.testBit r = true
    · have t1 : (bits .and .u64 ((x : Int) / 2 ^ r) 1 == 1) = true := by rw [hbit, if_pos hx]; rfl
      rw [hx] at e2
      clear hbit hx
      go_enter Try.func28, Try.ntmps28
      go_wp2_with fail
      refine (HN.out _).mono ?_
      rintro e w1 ⟨rfl, rfl⟩
      go_wp2_with fail
      go_ret2
      exact ⟨by rw [e1.out, e2.out]; rfl, rfl⟩
    · have t1 : (bits .and .u64 ((x : Int) / 2 ^ r) 1 == 1) = false := by rw [hbit, if_neg hx]; rfl
      rw [Bool.eq_false_iff.2 hx] at e2
      clear hbit hx
      go_enter Try.func28, Try.ntmps28
      go_wp2_with fail
      refine (HN.out _).mono ?_
      rintro e w1 ⟨rfl, rfl⟩
      go_wp2_with fail
      go_ret2
      exact ⟨by rw [e1.out, e2.out]; rfl, rfl⟩
  · have e1 := hid (show bitE len z = 1 from if_neg hp)
    have e2 := hid (show bitV len ws z = false from if_neg hp)
    have HN : ∀ w, Calls Try.prog 34 #[.slice a len cap, .int .i64 z] w fun e w' => e = .returned (.bool false) ∧ w = w' := fun w => by
      rcases Int.lt_or_le z 0 with h0 | h0
      · exact has_neg a len cap z h0 w
      · obtain ⟨k, rfl⟩ := Int.eq_ofNat_of_zero_le h0
        exact has_no a len cap k hz (by unfold hasP at hp; omega) w
    have HN := hid HN
    clear hp hW hz
    go_enter Try.func28, Try.ntmps28
    go_wp2_with fail
    refine (HN.out _).mono ?_
    rintro e w1 ⟨rfl, rfl⟩
    go_wp2_with fail
    go_ret2
    exact ⟨by rw [e1.out, e2.out]; rfl, rfl⟩

theorem rbit_any (a : Option Addr) (len cap : Nat) (z : Int) (ws : List Nat) (n₀ : Nat) (hl : len ≤ 100000) (hz : z ≤ 9223372036854775807) (w : World) (hW : Wd n₀ w a len cap ws) :
    Calls Try.prog 29 #[.slice a len cap, .int .i64 z] w fun e w' => e = .returned (.tuple #[.bool (bitV len ws z), .int .i64 (bitE len z)]) ∧ w = w' := by
  by_cases hp : hasP len z
  · have e1 := hid (show bitE len z = 0 from if_pos hp)
    have e2 := hid (show bitV len ws z = (ws[(z / 64).toNat]?.getD 0).testBit (z % 64).toNat from if_pos hp)
    obtain ⟨h0, h1⟩ := hp
    obtain ⟨k, rfl⟩ := Int.eq_ofNat_of_zero_le h0
    have d1 : decide ((k : Int) < 0) = false := decide_eq_false (by omega)
    obtain ⟨q, hq⟩ : ∃ q, q = k / 64 := ⟨_, rfl⟩
    obtain ⟨r, hr⟩ : ∃ r, r = k % 64 := ⟨_, rfl⟩
    have q2 : (k : Int) / 64 = (q : Int) := by omega
    have r2 : (k : Int) % 64 = (r : Int) := by omega
    have w5 : (k : Int).tmod 64 = (r : Int) := by rw [Int.tmod_eq_emod_of_nonneg (by omega)]; exact r2
    have hq2 : q < len := by omega
    have hq3 : (q : Int) < (len : Int) := by omega
    rw [q2, r2] at e2
    simp only [Int.toNat_natCast] at e2
    have HB := hid (hW.2.1 q hq2)
    obtain ⟨b, off, rfl, _, hc⟩ := hW.2.2.2.resolve_left (by omega)
    have hcq := hc q hq2
    clear hc hW hq hr h1
    have hbit := bit_nat (ws[q]?.getD 0) r HB.out
    generalize ws[q]?.getD 0 = x at *
    by_cases hx : x.testBit r = true
    · have t1 : (bits .and .u64 ((x : Int) / 2 ^ r) 1 == 1) = true := by rw [hbit, if_pos hx]; rfl
      rw [hx] at e2
      clear hbit hx
      go_enter Try.func29, Try.ntmps29
      go_wp2_with fail
      go_ret2
      exact ⟨by rw [e1.out, e2.out]; rfl, rfl⟩
    · have t1 : (bits .and .u64 ((x : Int) / 2 ^ r) 1 == 1) = false := by rw [hbit, if_neg hx]; rfl
      rw [Bool.eq_false_iff.2 hx] at e2
      clear hbit hx
      go_enter Try.func29, Try.ntmps29
      go_wp2_with fail
      go_ret2
      exact ⟨by rw [e1.out, e2.out]; rfl, rfl⟩
  · have e1 := hid (show bitE len z = 1 from if_neg hp)
    have e2 := hid (show bitV len ws z = false from if_neg hp)
    by_cases h0 : z < 0
    · clear hp hW hz
      go_enter Try.func29, Try.ntmps29
      go_wp2_with fail
      go_ret2
      exact ⟨by rw [e1.out, e2.out]; rfl, rfl⟩
    · have h1 : (len : Int) ≤ z / 64 := by unfold hasP at hp; omega
      have h2 : 0 ≤ z := by omega
      clear hp hW
      go_enter Try.func29, Try.ntmps29
      go_wp2_with fail
      go_ret2
      exact ⟨by rw [e1.out, e2.out]; rfl, rfl⟩
end Go.Proofs.Ytflmfjfeeajkfaa
