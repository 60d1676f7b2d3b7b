/- SetBit, Bit and Same of layer 2 and of the reference. No conditions but those of each theorem. -/
import Derived.Test.YtflmfjfeeajkfaaB
namespace Go.Proofs.Ytflmfjfeeajkfaa
open Go.ChangeShapes Go.WideShapes Go.ChangeAt Go.RowKit
set_option linter.unusedVariables false
set_option linter.unusedSimpArgs false

theorem has_yes (a : Option Addr) (len cap n : Nat) (hl : len ≤ 140737488355328) (h : n / 64 < len) (w : World) :
    Calls Try.prog 34 #[.slice a len cap, .int .i64 (n : Int)] w fun e w' => e = .returned (.bool true) ∧ w = w' := by
  have h1 : (n : Int) / 64 < (len : Int) := by omega
  have h2 : (n : Int) ≤ 9223372036854775807 := by omega
  go_enter Try.func34, Try.ntmps34
  go_wp2
  go_ret
  exact ⟨rfl, rfl⟩
theorem has_neg (a : Option Addr) (len cap : Nat) (n : Int) (h : n < 0) (w : World) :
    Calls Try.prog 34 #[.slice a len cap, .int .i64 n] w fun e w' => e = .returned (.bool false) ∧ w = w' := by
  have h1 : decide (0 ≤ n) = false := by simp; omega
  go_enter Try.func34, Try.ntmps34
  go_wp2
  go_ret
  exact ⟨rfl, rfl⟩
theorem has_no (a : Option Addr) (len cap n : Nat) (hn : (n : Int) ≤ 9223372036854775807) (h : len ≤ n / 64) (w : World) :
    Calls Try.prog 34 #[.slice a len cap, .int .i64 (n : Int)] w fun e w' => e = .returned (.bool false) ∧ w = w' := by
  have h1 : ¬ (n : Int) / 64 < (len : Int) := by omega
  go_enter Try.func34, Try.ntmps34
  go_wp2
  go_ret
  exact ⟨rfl, rfl⟩

theorem set_no (a : Option Addr) (len cap : Nat) (n : Int) (is : Bool) (hn : n ≤ 9223372036854775807) (h : n < 0 ∨ (len : Int) ≤ n / 64) (w : World) :
    Calls Try.prog 26 #[.slice a len cap, .int .i64 n, .bool is] w fun e w' => e = .returned (.tuple #[.slice none 0 0, .int .i64 1]) ∧ w = w' := by
  have HN : ∀ w, Calls Try.prog 34 #[.slice a len cap, .int .i64 n] w fun e w' => e = .returned (.bool false) ∧ w = w' := fun w => by
    rcases Int.lt_or_le n 0 with h0 | h0
    · exact has_neg a len cap n h0 w
    · obtain ⟨k, rfl⟩ := Int.eq_ofNat_of_zero_le h0
      exact has_no a len cap k hn (by omega) w
  have HN := hid HN
  clear h hn
  go_enter Try.func26, Try.ntmps26
  go_wp2_with fail
  refine (HN.out _).mono ?_
  rintro e w1 ⟨rfl, rfl⟩
  go_wp2_with fail
  go_ret2
  exact ⟨rfl, rfl⟩

theorem vs_set (B : List Nat) (q v : Nat) : (vs B).set q (.int .u64 (v : Int)) = vs (B.set q v) := by
  simp [vs, List.map_set]
theorem vs_at (ws : List Nat) (j : Nat) (hj : j < ws.length) : (vs ws)[j]? = some (.int .u64 (ws[j]?.getD 0 : Nat)) := by
  simp [vs, List.getElem?_eq_getElem hj]
theorem set_getD (B : List Nat) (q v j : Nat) (hq : q < B.length) : (B.set q v)[j]?.getD 0 = if j = q then v else B[j]?.getD 0 := by
  rw [List.getElem?_set]
  by_cases e : q = j
  · subst e; simp [hq]
  · rw [if_neg e, if_neg (fun h => e h.symm)]
theorem own_some {w : World} {base : Nat} {v : Value} {n : Nat} {xs : List Value} (h : w.ownsRow base 32 1 v n xs) (hn : 0 < n) : ∃ g cap, v = .slice (some ⟨g, 0, none⟩) n cap := by
  rcases h.2 with ⟨hv, h0⟩ | ⟨g, cap, cur, hv, _⟩
  · omega
  · exact ⟨g, cap, hv⟩
theorem pw (r : Nat) : ((2 ^ r : Nat) : Int) = (2 : Int) ^ r := by rw [Int.natCast_pow]; rfl
theorem shl1 (r : Nat) (hr : r < 64) : IntKind.u64.wrap ((2 : Int) ^ r) = ((2 ^ r : Nat) : Int) := by
  have := pow_lt hr
  rw [show ((2 : Int) ^ r) = ((2 ^ r : Nat) : Int) by rw [Int.natCast_pow]; rfl]
  generalize 2 ^ r = y at this
  simp [IntKind.wrap, IntKind.bits, IntKind.signed]; omega
theorem cb_lt (x r : Nat) : x &&& (18446744073709551615 - 2 ^ r) < 18446744073709551616 := Nat.and_lt_two_pow (n := 64) _ (Nat.lt_of_le_of_lt (Nat.sub_le _ _) (by decide))

set_option maxHeartbeats 1000000 in
theorem set_ok (a : Option Addr) (len cap n q r : Nat) (ws : List Nat) (is : Bool) (hl : len ≤ 100000) (hn : n = 64 * q + r) (hr : r < 64) (h : q < len) (w : World) (hW : Wd w.heap.size w a len cap ws) :
    Calls Try.prog 26 #[.slice a len cap, .int .i64 (n : Int), .bool is] w fun e w' => ∃ a' cap', e = .returned (.tuple #[.slice a' len cap', .int .i64 0]) ∧ Hid (Wd w'.heap.size w' a' len cap' (ws.set q (sb (ws[q]?.getD 0) r is))) ∧ Below w.heap.size w w' := by
  obtain ⟨i0, hi, hz0, hz1, hz2⟩ := info_parts Try.info32
  have HI := hid hi; have HZ0 := hid hz0; have HZ1 := hid hz1; have HZ2 := hid hz2
  clear hi hz0 hz1 hz2
  have HN := hid (has_yes a len cap n (by omega) (by omega))
  have HL := hid hW.1
  have HB := hid hW.2.1
  have HS := hid hW.src
  have LA := hid (show (vs ws).length = len * 1 by simp [vs]; exact hW.1)
  have O1 := hid (one_of ws)
  have C1 := hid (show 0 + len ≤ maxLen by unfold maxLen; omega)
  have C2 := hid (show (0 + len) * 8 ≤ 140737488355328 by omega)
  clear hW
  have hn2 : (n : Int) ≤ 9223372036854775807 := by omega
  have q2 : (n : Int) / 64 = (q : Int) := by omega
  have r2 : (n : Int) % 64 = (r : Int) := by omega
  have w5 : (n : Int).tmod 64 = (r : Int) := by rw [Int.tmod_eq_emod_of_nonneg (by omega)]; exact r2
  have q3 : (q : Int) < (len : Int) := by omega
  have q4 : (0 : Int) ≤ q := by omega
  have w1 : IntKind.i64.wrap (q : Int) = (q : Int) := IntWalk.i64_in _ (by omega)
  have w2 : IntKind.i64.wrap (r : Int) = (r : Int) := IntWalk.i64_in _ (by omega)
  have hx := HB.out _ h
  have w3' := shl1 r hr
  have w4 := u64_andNot_nat (ws[q]?.getD 0) (2 ^ r) hx (pow_lt hr)
  have w6 := u64_or_nat (ws[q]?.getD 0 &&& (18446744073709551615 - 2 ^ r)) (2 ^ r) (cb_lt _ _) (pow_lt hr)
  rw [pw] at w3' w4 w6
  clear hn
  go_enter Try.func26, Try.ntmps26
  go_wp2_with fail
  refine (HN.out _).mono ?_
  rintro e w1 ⟨rfl, rfl⟩
  go_wp2_with (first | (at_builtin; refine wpList_append_src _ rfl (.const (.slice none 0 0)) _ 23 rfl w.heap.size 32 i0 (.int .u64 0) 1 8 Try.underlying23 HI.out HZ0.out HZ1.out HZ2.out rfl (by decide) (.slice none 0 0) 0 [] rfl (World.ownsRow_nil _ _ _ _) _ _ _ _ rfl HS.out LA.out O1.out C1.out C2.out (Nat.le_refl _) ?_; intro v3 w3 hown3 hgrow3; simp only [Nat.zero_add, List.nil_append] at hown3; have hb3 := hid ((Below.refl w.heap.size w).grown hgrow3 (Nat.le_refl _) (fun k e => by simp [Value.ownBlock] at e))))
  obtain ⟨g, cap3, rfl⟩ := own_some hown3 (by omega)
  clear hgrow3 HS O1 C1 C2 HN
  have hg : w.heap.size ≤ g := own_base hown3 g rfl
  have hl1 := HL.out
  have t1 : w3.cell? ⟨g, q, none⟩ = some (.int .u64 (ws[q]?.getD 0 : Nat)) := by
    rw [hown3.cellAt _ (by omega), vs_at _ _ (by omega)]
  have t2 := hown3.frozenAt q
  have HE1 := hid (hown3.drew.stored q (.int .u64 ((ws[q]?.getD 0 &&& (18446744073709551615 - 2 ^ r) : Nat) : Int))).1
  have HB1 := hid (hb3.out.drew.setCell (p := ⟨g, q, none⟩) hg (.int .u64 ((ws[q]?.getD 0 &&& (18446744073709551615 - 2 ^ r) : Nat) : Int)))
  rw [vs_set] at HE1
  clear hown3 hl1
  have hq3 := HL.out
  have HQ := hid (show q < ws.length by omega)
  clear hq3
  cases is
  · have HV := hid (show sb (ws[q]?.getD 0) r false = ws[q]?.getD 0 &&& (18446744073709551615 - 2 ^ r) from rfl)
    have HC := hid (cb_lt (ws[q]?.getD 0) r)
    clear w6
    go_wp2_with fail
    go_still_tail 10, (by kernel_rfl)
    repeat still_step
    change wpList _ _ _ _ _ w3.drew
    have t3 : w3.drew.cell? ⟨g, q, none⟩ = some (.int .u64 (ws[q]?.getD 0 : Nat)) := t1
    have t4 : w3.drew.frozen? ⟨g, q, none⟩ = false := t2
    clear t1 t2 w4
    generalize ws[q]?.getD 0 &&& (18446744073709551615 - 2 ^ r) = x at *
    generalize w3.drew = w3 at *
    go_wp2_with fail
    go_ret2
    obtain ⟨a', cap', e1, e2⟩ := own_wd HE1.out (fun j hj => by
      rw [set_getD _ _ _ _ HQ.out]
      split
      · exact HC.out
      · exact HB.out j (by omega))
    simp only [Value.slice.injEq, Nat.mul_one, true_and] at e1
    obtain ⟨rfl, rfl⟩ := e1
    refine ⟨_, _, rfl, hid ?_, HB1.out⟩
    rw [HV.out]
    simpa using e2
  · have HV := hid (show sb (ws[q]?.getD 0) r true = (ws[q]?.getD 0 &&& (18446744073709551615 - 2 ^ r)) ||| 2 ^ r from rfl)
    have HC := hid (sb_lt r true hx hr)
    go_wp2_with fail
    go_still_tail 10, (by kernel_rfl)
    repeat still_step
    change wpList _ _ _ _ _ w3.drew
    have t3 : w3.drew.cell? ⟨g, q, none⟩ = some (.int .u64 (ws[q]?.getD 0 : Nat)) := t1
    have t4 : w3.drew.frozen? ⟨g, q, none⟩ = false := t2
    clear t1 t2 w4
    have HE2 := hid (HE1.out.drew.stored q (.int .u64 (((ws[q]?.getD 0 &&& (18446744073709551615 - 2 ^ r)) ||| 2 ^ r : Nat) : Int))).1
    have HB2 := hid (HB1.out.drew.setCell (p := ⟨g, q, none⟩) hg (.int .u64 (((ws[q]?.getD 0 &&& (18446744073709551615 - 2 ^ r)) ||| 2 ^ r : Nat) : Int)))
    rw [vs_set, List.set_set] at HE2
    have t5 : (w3.drew.setCell ⟨g, q, none⟩ (.int .u64 ((ws[q]?.getD 0 &&& (18446744073709551615 - 2 ^ r) : Nat) : Int))).cell? ⟨g, q, none⟩ = some (.int .u64 ((ws[q]?.getD 0 &&& (18446744073709551615 - 2 ^ r) : Nat) : Int)) := World.cell?_setCell_same' _ _ _ (by rw [t3]; rfl)
    have t6 : (w3.drew.setCell ⟨g, q, none⟩ (.int .u64 ((ws[q]?.getD 0 &&& (18446744073709551615 - 2 ^ r) : Nat) : Int))).frozen? ⟨g, q, none⟩ = false := (World.frozen?_setCell _ _ _ _).trans t4
    clear HE1 HB1
    generalize ws[q]?.getD 0 &&& (18446744073709551615 - 2 ^ r) = x at *
    generalize w3.drew = w6 at *
    go_wp2_with fail
    clear t3 t4
    generalize w6.setCell ⟨g, q, none⟩ (.int .u64 (x : Int)) = w4 at *
    go_wp2_with fail
    go_still_tail 10, (by kernel_rfl)
    repeat still_step
    change wpList _ _ _ _ _ w4.drew
    have t7 : w4.drew.cell? ⟨g, q, none⟩ = some (.int .u64 (x : Int)) := t5
    have t8 : w4.drew.frozen? ⟨g, q, none⟩ = false := t6
    clear t5 t6
    generalize x ||| 2 ^ r = y at *
    generalize w4.drew = w5 at *
    go_wp2_with fail
    go_ret2
    obtain ⟨a', cap', e1, e2⟩ := own_wd HE2.out (fun j hj => by
      rw [set_getD _ _ _ _ HQ.out]
      split
      · rw [← HV.out]; exact HC.out
      · exact HB.out j (by omega))
    simp only [Value.slice.injEq, Nat.mul_one, true_and] at e1
    obtain ⟨rfl, rfl⟩ := e1
    refine ⟨_, _, rfl, hid ?_, HB2.out⟩
    rw [HV.out]
    simpa using e2

theorem drewN_add (w : World) (a b : Nat) : (w.drewN a).drewN b = w.drewN (a + b) := by
  simp [World.drewN, Nat.add_assoc]
theorem same_yes (a b : Option Addr) (len cap cap' : Nat) (n₀ : Nat) (ws : List Nat) (w : World) (hl : len ≤ 9223372036854775807) (hA : Wd n₀ w a len cap ws) (hB : Wd n₀ w b len cap' ws) :
    Calls Try.prog 12 #[.slice a len cap, .slice b len cap'] w fun e w' => e = .returned (.bool true) ∧ ∃ n, w' = w.drewN n := by
  have HA := hid hA
  have HB := hid hB
  clear hA hB
  go_enter Try.func12, Try.ntmps12
  go_wp2_with fail
  go_loopw [5] (fun iv wr => ∃ k n : Nat, k ≤ len ∧ iv = .int .i64 (k : Int) ∧ Hid (wr = w.drewN n)) (fun iv _ => len - (intOf iv).toNat)
  case atStart => exact ⟨0, 0, by omega, rfl, rfl⟩
  case round =>
    obtain ⟨k, m, hk, rfl, hw⟩ := hrel
    by_cases hlt : k < len
    · obtain ⟨b1, o1, rfl, _, c1⟩ := HA.out.2.2.2.resolve_left (by omega)
      obtain ⟨b2, o2, rfl, _, c2⟩ := HB.out.2.2.2.resolve_left (by omega)
      have t1 := c1 k hlt
      have t2 := c2 k hlt
      clear c1 c2
      have t3 : wr.cell? ⟨b1, o1 + k, none⟩ = some (.int .u64 (ws[k]?.getD 0 : Nat)) := by rw [hw.out]; exact t1
      have t4 : wr.cell? ⟨b2, o2 + k, none⟩ = some (.int .u64 (ws[k]?.getD 0 : Nat)) := by rw [hw.out]; exact t2
      clear t1 t2
      have h3 : (k : Int) < (len : Int) := by omega
      go_wp2_with fail
      go_quiet (fail)
      go_wp2_with fail
      go_roundw
      case rel => exact ⟨k + 1, m + nq, by omega, by go_num, by rw [hw.out]; exact drewN_add _ _ _⟩
      case measure => simp [intOf]; omega
    · obtain rfl : k = len := by omega
      have h3 : ¬ (k : Int) < (k : Int) := by omega
      go_wp2_with fail
      go_ret
      exact ⟨rfl, _, hw.out⟩
end Go.Proofs.Ytflmfjfeeajkfaa
