/- For all words, every place and every burst: ChecksumBursts returns true and leaves its argument as it was. No condition. -/
import Derived.Test.YtdkpjfjmccgaoaaRows
import Derived.WalkKit
import Derived.ProofKit
import Derived.OpenShut
import Derived.ShutString
import Derived.ChangeOld
import Derived.Below
import Derived.Carry
import Derived.Test.YtdkpjfjmccgaoaaC
import Derived.Test.YtdkpjfjmccgaoaaD
import Derived.Test.YtdkpjfjmccgaoaaI
import Derived.Test.YtdkpjfjmccgaoaaM
import Derived.Test.YtdkpjfjmccgaoaaE
import Derived.Test.YtdkpjfjmccgaoaaX
import Derived.Test.YtdkpjfjmccgaoaaF
import Derived.Test.YtdkpjfjmccgaoaaG
import Derived.Test.YtdkpjfjmccgaoaaH
import Derived.Test.YtdkpjfjmccgaoaaQ
import Derived.Test.YtdkpjfjmccgaoaaN
import Derived.Test.YtdkpjfjmccgaoaaK
import Derived.BigQuiet
import Derived.Deep.QuietTactic
namespace Go.Proofs.Ytdkpjfjmccgaoaa.checksumBursts
open Go.ChangeShapes Go.WideShapes Go.ChangeAt Go.RowKit
open Go.ChangeMaps (open_string shut_string)
set_option linter.unusedVariables false

theorem own : ownKnob Try.prog.godebug = none := by kernel_rfl
theorem laidOut : laidOutB Try.prog = true := by kernel_rfl

theorem all_succ {p : Nat → Prop} (i : Nat) : (∀ j, j < i + 1 → p j) ↔ (∀ j, j < i → p j) ∧ p i :=
  ⟨fun h => ⟨fun j hj => h j (by omega), h i (by omega)⟩, fun h j hj => by
    by_cases e : j = i
    · subst e; exact h.2
    · exact h.1 j (by omega)⟩
theorem int_beq (x y : Nat) : ((x : Int) == (y : Int)) = decide (x = y) := by
  by_cases h : x = y
  · subst h; simp
  · rw [decide_eq_false h]; simp; omega
theorem below_dr {w : World} {base : Nat} {e : TypeId} {size : Nat} {v : Value} {n : Nat} {xs : List Value} {k : Nat} (h : w.ownsRow base e size v n xs) : Hid ((w.drewN k).ownsRow base e size v n xs) := h
theorem below_dr2 {B : Nat} {a w : World} {n : Nat} (h : Below B a w) : Hid (Below B a (w.drewN n)) := ⟨h.os, h.tape, h.output, h.size, h.block⟩

set_option maxHeartbeats 4000000 in
theorem walk (a0 : Option Addr) (len0 cap0 : Nat) (z0 : List Int) (a1 a2 : Int) (w : World) (w0 : IsRow .u64 w a0 len0 cap0 z0) (w1 : (Lit.int .i64 a1).wf = true) (w2 : (Lit.int .u32 a2).wf = true) :
    Calls Try.prog 7 #[.slice a0 len0 cap0, .int .i64 a1, .int .u32 a2] w fun e w' => e = .returned (.bool true) ∧ Below w.heap.size w w' := by
  obtain ⟨b, rfl, hb⟩ : ∃ a : Nat, a2 = a ∧ a < 2 ^ 32 := by simp [Lit.wf, IntKind.min, IntKind.max, IntKind.signed, IntKind.bits] at w2; exact ⟨a2.toNat, by omega, by omega⟩
  obtain ⟨i0, hi, hz0, hz1, hz2⟩ := info_parts Try.info33
  have HI := hid hi; have HZ0 := hid hz0; have HZ1 := hid hz1; have HZ2 := hid hz2
  clear hi hz0 hz1 hz2
  obtain ⟨hA, _⟩ := wo_of w0
  obtain ⟨sA, lA⟩ := src_of w0
  generalize z0.map Int.toNat = A at hA sA lA
  have HA := hid hA
  have HB := hid hb
  have W1 := hid w1
  clear w0 w1 w2 hA hb
  by_cases h0 : (len0 : Int) < 1
  · go_enter Try.func7, Try.ntmps7
    go_wp2_with fail
    refine (awake_ok _).mono ?_
    rintro e w4 ⟨rfl, hb4⟩
    go_wp2_with fail
    go_ret
    exact ⟨rfl, hb4⟩
  · by_cases h1 : 40 < (len0 : Int)
    · go_enter Try.func7, Try.ntmps7
      go_wp2_with fail
      refine (awake_ok _).mono ?_
      rintro e w4 ⟨rfl, hb4⟩
      go_wp2_with fail
      go_ret
      exact ⟨rfl, hb4⟩
    · by_cases h2 : (b : Int) = 0
      · have h2' : ((b : Int) == 0) = true := by simp [h2]
        go_enter Try.func7, Try.ntmps7
        go_wp2_with fail
        refine (awake_ok _).mono ?_
        rintro e w4 ⟨rfl, hb4⟩
        go_wp2_with fail
        go_ret
        exact ⟨rfl, hb4⟩
      · have h2' : ((b : Int) == 0) = false := by simpa using h2
        have m1 := Int.tmod_lt_of_pos a1 (show (0 : Int) < 64 * (len0 : Int) by omega)
        have m2 := Int.lt_tmod_of_pos a1 (show (0 : Int) < 64 * (len0 : Int) by omega)
        generalize hM : a1.tmod (64 * (len0 : Int)) = M at m1 m2
        obtain ⟨k, hk, hkl⟩ : ∃ k : Nat, (M + 64 * (len0 : Int)).tmod (64 * (len0 : Int)) = k ∧ k < 64 * len0 := by
          have e1 := Int.tmod_eq_emod_of_nonneg (b := 64 * (len0 : Int)) (show 0 ≤ M + 64 * (len0 : Int) by omega)
          have e2 := Int.emod_nonneg (M + 64 * (len0 : Int)) (show (64 * (len0 : Int)) ≠ 0 by omega)
          have e3 := Int.emod_lt_of_pos (M + 64 * (len0 : Int)) (show 0 < (64 * (len0 : Int)) by omega)
          exact ⟨((M + 64 * (len0 : Int)) % (64 * (len0 : Int))).toNat, by omega, by omega⟩
        have LA := hid (show (vs (A.take len0)).length = len0 * 1 by simp [vs]; omega)
        have C1 := hid (show 0 + len0 ≤ maxLen by unfold maxLen; omega)
        have C2 := hid (show (0 + len0) * 8 ≤ 140737488355328 by omega)
        have O1 := hid (one_of (A.take len0))
        have SA := hid sA
        clear sA
        have d0 : (64 * (len0 : Int)) ≠ 0 := by omega
        go_enter Try.func7, Try.ntmps7
        go_wp2_with (first | (at_builtin; refine wpList_append_src _ rfl (.const (.slice none 0 0)) _ 23 rfl w.heap.size 33 i0 (.int .u64 0) 1 8 Try.underlying23 HI.out HZ0.out HZ1.out HZ2.out rfl (by decide) (.slice none 0 0) 0 [] rfl (World.ownsRow_nil _ _ _ _) _ _ _ _ rfl (SA.out _ (Below.refl _ _)) LA.out O1.out C1.out C2.out (Nat.le_refl _) ?_; intro v3 w3 hown3 hgrow3; simp only [Nat.zero_add, List.nil_append] at hown3; have hb3 := hid ((Below.refl w.heap.size w).grown hgrow3 (Nat.le_refl _) (fun k e => by simp [Value.ownBlock] at e))))
        obtain ⟨g, cap, rfl⟩ := Go.Joins.ownsRow_form hown3 (by omega)
        obtain ⟨q, r, hqr, hr, hq⟩ : ∃ q r : Nat, k = 64 * q + r ∧ r < 64 ∧ q < len0 := ⟨k / 64, k % 64, by omega, by omega, by omega⟩
        have q1 : (k : Int).tdiv 64 = (q : Int) := by rw [Int.tdiv_eq_ediv_of_nonneg (by omega)]; omega
        have r1 : (k : Int).tmod 64 = (r : Int) := by rw [Int.tmod_eq_emod_of_nonneg (by omega)]; omega
        have q2 : (k : Int) / 64 = (q : Int) := by omega
        have r2 : (k : Int) % 64 = (r : Int) := by omega
        have s1 : w3.cell? ⟨g, q, none⟩ = some (.int .u64 (A[q]?.getD 0 : Nat)) := by
          rw [hown3.cellAt q (by omega)]
          simp [vs, List.getElem?_take_of_lt hq, List.getElem?_eq_getElem (show q < A.length by omega)]
        have s2 := hown3.frozenAt q
        have q3 : (q : Int) < (len0 : Int) := by omega
        have wq : IntKind.i64.wrap (q : Int) = (q : Int) := IntWalk.i64_in _ (by omega)
        have wr : IntKind.i64.wrap (r : Int) = (r : Int) := IntWalk.i64_in _ (by omega)
        have r3 : 0 ≤ (r : Int) := by omega
        have wv := burst_low (A[q]?.getD 0) b r HB.out (HA.out.1 q hq)
        have wvl := Nat.mod_lt (b * 2 ^ r) (show 2 ^ 64 > 0 by omega)
        generalize hv : b * 2 ^ r % 2 ^ 64 = v at wv wvl
        have HV := hid hv
        have HVL := hid wvl
        clear hv wvl
        have HOWN3 := hid hown3
        have HG3 := hid hgrow3
        have HK := hid hkl
        have HQR := hid hqr
        clear hown3 hgrow3 hkl hqr hM hk m1 m2 d0
        go_still_tail 12, (by kernel_rfl)
        repeat still_step
        change wpList _ _ _ _ _ w3.drew
        have HD3 := hid HOWN3.out.drew
        have hb4 : Hid (Below w.heap.size w w3.drew) := hid hb3.out.drew
        have s3 : w3.drew.frozen? ⟨g, q, none⟩ = false := s2
        have s4 : w3.drew.cell? ⟨g, q, none⟩ = some (.int .u64 (A[q]?.getD 0 : Nat)) := s1
        clear s1 s2 hb3 HOWN3 HG3
        generalize w3.drew = w4 at *
        have HBL := hid (show (A.take len0).length = len0 by simp; omega)
        have HBW := hid (take_lt HA.out.1)
        have HEX := hid (show ext 0 (A.take len0) len0 = ext 0 A len0 from ext_congr 0 _ _ _ (fun j hj => take_at A len0 j hj))
        have HBA := hid (fun j (hj : j < len0) => take_at A len0 j hj)
        rw [← take_at A len0 q hq] at wv s4 ⊢
        generalize A.take len0 = B at *
        have HD5 := hid (HD3.out.stored q (.int .u64 ((B[q]?.getD 0 ^^^ v : Nat) : Int))).1
        rw [vs_set] at HD5
        have hb5 := hid (hb4.out.setCell (p := ⟨g, q, none⟩) ((HD3.out.lt g rfl).1) (.int .u64 ((B[q]?.getD 0 ^^^ v : Nat) : Int)))
        have HQ := hid (show q < B.length by have := HBL.out; omega)
        rcases Nat.lt_or_ge (q + 1) len0 with c1 | c1
        · have c2 : (q : Int) + 1 < (len0 : Int) := by omega
          have HQ1 := hid (show q + 1 < B.length by have := HBL.out; omega)
          have hh := hid (high_lt b r HB.out hr)
          have hz := hid (high_zero b r HB.out)
          have he := hid (high_eq b r hr)
          have HST := hid (fun ys h => same_two B ys len0 q b r HB.out hr (by simpa using h2) c1 h)
          rw [HV.out] at HST
          generalize b * 2 ^ r / 2 ^ 64 = v2 at *
          by_cases c3 : 32 < r
          · have c4 : 32 < (r : Int) := by omega
            have wq1 : IntKind.i64.wrap ((q : Int) + 1) = (q : Int) + 1 := IntWalk.i64_in _ (by omega)
            have wr1 : IntKind.i64.wrap (64 - (r : Int)) = 64 - (r : Int) := IntWalk.i64_in _ (by omega)
            have wr2 : 0 ≤ 64 - (r : Int) := by omega
            have wq3 : 0 ≤ (q : Int) + 1 := by omega
            have wq4 : wrap64 ((q : Int) + 1) = (q : Int) + 1 := IntWalk.wrap64_in _ (by omega)
            have wr4 : wrap64 (64 - (r : Int)) = 64 - (r : Int) := IntWalk.wrap64_in _ (by omega)
            have wr3 : (64 - (r : Int)).toNat = 64 - r := by omega
            have wq2 : ((q : Int) + 1).toNat = q + 1 := Int.toNat_natCast (q + 1)
            have wv2 : bits .xor .u64 ((B[q + 1]?.getD 0 : Nat) : Int) (IntKind.u64.wrap (b : Int) / 2 ^ (64 - r)) = ((B[q + 1]?.getD 0 ^^^ v2 : Nat) : Int) := by
              have e1 : IntKind.u64.wrap (b : Int) = (b : Int) := by have := HB.out; simp [IntKind.wrap, IntKind.bits, IntKind.signed]; omega
              have e2 : (b : Int) / 2 ^ (64 - r) = (v2 : Int) := by
                rw [he.out, Int.natCast_ediv, Int.natCast_pow]; rfl
              rw [e1, e2, u64_xor_nat _ _ (HBW.out (q + 1) c1) hh.out]
            have HH := hh
            clear he hz hh
            go_wp2_with fail
            generalize w4.setCell _ _ = w5 at HD5 hb5 ⊢
            have t1 := own_at HD5.out (q + 1) c1
            rw [set_at _ _ _ _ HQ.out, if_neg (by omega)] at t1
            have t2 := HD5.out.frozenAt (q + 1)
            go_still_tail 14, (by kernel_rfl)
            repeat still_step
            change wpList _ _ _ _ _ w5.drew
            have t3 : w5.drew.cell? ⟨g, q + 1, none⟩ = some (.int .u64 ((B[q + 1]?.getD 0 : Nat) : Int)) := t1
            have t4 : w5.drew.frozen? ⟨g, q + 1, none⟩ = false := t2
            have HD6 := hid (HD5.out.drew.stored (q + 1) (.int .u64 ((B[q + 1]?.getD 0 ^^^ v2 : Nat) : Int))).1
            rw [vs_set] at HD6
            have hb6 := hid (hb5.out.drew.setCell (p := ⟨g, q + 1, none⟩) ((HD5.out.lt g rfl).1) (.int .u64 ((B[q + 1]?.getD 0 ^^^ v2 : Nat) : Int)))
            clear t1 t2 HD5 hb5
            generalize w5.drew = w5' at *
            go_wp2_with fail
            generalize w5'.setCell _ _ = w6 at HD6 hb6 ⊢
            have HJ := hid (show ∀ j, ((B.set q (B[q]?.getD 0 ^^^ v)).set (q + 1) (B[q + 1]?.getD 0 ^^^ v2))[j]?.getD 0 = if j = q then B[j]?.getD 0 ^^^ v else if j = q + 1 then B[j]?.getD 0 ^^^ v2 else B[j]?.getD 0 from fun j => by
              rw [set_at _ _ _ _ (by rw [List.length_set]; exact HQ1.out), set_at _ _ _ _ HQ.out]
              by_cases e1 : j = q + 1
              · subst e1; simp
              · rw [if_neg e1, if_neg e1]
                by_cases e2 : j = q
                · subst e2; simp
                · rw [if_neg e2, if_neg e2])
            have HY := hid (HST.out _ HJ.out)
            have HYW := hid (show ∀ j, j < len0 → ((B.set q (B[q]?.getD 0 ^^^ v)).set (q + 1) (B[q + 1]?.getD 0 ^^^ v2))[j]?.getD 0 < 18446744073709551616 from fun j hj => by
              rw [HJ.out]
              have := HBW.out j hj
              split
              · exact Nat.xor_lt_two_pow (n := 64) this HVL.out
              · split
                · exact Nat.xor_lt_two_pow (n := 64) this HH.out
                · exact this)
            clear HJ t3 t4
            generalize (B.set q (B[q]?.getD 0 ^^^ v)).set (q + 1) (B[q + 1]?.getD 0 ^^^ v2) = ys at *
            clear HD3 hb4 s3 s4 wv
            rw [HEX.out] at HY
            have HYB := hid (show (∀ j, j < len0 → ys[j]?.getD 0 = B[j]?.getD 0) ↔ (∀ j, j < len0 → ys[j]?.getD 0 = A[j]?.getD 0) from ⟨fun h j hj => (h j hj).trans (HBA.out j hj), fun h j hj => (h j hj).trans (HBA.out j hj).symm⟩)
            rw [HYB.out] at HY
            clear HYB HBA HEX HBW HBL
            go_loopw [9, 10] (fun sv iv wr => ∃ i : Nat, i ≤ len0 ∧ iv = .int .i64 (i : Int) ∧ sv = .bool (decide (∀ j, j < i → ys[j]?.getD 0 = A[j]?.getD 0)) ∧ Hid (wr.ownsRow w.heap.size 33 1 (.slice (some ⟨g, 0, none⟩) len0 cap) len0 (vs ys)) ∧ Hid (Below w.heap.size w wr)) (fun _ iv _ => len0 - (intOf iv).toNat)
            case atStart => exact ⟨0, by omega, rfl, by simp, HD6, hb6⟩
            case round =>
              obtain ⟨i, hi, rfl, rfl, HD, hbw⟩ := hrel
              by_cases hlt : i < len0
              · have hlt2 : (i : Int) < (len0 : Int) := by omega
                have t1 := own_at HD.out i hlt
                obtain ⟨b0, off0, rfl, _, hall⟩ := (Wo.kept HA.out hbw.out).2.resolve_left (by omega)
                have t2 := hall i hlt
                clear hall
                have HSU := hid (show (∀ j, j < i + 1 → ys[j]?.getD 0 = A[j]?.getD 0) ↔ (∀ j, j < i → ys[j]?.getD 0 = A[j]?.getD 0) ∧ ys[i]?.getD 0 = A[i]?.getD 0 from all_succ i)
                by_cases hs : ∀ j, j < i → ys[j]?.getD 0 = A[j]?.getD 0
                · have hd := decide_eq_true hs
                  have hd2 := hid (show decide (∀ j, j < i + 1 → ys[j]?.getD 0 = A[j]?.getD 0) = (((ys[i]?.getD 0 : Nat) : Int) == ((A[i]?.getD 0 : Nat) : Int)) by rw [int_beq]; exact decide_eq_decide.2 (HSU.out.trans ⟨fun h => h.2, fun h => ⟨hs, h⟩⟩))
                  rw [hd]
                  clear hd hs HSU
                  generalize ys[i]?.getD 0 = y at t1 hd2
                  generalize A[i]?.getD 0 = x at t2 hd2
                  go_wp2_with fail
                  go_quiet (fail)
                  go_wp2_with fail
                  go_roundw
                  case rel => exact ⟨i + 1, by omega, by go_num, by rw [hd2.out], below_dr HD.out, below_dr2 hbw.out⟩
                  case measure => simp [intOf]; omega
                · have hd := decide_eq_false hs
                  have hd2 := hid (show decide (∀ j, j < i + 1 → ys[j]?.getD 0 = A[j]?.getD 0) = false from decide_eq_false (fun h => hs (HSU.out.1 h).1))
                  rw [hd]
                  clear hd hs HSU t1 t2
                  go_wp2_with fail
                  go_quiet (fail)
                  go_wp2_with fail
                  go_roundw
                  case rel => exact ⟨i + 1, by omega, by go_num, by rw [hd2.out], below_dr HD.out, below_dr2 hbw.out⟩
                  case measure => simp [intOf]; omega
              · obtain rfl : i = len0 := by omega
                have hlt2 : ¬ (i : Int) < (i : Int) := by omega
                have hr0 : i * 8 ≤ 140737488351232 := by omega
                have HW1 := hid (own_wo HD.out HYW.out)
                go_wp2_with fail
                refine (words_ok _ _ _ _ hr0 _ HW1.out).mono ?_
                rintro e w7 ⟨rfl, hb7⟩
                have HB7 := hid (bt hbw.out hb7)
                clear hb7
                have HW2 := hid (Wo.kept HA.out HB7.out)
                go_wp2_with fail
                refine (words_ok _ _ _ _ hr0 _ HW2.out).mono ?_
                rintro e w8 ⟨rfl, hb8⟩
                have HB8 := hid (bt HB7.out hb8)
                clear hb8
                have he : (((ext 0 ys i : Nat) : Int) == ((ext 0 A i : Nat) : Int)) = decide (∀ j, j < i → ys[j]?.getD 0 = A[j]?.getD 0) := by rw [int_beq]; exact decide_eq_decide.2 HY.out
                generalize decide (∀ j, j < i → ys[j]?.getD 0 = A[j]?.getD 0) = sm at *
                go_wp2_with fail
                refine (awake_ok _).mono ?_
                rintro e w9 ⟨rfl, hb9⟩
                go_wp2_with fail
                go_ret
                exact ⟨rfl, bt HB8.out hb9⟩
          · have c4 : ¬ 32 < (r : Int) := by omega
            obtain rfl := hz.out (by omega)
            have HJ := hid (show ∀ j, (B.set q (B[q]?.getD 0 ^^^ v))[j]?.getD 0 = if j = q then B[j]?.getD 0 ^^^ v else if j = q + 1 then B[j]?.getD 0 ^^^ 0 else B[j]?.getD 0 from fun j => by
              rw [set_at _ _ _ _ HQ.out]
              by_cases e2 : j = q
              · subst e2; simp
              · rw [if_neg e2, if_neg e2]; simp)
            have HY := hid (HST.out _ HJ.out)
            have HYW := hid (show ∀ j, j < len0 → (B.set q (B[q]?.getD 0 ^^^ v))[j]?.getD 0 < 18446744073709551616 from fun j hj => by
              rw [HJ.out]
              have := HBW.out j hj
              split
              · exact Nat.xor_lt_two_pow (n := 64) this HVL.out
              · simpa using this)
            clear HJ
            have HD6 := HD5
            have hb6 := hb5
            clear HD5 hb5 he hz hh
            go_wp2_with fail
            generalize w4.setCell _ _ = w6 at HD6 hb6 ⊢
            generalize (B.set q (B[q]?.getD 0 ^^^ v)) = ys at *
            clear HD3 hb4 s3 s4 wv
            rw [HEX.out] at HY
            have HYB := hid (show (∀ j, j < len0 → ys[j]?.getD 0 = B[j]?.getD 0) ↔ (∀ j, j < len0 → ys[j]?.getD 0 = A[j]?.getD 0) from ⟨fun h j hj => (h j hj).trans (HBA.out j hj), fun h j hj => (h j hj).trans (HBA.out j hj).symm⟩)
            rw [HYB.out] at HY
            clear HYB HBA HEX HBW HBL
            go_loopw [9, 10] (fun sv iv wr => ∃ i : Nat, i ≤ len0 ∧ iv = .int .i64 (i : Int) ∧ sv = .bool (decide (∀ j, j < i → ys[j]?.getD 0 = A[j]?.getD 0)) ∧ Hid (wr.ownsRow w.heap.size 33 1 (.slice (some ⟨g, 0, none⟩) len0 cap) len0 (vs ys)) ∧ Hid (Below w.heap.size w wr)) (fun _ iv _ => len0 - (intOf iv).toNat)
            case atStart => exact ⟨0, by omega, rfl, by simp, HD6, hb6⟩
            case round =>
              obtain ⟨i, hi, rfl, rfl, HD, hbw⟩ := hrel
              by_cases hlt : i < len0
              · have hlt2 : (i : Int) < (len0 : Int) := by omega
                have t1 := own_at HD.out i hlt
                obtain ⟨b0, off0, rfl, _, hall⟩ := (Wo.kept HA.out hbw.out).2.resolve_left (by omega)
                have t2 := hall i hlt
                clear hall
                have HSU := hid (show (∀ j, j < i + 1 → ys[j]?.getD 0 = A[j]?.getD 0) ↔ (∀ j, j < i → ys[j]?.getD 0 = A[j]?.getD 0) ∧ ys[i]?.getD 0 = A[i]?.getD 0 from all_succ i)
                by_cases hs : ∀ j, j < i → ys[j]?.getD 0 = A[j]?.getD 0
                · have hd := decide_eq_true hs
                  have hd2 := hid (show decide (∀ j, j < i + 1 → ys[j]?.getD 0 = A[j]?.getD 0) = (((ys[i]?.getD 0 : Nat) : Int) == ((A[i]?.getD 0 : Nat) : Int)) by rw [int_beq]; exact decide_eq_decide.2 (HSU.out.trans ⟨fun h => h.2, fun h => ⟨hs, h⟩⟩))
                  rw [hd]
                  clear hd hs HSU
                  generalize ys[i]?.getD 0 = y at t1 hd2
                  generalize A[i]?.getD 0 = x at t2 hd2
                  go_wp2_with fail
                  go_quiet (fail)
                  go_wp2_with fail
                  go_roundw
                  case rel => exact ⟨i + 1, by omega, by go_num, by rw [hd2.out], below_dr HD.out, below_dr2 hbw.out⟩
                  case measure => simp [intOf]; omega
                · have hd := decide_eq_false hs
                  have hd2 := hid (show decide (∀ j, j < i + 1 → ys[j]?.getD 0 = A[j]?.getD 0) = false from decide_eq_false (fun h => hs (HSU.out.1 h).1))
                  rw [hd]
                  clear hd hs HSU t1 t2
                  go_wp2_with fail
                  go_quiet (fail)
                  go_wp2_with fail
                  go_roundw
                  case rel => exact ⟨i + 1, by omega, by go_num, by rw [hd2.out], below_dr HD.out, below_dr2 hbw.out⟩
                  case measure => simp [intOf]; omega
              · obtain rfl : i = len0 := by omega
                have hlt2 : ¬ (i : Int) < (i : Int) := by omega
                have hr0 : i * 8 ≤ 140737488351232 := by omega
                have HW1 := hid (own_wo HD.out HYW.out)
                go_wp2_with fail
                refine (words_ok _ _ _ _ hr0 _ HW1.out).mono ?_
                rintro e w7 ⟨rfl, hb7⟩
                have HB7 := hid (bt hbw.out hb7)
                clear hb7
                have HW2 := hid (Wo.kept HA.out HB7.out)
                go_wp2_with fail
                refine (words_ok _ _ _ _ hr0 _ HW2.out).mono ?_
                rintro e w8 ⟨rfl, hb8⟩
                have HB8 := hid (bt HB7.out hb8)
                clear hb8
                have he : (((ext 0 ys i : Nat) : Int) == ((ext 0 A i : Nat) : Int)) = decide (∀ j, j < i → ys[j]?.getD 0 = A[j]?.getD 0) := by rw [int_beq]; exact decide_eq_decide.2 HY.out
                generalize decide (∀ j, j < i → ys[j]?.getD 0 = A[j]?.getD 0) = sm at *
                go_wp2_with fail
                refine (awake_ok _).mono ?_
                rintro e w9 ⟨rfl, hb9⟩
                go_wp2_with fail
                go_ret
                exact ⟨rfl, bt HB8.out hb9⟩
        · have c2 : ¬ (q : Int) + 1 < (len0 : Int) := by omega
          have HJ := hid (show ∀ j, (B.set q (B[q]?.getD 0 ^^^ v))[j]?.getD 0 = if j = q then B[j]?.getD 0 ^^^ v else B[j]?.getD 0 from fun j => by
            rw [set_at _ _ _ _ HQ.out]
            by_cases e2 : j = q
            · subst e2; simp
            · rw [if_neg e2, if_neg e2])
          have HY := hid (same_one B _ len0 q b r HB.out hr (by omega) (fun j => by rw [HV.out]; exact HJ.out j))
          have HYW := hid (show ∀ j, j < len0 → (B.set q (B[q]?.getD 0 ^^^ v))[j]?.getD 0 < 18446744073709551616 from fun j hj => by
            rw [HJ.out]
            have := HBW.out j hj
            split
            · exact Nat.xor_lt_two_pow (n := 64) this HVL.out
            · exact this)
          clear HJ
          have HD6 := HD5
          have hb6 := hb5
          clear HD5 hb5
          go_wp2_with fail
          generalize w4.setCell _ _ = w6 at HD6 hb6 ⊢
          generalize (B.set q (B[q]?.getD 0 ^^^ v)) = ys at *
          clear HD3 hb4 s3 s4 wv
          rw [HEX.out] at HY
          have HYB := hid (show (∀ j, j < len0 → ys[j]?.getD 0 = B[j]?.getD 0) ↔ (∀ j, j < len0 → ys[j]?.getD 0 = A[j]?.getD 0) from ⟨fun h j hj => (h j hj).trans (HBA.out j hj), fun h j hj => (h j hj).trans (HBA.out j hj).symm⟩)
          rw [HYB.out] at HY
          clear HYB HBA HEX HBW HBL
          go_loopw [9, 10] (fun sv iv wr => ∃ i : Nat, i ≤ len0 ∧ iv = .int .i64 (i : Int) ∧ sv = .bool (decide (∀ j, j < i → ys[j]?.getD 0 = A[j]?.getD 0)) ∧ Hid (wr.ownsRow w.heap.size 33 1 (.slice (some ⟨g, 0, none⟩) len0 cap) len0 (vs ys)) ∧ Hid (Below w.heap.size w wr)) (fun _ iv _ => len0 - (intOf iv).toNat)
          case atStart => exact ⟨0, by omega, rfl, by simp, HD6, hb6⟩
          case round =>
            obtain ⟨i, hi, rfl, rfl, HD, hbw⟩ := hrel
            by_cases hlt : i < len0
            · have hlt2 : (i : Int) < (len0 : Int) := by omega
              have t1 := own_at HD.out i hlt
              obtain ⟨b0, off0, rfl, _, hall⟩ := (Wo.kept HA.out hbw.out).2.resolve_left (by omega)
              have t2 := hall i hlt
              clear hall
              have HSU := hid (show (∀ j, j < i + 1 → ys[j]?.getD 0 = A[j]?.getD 0) ↔ (∀ j, j < i → ys[j]?.getD 0 = A[j]?.getD 0) ∧ ys[i]?.getD 0 = A[i]?.getD 0 from all_succ i)
              by_cases hs : ∀ j, j < i → ys[j]?.getD 0 = A[j]?.getD 0
              · have hd := decide_eq_true hs
                have hd2 := hid (show decide (∀ j, j < i + 1 → ys[j]?.getD 0 = A[j]?.getD 0) = (((ys[i]?.getD 0 : Nat) : Int) == ((A[i]?.getD 0 : Nat) : Int)) by rw [int_beq]; exact decide_eq_decide.2 (HSU.out.trans ⟨fun h => h.2, fun h => ⟨hs, h⟩⟩))
                rw [hd]
                clear hd hs HSU
                generalize ys[i]?.getD 0 = y at t1 hd2
                generalize A[i]?.getD 0 = x at t2 hd2
                go_wp2_with fail
                go_quiet (fail)
                go_wp2_with fail
                go_roundw
                case rel => exact ⟨i + 1, by omega, by go_num, by rw [hd2.out], below_dr HD.out, below_dr2 hbw.out⟩
                case measure => simp [intOf]; omega
              · have hd := decide_eq_false hs
                have hd2 := hid (show decide (∀ j, j < i + 1 → ys[j]?.getD 0 = A[j]?.getD 0) = false from decide_eq_false (fun h => hs (HSU.out.1 h).1))
                rw [hd]
                clear hd hs HSU t1 t2
                go_wp2_with fail
                go_quiet (fail)
                go_wp2_with fail
                go_roundw
                case rel => exact ⟨i + 1, by omega, by go_num, by rw [hd2.out], below_dr HD.out, below_dr2 hbw.out⟩
                case measure => simp [intOf]; omega
            · obtain rfl : i = len0 := by omega
              have hlt2 : ¬ (i : Int) < (i : Int) := by omega
              have hr0 : i * 8 ≤ 140737488351232 := by omega
              have HW1 := hid (own_wo HD.out HYW.out)
              go_wp2_with fail
              refine (words_ok _ _ _ _ hr0 _ HW1.out).mono ?_
              rintro e w7 ⟨rfl, hb7⟩
              have HB7 := hid (bt hbw.out hb7)
              clear hb7
              have HW2 := hid (Wo.kept HA.out HB7.out)
              go_wp2_with fail
              refine (words_ok _ _ _ _ hr0 _ HW2.out).mono ?_
              rintro e w8 ⟨rfl, hb8⟩
              have HB8 := hid (bt HB7.out hb8)
              clear hb8
              have he : (((ext 0 ys i : Nat) : Int) == ((ext 0 A i : Nat) : Int)) = decide (∀ j, j < i → ys[j]?.getD 0 = A[j]?.getD 0) := by rw [int_beq]; exact decide_eq_decide.2 HY.out
              generalize decide (∀ j, j < i → ys[j]?.getD 0 = A[j]?.getD 0) = sm at *
              go_wp2_with fail
              refine (awake_ok _).mono ?_
              rintro e w9 ⟨rfl, hb9⟩
              go_wp2_with fail
              go_ret
              exact ⟨rfl, bt HB8.out hb9⟩

set_option maxRecDepth 100000 in
theorem lifted (os : Os) (started : os.Started) (H : Type) (enc : TypeId × Value → H) :
    ReturnsInHanded {} Try.checked os 7 .any (Rows.checksumBurstsSpec.pre6 enc Try.prog Try.f7 Rows.checksumBurstsRow.domain false) (Rows.checksumBurstsSpec.post enc Try.prog Try.f7 false true false false) := by
  refine returnsInHanded_of_change (C := Try.checked) own started (by kernel_rfl) Try.func7
    (ChangeSpec.witness6 (enc := enc) (C := Try.checked) false ⟨#[], #[.slice none 0 0, .int .i64 0, .int .u32 0], []⟩ 8 (by kernel_rfl) (by kernel_rfl) (by kernel_rfl) (by kernel_rfl)) ?_
  intro W base args ds gs before hval0 hW hcnd _
  have hval : ∀ (j : Nat) t v, Try.f7.params[j]? = some t → args[j]? = some v → Value.okWide Try.prog W .any base t v := hval0
  have hW' := hW
  obtain ⟨p, q, hA0, hV, rfl, hfz, hnd⟩ := hW
  have hA : DataW.TrodAll enc Try.prog W 0 (fun _ => true) true Try.f7.params.toList args.toList ds p := hA0
  rw [Try.params7] at hA hval
  obtain ⟨v0, vs0, d0, ds0, p0, q0, hargs, rfl, rfl, h0, r0⟩ := trodAll_cons hA
  obtain ⟨v1, vs1, d1, ds1, p1, q1, rfl, rfl, rfl, h1, r1⟩ := trodAll_cons r0
  obtain ⟨v2, vs2, d2, ds2, p2, q2, rfl, rfl, rfl, h2, r2⟩ := trodAll_cons r1
  obtain ⟨rfl, rfl, rfl⟩ := trodAll_nil r2
  obtain rfl : args = #[v0, v1, v2] := by cases args; simp_all
  obtain ⟨rfl, rfl⟩ := trodVars_none hV
  obtain ⟨a0, len0, cap0, rfl⟩ := okWide_slice Try.underlying23 (hval 0 23 v0 rfl rfl)
  have k0 := h0
  have lt0 : ∀ x ∈ p0, x.block < W.heap.size := by obtain ⟨m, hm⟩ := k0; exact DataW.trod_lt m _ _ _ hm
  obtain ⟨z0, w0⟩ : ∃ zs, IsRow .u64 W a0 len0 cap0 zs := by
    obtain ⟨fuel, hf⟩ := h0
    rcases open_ints Try.underlying23 Try.underlying33 (by kernel_rfl) hf with ⟨hcs, _⟩ | ⟨x, l, c, zs, hcs, _, hl, hm, hz, _, hcell, hwz⟩
    · simp [Value.cells] at hcs
      obtain ⟨rfl, rfl, rfl⟩ := hcs
      exact ⟨[], .inl ⟨rfl, rfl, rfl, rfl⟩⟩
    · simp [Value.cells] at hcs
      obtain ⟨rfl, rfl, rfl⟩ := hcs
      exact ⟨zs, .inr ⟨_, rfl, hl, hm, by simpa using hz, hcell, hwz⟩⟩
  obtain ⟨a1, rfl, rfl, rfl, w1⟩ := open_int Try.underlying3 (hval 1 3 v1 rfl rfl) h1
  obtain ⟨a2, rfl, rfl, rfl, w2⟩ := open_int Try.underlying24 (hval 2 24 v2 rfl rfl) h2
  clear hA0 hval0
  refine (walk a0 len0 cap0 z0 a1 a2 W w0 w1 w2).mono fun e W' ⟨he, bel⟩ => ?_
  subst he
  exact ⟨_, rfl, _, _, _, [], _, [], hW', trodAll_mk1 (shut_bool Try.underlying4 _), (trodAll_cons_mk (Below.trod laidOut (by kernel_rfl) (of_decide_eq_true (by kernel_rfl)) k0 bel lt0) (trodAll_cons_mk (shut_int Try.underlying3 w1) (trodAll_cons_mk (shut_int Try.underlying24 w2) trodAll_mk0))), rfl, bel.frame _, fun h => by cases h⟩

theorem over : Rows.checksumBurstsRow.holds Try.pinned (OpenSpec.ofChange Rows.checksumBurstsSpec) :=
  OpenClaim.holds_of_wide 7 Try.f7 rfl rfl rfl rfl rfl rfl rfl ⟨rfl, rfl, rfl, rfl, rfl⟩ rfl rfl rfl rfl rfl (by kernel_rfl) Try.func7 (by kernel_rfl)
    (of_decide_eq_true (by kernel_rfl)) (by unfold Func.isWrapper; first | (rw [if_pos (by decide +kernel)]; kernel_rfl) | (rw [if_neg (by decide +kernel)]; exact ⟨rfl, rfl⟩))
    (fun os started H enc _ => lifted os started H enc)

theorem proved : Rows.ChecksumBurstsSaid := over
#print axioms proved
end Go.Proofs.Ytdkpjfjmccgaoaa.checksumBursts
