/- For all lists l of words, all n, m and is: PackBits returns true and leaves its arguments as they were. No condition. -/
import Derived.Test.YtflmfjfeeajkfaaRows
import Derived.WalkKit
import Derived.ProofKit
import Derived.OpenShut
import Derived.ShutString
import Derived.ChangeOld
import Derived.Below
import Derived.Carry
import Derived.Test.YtflmfjfeeajkfaaA
import Derived.Test.YtflmfjfeeajkfaaU
namespace Go.Proofs.Ytflmfjfeeajkfaa.packBits
open Go.ChangeShapes Go.WideShapes Go.ChangeAt Go.RowKit
open Go.ChangeMaps (open_string shut_string)
set_option linter.unusedVariables false

theorem own : ownKnob Try.prog.godebug = none := by kernel_rfl
theorem laidOut : laidOutB Try.prog = true := by kernel_rfl

set_option linter.unusedSimpArgs false
theorem below_drewN (k : Nat) (w : World) (n : Nat) : Below k w (w.drewN n) := ⟨rfl, rfl, rfl, Nat.le_refl _, fun _ _ => rfl⟩
theorem sames (w0 : World) (a b : Option Addr) (len cap cap' : Nat) (ws : List Nat) (hl : len ≤ 9223372036854775807) (hA : Wd w0.heap.size w0 a len cap ws) (hB : Wd w0.heap.size w0 b len cap' ws) :
    Calls Try.prog 12 #[.slice a len cap, .slice b len cap'] w0 fun e w' => e = .returned (.bool true) ∧ Below w0.heap.size w0 w' :=
  (same_yes a b len cap cap' w0.heap.size ws w0 hl hA hB).mono fun e w' ⟨he, n, hw⟩ => ⟨he, by rw [hw]; exact below_drewN _ _ _⟩
theorem nils (w0 : World) : Calls Try.prog 12 #[.slice none 0 0, .slice none 0 0] w0 fun e w' => e = .returned (.bool true) ∧ Below w0.heap.size w0 w' :=
  sames w0 none none 0 0 0 [] (by omega) ⟨rfl, fun j hj => by omega, fun _ => ⟨rfl, rfl⟩, .inl rfl⟩ ⟨rfl, fun j hj => by omega, fun _ => ⟨rfl, rfl⟩, .inl rfl⟩
/-- what is known of the slice that came in -/
theorem bit_st (a : Option Addr) (len cap k q r : Nat) (ws : List Nat) (is : Bool) (hl : len ≤ 100000) (hk : k = 64 * q + r) (hr : r < 64) (hq : q < len) (hlen : ws.length = len) (hx : ws[q]?.getD 0 < 18446744073709551616) (w : World) (hW : Wd w.heap.size w a len cap (ws.set q (sb (ws[q]?.getD 0) r is))) :
    Calls Try.prog 28 #[.slice a len cap, .int .i64 (k : Int)] w fun e w' => e = .returned (.tuple #[.bool is, .int .i64 0]) ∧ w = w' := by
  refine (bit_any a len cap k _ _ hl (by omega) w hW).mono ?_
  rintro e w' ⟨rfl, rfl⟩
  have hp : hasP len (k : Int) := ⟨by omega, by omega⟩
  refine ⟨?_, rfl⟩
  unfold bitV bitE
  rw [if_pos hp, if_pos hp, show ((k : Int) / 64).toNat = q by omega, show ((k : Int) % 64).toNat = r by omega, set_getD _ _ _ _ (by omega), if_pos rfl, sb_bit _ _ _ hx hr, if_pos rfl]
theorem bit_nil (z : Int) (hz : z ≤ 9223372036854775807) (w : World) :
    Calls Try.prog 28 #[.slice none 0 0, .int .i64 z] w fun e w' => e = .returned (.tuple #[.bool false, .int .i64 1]) ∧ w = w' := by
  refine (bit_any none 0 0 z [] 0 (by omega) hz w ⟨rfl, fun j hj => by omega, fun _ => ⟨rfl, rfl⟩, .inl rfl⟩).mono ?_
  rintro e w' ⟨rfl, rfl⟩
  have hp : ¬ hasP 0 z := by unfold hasP; omega
  refine ⟨?_, rfl⟩
  unfold bitV bitE
  rw [if_neg hp, if_neg hp]

set_option maxRecDepth 100000 in
set_option maxHeartbeats 1000000 in
theorem walk (a0 : Option Addr) (len0 cap0 : Nat) (z0 : List Int) (a1 a2 : Int) (a3 : Bool) (w : World) (w0 : IsRow .u64 w a0 len0 cap0 z0) (w1 : (Lit.int .i64 a1).wf = true) (w2 : (Lit.int .i64 a2).wf = true) :
    Calls Try.prog 7 #[.slice a0 len0 cap0, .int .i64 a1, .int .i64 a2, .bool a3] w fun e w' => e = .returned (.bool true) ∧ Below w.heap.size w w' := by
  have hw := wd_of w0
  generalize (z0.map Int.toNat).take len0 = ws at hw
  clear w0
  simp [Lit.wf, IntKind.min, IntKind.max, IntKind.signed, IntKind.bits] at w1 w2
  obtain ⟨n1, n2⟩ := w1
  obtain ⟨m1, m2⟩ := w2
  have HW := hid hw
  clear hw
  by_cases h20 : 20 < (len0 : Int)
  · go_enter Try.func7, Try.ntmps7
    go_wp2_with fail
    refine (awake_ok _).mono ?_
    rintro e w1 ⟨rfl, hb1⟩
    go_wp2_with fail
    go_ret
    exact ⟨rfl, hb1⟩
  have t0 : len0 ≤ 20 := by omega
  obtain ⟨r1, hr1⟩ : ∃ r1, a1.tmod (64 * (len0 : Int) + 1) = r1 := ⟨_, rfl⟩
  have r2 : -(64 * (len0 : Int)) ≤ r1 ∧ r1 ≤ 64 * (len0 : Int) := by
    rw [← hr1]
    have h1 := Int.tmod_lt_of_pos a1 (show 0 < 64 * (len0 : Int) + 1 by omega)
    have h2 := Int.tmod_lt_of_pos (-a1) (show 0 < 64 * (len0 : Int) + 1 by omega)
    rw [Int.neg_tmod] at h2
    omega
  obtain ⟨r3, r4⟩ := r2
  obtain ⟨X, hX⟩ : ∃ X, (r1 + 64 * (len0 : Int) + 1).tmod (64 * (len0 : Int) + 1) = X := ⟨_, rfl⟩
  have hX' : (r1 + 64 * (len0 : Int) + 1) % (64 * (len0 : Int) + 1) = X := by rw [← hX, Int.tmod_eq_emod_of_nonneg (by omega)]
  have x1 : X ≤ 64 * (len0 : Int) := by
    rw [← hX']
    have := Int.emod_lt_of_pos (r1 + 64 * (len0 : Int) + 1) (show 0 < 64 * (len0 : Int) + 1 by omega)
    omega
  have x0 : 0 ≤ X := by
    rw [← hX']
    exact Int.emod_nonneg _ (by omega)
  have hne : (64 * (len0 : Int) + 1 == 0) = false := beq_eq_false_iff_ne.2 (by omega)
  go_enter Try.func7, Try.ntmps7
  go_wp2_with fail
  obtain ⟨W1, hW1⟩ : ∃ W1, W1 = w.alloc (Obj.cells #[.int .i64 a1, .int .i64 a2, .int .i64 (64 * (len0 : Int)), .int .i64 X] 3) := ⟨_, rfl⟩
  rw [← hW1]
  have hrow : W1.heap[w.heap.size]? = some (.cells #[.int .i64 a1, .int .i64 a2, .int .i64 (64 * (len0 : Int)), .int .i64 X] 3 (0, 0)) := by rw [hW1]; exact heap_alloc_new _ _
  have HB1 := hid (show Below w.heap.size w W1 by rw [hW1]; exact (Below.refl _ _).alloc (Nat.le_refl _) _)
  have HC := hid (show ∀ i, i < 4 → ∃ z : Int, z ≤ 9223372036854775807 ∧ W1.cell? ⟨w.heap.size, i, none⟩ = some (.int .i64 z) from fun i hi => by
    match i, hi with
    | 0, _ => exact ⟨a1, n2, by rw [cell_of_row _ _ _ _ _ _ hrow]; rfl⟩
    | 1, _ => exact ⟨a2, m2, by rw [cell_of_row _ _ _ _ _ _ hrow]; rfl⟩
    | 2, _ => exact ⟨64 * (len0 : Int), by omega, by rw [cell_of_row _ _ _ _ _ _ hrow]; rfl⟩
    | 3, _ => exact ⟨X, by omega, by rw [cell_of_row _ _ _ _ _ _ hrow]; rfl⟩)
  have HL := hid (Array.getElem?_eq_some_iff.1 hrow).1
  clear hrow hW1 hX hX' hr1 hne
  have HW1 := hid (HW.out.below HB1.out)
  go_loopw [10] (fun iv wr => ∃ i : Nat, i ≤ 4 ∧ iv = .int .i64 (i : Int) ∧ Hid (Below W1.heap.size W1 wr)) (fun iv _ => 4 - (intOf iv).toNat)
  case atStart => exact ⟨0, by omega, rfl, Below.refl _ _⟩
  case round =>
    obtain ⟨i, hi, rfl, HB⟩ := hrel
    by_cases hlt : i < 4
    · obtain ⟨z, hz, hc0⟩ := HC.out i hlt
      have hc : wr.cell? ⟨w.heap.size, i, none⟩ = some (.int .i64 z) := (HB.out.cell (p := ⟨w.heap.size, i, none⟩) HL.out).trans hc0
      have hlt2 : (i : Int) < 4 := by omega
      have HWr := hid ((HW1.out.mono (Nat.le_of_lt HL.out)).kept HB.out)
      have HlenW := hid HW.out.1
      clear hc0
      by_cases hp : hasP len0 z
      · have HX : ∀ q, q < len0 → ws[q]?.getD 0 < 18446744073709551616 := HW.out.2.1
        obtain ⟨h0, h1⟩ := hp
        obtain ⟨k, rfl⟩ := Int.eq_ofNat_of_zero_le h0
        obtain ⟨q, r, hk, hr, hq⟩ : ∃ q r, k = 64 * q + r ∧ r < 64 ∧ q < len0 := ⟨k / 64, k % 64, by omega, by omega, by omega⟩
        have hxq := hid (HX q hq)
        have HK := hid hk
        clear HX hk h1
        go_wp2_with fail
        refine (set_ok _ _ _ k q r ws a3 (by omega) HK.out hr hq _ HWr.out).mono ?_
        rintro e w1 ⟨b1, cap1, rfl, D1, hb1⟩
        have HB1 := hid (HB.out.trans (hb1.mono HB.out.size))
        have hc1 := (hb1.cell (p := ⟨w.heap.size, i, none⟩) (Nat.lt_of_lt_of_le HL.out HB.out.size)).trans hc
        have A1 := hid (HWr.out.kept hb1)
        clear hc hb1 HWr HB
        go_wp2_with fail
        refine (rset_ok _ _ _ k q r ws a3 (by omega) HK.out hr hq _ A1.out).mono ?_
        rintro e w2 ⟨b2, cap2, rfl, D2, hb2⟩
        have HB2 := hid (HB1.out.trans (hb2.mono HB1.out.size))
        have hc2 := (hb2.cell (p := ⟨w.heap.size, i, none⟩) (Nat.lt_of_lt_of_le HL.out HB1.out.size)).trans hc1
        have A2 := hid (A1.out.kept hb2)
        have E1 := hid (D1.out.kept hb2)
        clear hc1 hb2 HB1 A1 D1
        go_wp2_with fail
        refine (bit_st _ _ _ k q r ws a3 (by omega) HK.out hr hq HlenW.out hxq.out _ E1.out).mono ?_
        rintro e w3 ⟨rfl, rfl⟩
        go_wp2_with fail
        refine (sames _ _ _ _ _ _ _ (by omega) E1.out D2.out).mono ?_
        rintro e w3 ⟨rfl, hb3⟩
        have HB3 := hid (HB2.out.trans (hb3.mono HB2.out.size))
        have A3 := hid (A2.out.kept hb3)
        clear hb3 HB2 A2 E1 D2 hc2
        go_wp2_with fail
        go_loopw [17] (fun kv w5 => ∃ k : Nat, k ≤ 4 ∧ kv = .int .i64 (k : Int) ∧ Hid (Below W1.heap.size W1 w5)) (fun kv _ => 4 - (intOf kv).toNat)
        case atStart => exact ⟨0, by omega, rfl, HB3⟩
        case round =>
          obtain ⟨k2, hk2, rfl, HB5⟩ := hrel
          by_cases hl2 : k2 < 4
          · obtain ⟨y, hy, hc0⟩ := HC.out k2 hl2
            have hc5 : wr.cell? ⟨w.heap.size, k2, none⟩ = some (.int .i64 y) := (HB5.out.cell (p := ⟨w.heap.size, k2, none⟩) HL.out).trans hc0
            have HW5 := hid ((HW1.out.mono (Nat.le_of_lt HL.out)).kept HB5.out)
            have hl3 : (k2 : Int) < 4 := by omega
            clear hc0
            go_wp2_with fail
            refine (bit_any _ _ _ y ws _ (by omega) hy _ HW5.out).mono ?_
            rintro e w6 ⟨rfl, rfl⟩
            go_wp2_with fail
            refine (rbit_any _ _ _ y ws _ (by omega) hy _ HW5.out).mono ?_
            rintro e w6 ⟨rfl, rfl⟩
            go_wp2_with fail
            go_roundw
            case rel => exact ⟨k2 + 1, by omega, by go_num, HB5⟩
            case measure => simp [intOf]; omega
          · obtain rfl : k2 = 4 := by omega
            go_wp2_with fail
            go_roundw
            case rel => exact ⟨i + 1, by omega, by go_num, HB5⟩
            case measure => simp [intOf]; omega
      · have hz2 : z < 0 ∨ (len0 : Int) ≤ z / 64 := by unfold hasP at hp; omega
        have HZ := hid hz2
        clear hp hz2
        go_wp2_with fail
        refine (set_no _ _ _ z a3 hz HZ.out _).mono ?_
        rintro e w1 ⟨rfl, rfl⟩
        go_wp2_with fail
        refine (rset_no _ _ _ z a3 hz HZ.out _).mono ?_
        rintro e w1 ⟨rfl, rfl⟩
        go_wp2_with fail
        refine (bit_nil z hz _).mono ?_
        rintro e w1 ⟨rfl, rfl⟩
        go_wp2_with fail
        refine (nils _).mono ?_
        rintro e w3 ⟨rfl, hb3⟩
        have HB3 := hid (HB.out.trans (hb3.mono HB.out.size))
        have A3 := hid (HWr.out.kept hb3)
        clear hb3 HB HWr hc
        go_wp2_with fail
        go_loopw [17] (fun kv w5 => ∃ k : Nat, k ≤ 4 ∧ kv = .int .i64 (k : Int) ∧ Hid (Below W1.heap.size W1 w5)) (fun kv _ => 4 - (intOf kv).toNat)
        case atStart => exact ⟨0, by omega, rfl, HB3⟩
        case round =>
          obtain ⟨k2, hk2, rfl, HB5⟩ := hrel
          by_cases hl2 : k2 < 4
          · obtain ⟨y, hy, hc0⟩ := HC.out k2 hl2
            have hc5 : wr.cell? ⟨w.heap.size, k2, none⟩ = some (.int .i64 y) := (HB5.out.cell (p := ⟨w.heap.size, k2, none⟩) HL.out).trans hc0
            have HW5 := hid ((HW1.out.mono (Nat.le_of_lt HL.out)).kept HB5.out)
            have hl3 : (k2 : Int) < 4 := by omega
            clear hc0
            go_wp2_with fail
            refine (bit_any _ _ _ y ws _ (by omega) hy _ HW5.out).mono ?_
            rintro e w6 ⟨rfl, rfl⟩
            go_wp2_with fail
            refine (rbit_any _ _ _ y ws _ (by omega) hy _ HW5.out).mono ?_
            rintro e w6 ⟨rfl, rfl⟩
            go_wp2_with fail
            go_roundw
            case rel => exact ⟨k2 + 1, by omega, by go_num, HB5⟩
            case measure => simp [intOf]; omega
          · obtain rfl : k2 = 4 := by omega
            go_wp2_with fail
            go_roundw
            case rel => exact ⟨i + 1, by omega, by go_num, HB5⟩
            case measure => simp [intOf]; omega
    · obtain rfl : i = 4 := by omega
      go_wp2_with fail
      refine (awake_ok _).mono ?_
      rintro e w9 ⟨rfl, hb9⟩
      go_wp2_with fail
      go_ret
      exact ⟨rfl, (bt (HB1.out.trans (HB.out.mono HB1.out.size)) hb9)⟩

set_option maxRecDepth 100000 in
theorem lifted (os : Os) (started : os.Started) (H : Type) (enc : TypeId × Value → H) :
    ReturnsInHanded {} Try.checked os 7 .any (Rows.packBitsSpec.pre6 enc Try.prog Try.f7 Rows.packBitsRow.domain false) (Rows.packBitsSpec.post enc Try.prog Try.f7 false true false false) := by
  refine returnsInHanded_of_change (C := Try.checked) own started (by kernel_rfl) Try.func7
    (ChangeSpec.witness6 (enc := enc) (C := Try.checked) false ⟨#[], #[.slice none 0 0, .int .i64 0, .int .i64 0, .bool false], []⟩ 8 (by kernel_rfl) (by kernel_rfl) (by kernel_rfl) (by kernel_rfl)) ?_
  intro W base args ds gs before hval0 hW hcnd _
  have hval : ∀ (j : Nat) t v, Try.f7.params[j]? = some t → args[j]? = some v → Value.okWide Try.prog W .any base t v := hval0
  have hW' := hW
  obtain ⟨p, q, hA0, hV, rfl, hfz, hnd⟩ := hW
  have hA : DataW.TrodAll enc Try.prog W 0 (fun _ => true) true Try.f7.params.toList args.toList ds p := hA0
  rw [Try.params7] at hA hval
  obtain ⟨v0, vs0, d0, ds0, p0, q0, hargs, rfl, rfl, h0, r0⟩ := trodAll_cons hA
  obtain ⟨v1, vs1, d1, ds1, p1, q1, rfl, rfl, rfl, h1, r1⟩ := trodAll_cons r0
  obtain ⟨v2, vs2, d2, ds2, p2, q2, rfl, rfl, rfl, h2, r2⟩ := trodAll_cons r1
  obtain ⟨v3, vs3, d3, ds3, p3, q3, rfl, rfl, rfl, h3, r3⟩ := trodAll_cons r2
  obtain ⟨rfl, rfl, rfl⟩ := trodAll_nil r3
  obtain rfl : args = #[v0, v1, v2, v3] := by cases args; simp_all
  obtain ⟨rfl, rfl⟩ := trodVars_none hV
  obtain ⟨a0, len0, cap0, rfl⟩ := okWide_slice Try.underlying23 (hval 0 23 v0 rfl rfl)
  have k0 := h0
  have lt0 : ∀ x ∈ p0, x.block < W.heap.size := by obtain ⟨m, hm⟩ := k0; exact DataW.trod_lt m _ _ _ hm
  obtain ⟨z0, w0⟩ : ∃ zs, IsRow .u64 W a0 len0 cap0 zs := by
    obtain ⟨fuel, hf⟩ := h0
    rcases open_ints Try.underlying23 Try.underlying32 (by kernel_rfl) hf with ⟨hcs, _⟩ | ⟨x, l, c, zs, hcs, _, hl, hm, hz, _, hcell, hwz⟩
    · simp [Value.cells] at hcs
      obtain ⟨rfl, rfl, rfl⟩ := hcs
      exact ⟨[], .inl ⟨rfl, rfl, rfl, rfl⟩⟩
    · simp [Value.cells] at hcs
      obtain ⟨rfl, rfl, rfl⟩ := hcs
      exact ⟨zs, .inr ⟨_, rfl, hl, hm, by simpa using hz, hcell, hwz⟩⟩
  obtain ⟨a1, rfl, rfl, rfl, w1⟩ := open_int Try.underlying3 (hval 1 3 v1 rfl rfl) h1
  obtain ⟨a2, rfl, rfl, rfl, w2⟩ := open_int Try.underlying3 (hval 2 3 v2 rfl rfl) h2
  obtain ⟨a3, rfl, rfl, rfl⟩ := open_bool Try.underlying4 (hval 3 4 v3 rfl rfl) h3
  clear hA0 hval0
  refine (walk a0 len0 cap0 z0 a1 a2 a3 W w0 w1 w2).mono fun e W' ⟨he, bel⟩ => ?_
  subst he
  exact ⟨_, rfl, _, _, _, [], _, [], hW', trodAll_mk1 (shut_bool Try.underlying4 _), (trodAll_cons_mk (Below.trod laidOut (by kernel_rfl) (of_decide_eq_true (by kernel_rfl)) k0 bel lt0) (trodAll_cons_mk (shut_int Try.underlying3 w1) (trodAll_cons_mk (shut_int Try.underlying3 w2) (trodAll_cons_mk (shut_bool Try.underlying4 _) trodAll_mk0)))), rfl, bel.frame _, fun h => by cases h⟩

theorem over : Rows.packBitsRow.holds Try.pinned (OpenSpec.ofChange Rows.packBitsSpec) :=
  OpenClaim.holds_of_wide 7 Try.f7 rfl rfl rfl rfl rfl rfl rfl ⟨rfl, rfl, rfl, rfl, rfl⟩ rfl rfl rfl rfl rfl (by kernel_rfl) Try.func7 (by kernel_rfl)
    (of_decide_eq_true (by kernel_rfl)) (by unfold Func.isWrapper; first | (rw [if_pos (by decide +kernel)]; kernel_rfl) | (rw [if_neg (by decide +kernel)]; exact ⟨rfl, rfl⟩))
    (fun os started H enc _ => lifted os started H enc)

theorem proved : Rows.PackBitsSaid := over
#print axioms proved
end Go.Proofs.Ytflmfjfeeajkfaa.packBits
