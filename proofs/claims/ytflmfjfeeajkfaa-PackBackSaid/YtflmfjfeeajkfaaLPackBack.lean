/- For all words w and all lists l of numbers: PackBack returns true and leaves its arguments as they were. No condition. -/
import Derived.Test.YtflmfjfeeajkfaaRows
import Derived.WalkKit
import Derived.ProofKit
import Derived.OpenShut
import Derived.ShutString
import Derived.ChangeOld
import Derived.Below
import Derived.Carry
import Derived.Test.YtflmfjfeeajkfaaA
import Derived.Test.YtflmfjfeeajkfaaQ
import Derived.Test.YtflmfjfeeajkfaaK
namespace Go.Proofs.Ytflmfjfeeajkfaa.packBack
open Go.ChangeShapes Go.WideShapes Go.ChangeAt Go.RowKit
open Go.ChangeMaps (open_string shut_string)
set_option linter.unusedVariables false

theorem own : ownKnob Try.prog.godebug = none := by kernel_rfl
theorem laidOut : laidOutB Try.prog = true := by kernel_rfl

set_option linter.unusedSimpArgs false
theorem below_drewN (k : Nat) (w : World) (n : Nat) : Below k w (w.drewN n) := ⟨rfl, rfl, rfl, Nat.le_refl _, fun _ _ => rfl⟩
theorem sames (w0 : World) (a b : Option Addr) (len cap cap' : Nat) (ws : List Nat) (hl : len ≤ 9223372036854775807) (hA : Wd w0.heap.size w0 a len cap ws) (hB : Wd w0.heap.size w0 b len cap' ws) :
    Calls Try.prog 12 #[.slice a len cap, .slice b len cap'] w0 fun e w' => e = .returned (.bool true) ∧ Below w0.heap.size w0 w' :=
  (same_yes a b len cap cap' w0.heap.size ws w0 hl hA hB).mono fun e w' ⟨he, n, hw⟩ => ⟨he, by rw [hw]; exact below_drewN _ _ _⟩
theorem Try.info3 : (Try.prog.info? 3).map (fun i => (i.zero, i.size, i.bytes)) = some (some (.int .i64 0), 1, 8) := by kernel_rfl
theorem own_grown {W W' : World} {base B e size n : Nat} {v : Value} {xs : List Value} (h : W.ownsRow base e size v n xs) (hg : W.grownBy W' (some B)) (hB : B < base) : W'.ownsRow base e size v n xs := by
  refine ⟨h.1, h.2.imp id fun ⟨g, cap, cur, hv, hb, hh, rest⟩ => ⟨g, cap, cur, hv, hb, ?_, rest⟩⟩
  rw [hg.block g (Array.getElem?_eq_some_iff.1 hh).1 (fun e => by have := Option.some.inj e; omega)]; exact hh

theorem wi_kept {W W' : World} {a : Option Addr} {len : Nat} {zs : List Int} (h : Wi W.heap.size W a len zs) (hb : Below W.heap.size W W') : Wi W'.heap.size W' a len zs := by
  rcases h with h | ⟨b, off, e, h1, h2⟩
  · exact .inl h
  · exact .inr ⟨b, off, e, Nat.lt_of_lt_of_le h1 hb.size, fun j hj => (hb.cell (p := ⟨b, off + j, none⟩) h1).trans (h2 j hj)⟩
/-- the widths on the way -/
structure Way (w wr : World) (av : Value) (ks : List Int) : Prop where
  fits : ∀ j, j < ks.length → fit ks j
  row : wr.ownsRow (w.heap.size + 1) 3 1 av ks.length (vi ks)
  src : SrcOK w.heap.size w.heap.size wr
  below : Below w.heap.size w wr
  size : w.heap.size < wr.heap.size

theorem way_src {w wr w' : World} {av : Value} {ks : List Int} (h : Way w wr av ks) (hg : wr.grownBy w' (some w.heap.size)) (hs : SrcOK w.heap.size w.heap.size w') : Way w w' av ks :=
  ⟨h.fits, own_grown h.row hg (by omega), hs, h.below.grown hg h.below.size (fun k e => by cases e; exact Nat.le_refl _), Nat.lt_of_lt_of_le h.size hg.size⟩

theorem way_app {w wr w1 : World} {av v' : Value} {ks : List Int} {o : Obj} {z : Int} (h : Way w wr av ks) (h1 : 1 ≤ z) (h2 : sw ks ks.length + z ≤ 64) (hown : w1.ownsRow (w.heap.size + 1) 3 1 v' (ks.length + 1) (vi ks ++ [.int .i64 z])) (hg : (wr.alloc o).grownBy w1 av.ownBlock) : Way w w1 v' (ks ++ [z]) := by
  have hb : ∀ k, av.ownBlock = some k → w.heap.size + 1 ≤ k := own_base h.row
  have ha : wr.grownBy (wr.alloc o) none := World.grownBy_alloc wr o none
  refine ⟨fit_app ks z h.fits h1 h2, by simpa [vi] using hown, ?_, ?_, ?_⟩
  · exact (h.src.kept ha (by simp) h.below.size (fun k e => by cases e)).kept hg (fun e => by have := hb _ e.symm; omega) (by have := h.size; simp; omega) (fun k e => by have := hb k e; omega)
  · exact (h.below.alloc h.below.size o).grown hg (by have := h.size; simp; omega) (fun k e => by have := hb k e; omega)
  · have := hg.size; have := h.size; simp at *; omega

set_option maxRecDepth 100000 in
set_option maxHeartbeats 2000000 in
theorem walk (a0 : Int) (a1 : Option Addr) (len1 cap1 : Nat) (z1 : List Int) (w : World) (w0 : (Lit.int .u64 a0).wf = true) (w1 : IsRow .i64 w a1 len1 cap1 z1) :
    Calls Try.prog 6 #[.int .u64 a0, .slice a1 len1 cap1] w fun e w' => e = .returned (.bool true) ∧ Below w.heap.size w w' := by
  obtain ⟨x, rfl, hx⟩ : ∃ a : Nat, a0 = a ∧ a < 18446744073709551616 := by simp [Lit.wf, IntKind.min, IntKind.max, IntKind.signed, IntKind.bits] at w0; exact ⟨a0.toNat, by omega, by omega⟩
  obtain ⟨hn, hl, hc⟩ := nums_of w1
  unfold maxLen at hc
  have HX := hid hx
  obtain ⟨i0, hi, hz0, hz1, hz2⟩ := info_parts Try.info3
  have HI := hid hi; have HZ0 := hid hz0; have HZ1 := hid hz1; have HZ2 := hid hz2
  have HN := hid (new_ok a1 len1 cap1 w hn hl hc)
  clear hi hz0 hz1 hz2 hx w0 w1 hn hl hc
  go_enter Try.func6, Try.ntmps6
  go_wp2_with fail
  refine HN.out.mono ?_
  rintro e w1 ⟨rfl, HS, hb1⟩
  have hs1 : w.heap.size < w1.heap.size := HS.out.lt
  go_wp2_with fail
  refine (range_ok w.heap.size w.heap.size (Nat.le_refl _) 1 7 (by omega) (by omega) (by omega) w1 HS.out).mono ?_
  rintro e w2 ⟨i, i1, i7, rfl, H2⟩
  have H0 := hid (show Way w w1 (.slice none 0 0) [] from ⟨fun j hj => by simp at hj, World.ownsRow_nil _ _ _ _, HS.out, hb1, hs1⟩)
  have HWay := hid (way_src H0.out H2.out.1 H2.out.2)
  clear HN HS hb1 H2 H0 hs1
  go_wp2_with fail
  go_loopw [6, 7, 8] (fun av sv iv wr => ∃ (i : Int) (ks : List Int), 0 ≤ i ∧ i ≤ 7 ∧ iv = .int .i64 i ∧ sv = .int .i64 (sw ks ks.length) ∧ Hid (Way w wr av ks)) (fun _ _ iv _ => (intOf iv).toNat)
  case atStart => exact ⟨i, [], by omega, i7, rfl, rfl, HWay⟩
  case round =>
    obtain ⟨i, ks, i0', i7, rfl, rfl, HWay⟩ := hrel
    obtain ⟨s1, s2⟩ := sw_bd ks ks.length HWay.out.fits
    have hlen := sw_ge ks ks.length HWay.out.fits
    by_cases hpos : 0 < i
    · go_wp2_with fail
      refine (range_ok w.heap.size w.heap.size (Nat.le_refl _) 1 12 (by omega) (by omega) (by omega) _ HWay.out.src).mono ?_
      rintro e w3 ⟨z, z1, z2, rfl, H3⟩
      have HW3 := hid (way_src HWay.out H3.out.1 H3.out.2)
      clear HWay H3
      obtain ⟨va, vc, rfl⟩ := own_slice HW3.out.row
      by_cases hsum : sw ks ks.length + z ≤ 64
      · have hown := hid HW3.out.row
        have HSW := hid (sw_app_len ks z)
        have HL := hid (show (ks ++ [z]).length = ks.length + 1 by simp)
        have hC5 := hid (show w.heap.size + 1 ≤ (w3.alloc (.cells #[.int .i64 z] 3)).heap.size by have := HW3.out.size; simp; omega)
        go_wp2_with (first | (at_builtin; refine wpList_append_own _ rfl _ _ 36 rfl (w.heap.size + 1) 3 i0 (.int .i64 0) 1 8 Try.underlying36 HI.out HZ0.out HZ1.out HZ2.out rfl (by decide) _ _ _ rfl (hown.out.alloc _) ⟨w3.heap.size, 0, none⟩ 1 1 [.int .i64 z] rfl rfl (cell_one_new _ _ _) (by simp [Value.oneCell']) (by unfold maxLen; omega) (by omega) hC5.out ?_; intro v4 w4 hown4 hgrow4 _; have HW4 := hid (way_app HW3.out z1 hsum hown4 hgrow4); clear hown4 hgrow4))
        go_roundw
        case rel => exact ⟨i - 1, ks ++ [z], by omega, by omega, rfl, by rw [HL.out, HSW.out], HW4⟩
        case measure => simp [intOf]; omega
      · go_wp2_with fail
        go_roundw
        case rel => exact ⟨i - 1, ks, by omega, by omega, rfl, rfl, HW3⟩
        case measure => simp [intOf]; omega
    · obtain ⟨va, vc, rfl⟩ := own_slice HWay.out.row
      obtain ⟨va', vc', ev, hWi⟩ := own_wi HWay.out.row
      simp only [Value.slice.injEq, true_and] at ev
      obtain ⟨rfl, rfl⟩ := ev
      have HF := hid HWay.out.fits
      have HWi := hid hWi
      have HB0 := hid HWay.out.below
      clear hWi HWay
      obtain ⟨s, hs⟩ := Int.eq_ofNat_of_zero_le s1
      have HSN := hid (show (sw ks ks.length).toNat = s by rw [hs]; rfl)
      have HC := hid (fvl_congr (len := ks.length) ks (x % 2 ^ s) x (fun j hj => by rw [← HSN.out]; exact fv_mod ks x ks.length j HF.out hj))
      have hxm := hid (show x % 2 ^ s < 18446744073709551616 from Nat.lt_of_le_of_lt (Nat.mod_le _ _) HX.out)
      have hk100 : ks.length ≤ 100 := by omega
      have hs2 : s ≤ 64 := by omega
      have F1 := hid (fun (w : World) (hI : Wi w.heap.size w va ks.length ks) => split_ok x HX.out va ks.length vc ks hk100 HF.out w hI)
      have F2 := hid (fun (w : World) (b : Option Addr) (cap2 : Nat) (hI : Wi w.heap.size w va ks.length ks) hV => fields_back va b ks.length vc cap2 ks x hk100 HF.out w hI hV)
      rw [HSN.out] at F2
      have F3 := hid (fun (w : World) (hI : Wi w.heap.size w va ks.length ks) => split_ok (x % 2 ^ s) hxm.out va ks.length vc ks hk100 HF.out w hI)
      rw [HC.out] at F3
      have hxand := hid (Nat.and_two_pow_sub_one_eq_mod x s)
      rw [hs]
      clear hs s1 HC hlen HSN HF
      generalize fvl ks x (firsts ks.length ks.length (Nat.le_refl _)) = V at *
      generalize ks.length = n at *
      by_cases h64 : s < 64
      · have t1 := shl1 s h64
        rw [pw] at t1
        have t2 : IntKind.u64.wrap ((2 : Int) ^ s - 1) = (2 : Int) ^ s - 1 := by
          have h1 := pow_lt h64
          have h2 := Nat.two_pow_pos s
          rw [← pw]
          generalize 2 ^ s = y at h1 h2
          simp [IntKind.wrap, IntKind.bits, IntKind.signed]; omega
        have t3 : bits .and .u64 (x : Int) ((2 : Int) ^ s - 1) = ((x % 2 ^ s : Nat) : Int) := by
          have h1 := pow_lt h64
          have h2 := Nat.two_pow_pos s
          rw [← hxand.out, ← u64_and_nat x (2 ^ s - 1) HX.out (by omega)]
          congr 1
          rw [← pw]
          omega
        have h65 : (s : Int) < 64 := by omega
        clear hxand
        generalize x % 2 ^ s = m at *
        go_wp2_with fail
        refine (F1.out _ HWi.out).mono ?_
        rintro e w1 ⟨b1, cap1, rfl, D1, hb1⟩
        have HB1 := hid (bt HB0.out hb1)
        have HI1 := hid (wi_kept HWi.out hb1)
        clear hb1 HB0 HWi
        go_wp2_with fail
        refine (F2.out _ b1 cap1 HI1.out D1.out).mono ?_
        rintro e w2 ⟨rfl, hb2⟩
        have HB2 := hid (bt HB1.out hb2)
        have HI2 := hid (wi_kept HI1.out hb2)
        have D2 := hid (D1.out.kept hb2)
        clear hb2 HB1 HI1 D1
        go_wp2_with fail
        refine (F3.out _ HI2.out).mono ?_
        rintro e w3 ⟨b3, cap3, rfl, D3, hb3⟩
        have HB3 := hid (bt HB2.out hb3)
        have D4 := hid (D2.out.kept hb3)
        clear hb3 HB2 HI2 D2
        go_wp2_with fail
        refine (sames _ _ _ _ _ _ _ (by omega) D3.out D4.out).mono ?_
        rintro e w4 ⟨rfl, hb4⟩
        have HB4 := hid (bt HB3.out hb4)
        clear hb4 HB3 D3 D4
        go_wp2_with fail
        refine (awake_ok _).mono ?_
        rintro e w5 ⟨rfl, hb5⟩
        have HB5 := hid (bt HB4.out hb5)
        clear hb5 HB4
        go_wp2_with fail
        go_ret
        exact ⟨rfl, HB5.out⟩
      · obtain rfl : s = 64 := by omega
        have hm : x % 2 ^ 64 = x := Nat.mod_eq_of_lt HX.out
        rw [hm] at F2 F3
        clear hxand hm h64
        go_wp2_with fail
        refine (F1.out _ HWi.out).mono ?_
        rintro e w1 ⟨b1, cap1, rfl, D1, hb1⟩
        have HB1 := hid (bt HB0.out hb1)
        have HI1 := hid (wi_kept HWi.out hb1)
        clear hb1 HB0 HWi
        go_wp2_with fail
        refine (F2.out _ b1 cap1 HI1.out D1.out).mono ?_
        rintro e w2 ⟨rfl, hb2⟩
        have HB2 := hid (bt HB1.out hb2)
        have HI2 := hid (wi_kept HI1.out hb2)
        have D2 := hid (D1.out.kept hb2)
        clear hb2 HB1 HI1 D1
        go_wp2_with fail
        refine (F3.out _ HI2.out).mono ?_
        rintro e w3 ⟨b3, cap3, rfl, D3, hb3⟩
        have HB3 := hid (bt HB2.out hb3)
        have D4 := hid (D2.out.kept hb3)
        clear hb3 HB2 HI2 D2
        go_wp2_with fail
        refine (sames _ _ _ _ _ _ _ (by omega) D3.out D4.out).mono ?_
        rintro e w4 ⟨rfl, hb4⟩
        have HB4 := hid (bt HB3.out hb4)
        clear hb4 HB3 D3 D4
        go_wp2_with fail
        refine (awake_ok _).mono ?_
        rintro e w5 ⟨rfl, hb5⟩
        have HB5 := hid (bt HB4.out hb5)
        clear hb5 HB4
        go_wp2_with fail
        go_ret
        exact ⟨rfl, HB5.out⟩

set_option maxRecDepth 100000 in
theorem lifted (os : Os) (started : os.Started) (H : Type) (enc : TypeId × Value → H) :
    ReturnsInHanded {} Try.checked os 6 .any (Rows.packBackSpec.pre6 enc Try.prog Try.f6 Rows.packBackRow.domain false) (Rows.packBackSpec.post enc Try.prog Try.f6 false true false false) := by
  refine returnsInHanded_of_change (C := Try.checked) own started (by kernel_rfl) Try.func6
    (ChangeSpec.witness6 (enc := enc) (C := Try.checked) false ⟨#[], #[.int .u64 0, .slice none 0 0], []⟩ 8 (by kernel_rfl) (by kernel_rfl) (by kernel_rfl) (by kernel_rfl)) ?_
  intro W base args ds gs before hval0 hW hcnd _
  have hval : ∀ (j : Nat) t v, Try.f6.params[j]? = some t → args[j]? = some v → Value.okWide Try.prog W .any base t v := hval0
  have hW' := hW
  obtain ⟨p, q, hA0, hV, rfl, hfz, hnd⟩ := hW
  have hA : DataW.TrodAll enc Try.prog W 0 (fun _ => true) true Try.f6.params.toList args.toList ds p := hA0
  rw [Try.params6] at hA hval
  obtain ⟨v0, vs0, d0, ds0, p0, q0, hargs, rfl, rfl, h0, r0⟩ := trodAll_cons hA
  obtain ⟨v1, vs1, d1, ds1, p1, q1, rfl, rfl, rfl, h1, r1⟩ := trodAll_cons r0
  obtain ⟨rfl, rfl, rfl⟩ := trodAll_nil r1
  obtain rfl : args = #[v0, v1] := by cases args; simp_all
  obtain ⟨rfl, rfl⟩ := trodVars_none hV
  obtain ⟨a0, rfl, rfl, rfl, w0⟩ := open_int Try.underlying32 (hval 0 32 v0 rfl rfl) h0
  obtain ⟨a1, len1, cap1, rfl⟩ := okWide_slice Try.underlying36 (hval 1 36 v1 rfl rfl)
  have k1 := h1
  have lt1 : ∀ x ∈ p1, x.block < W.heap.size := by obtain ⟨m, hm⟩ := k1; exact DataW.trod_lt m _ _ _ hm
  obtain ⟨z1, w1⟩ : ∃ zs, IsRow .i64 W a1 len1 cap1 zs := by
    obtain ⟨fuel, hf⟩ := h1
    rcases open_ints Try.underlying36 Try.underlying3 (by kernel_rfl) hf with ⟨hcs, _⟩ | ⟨x, l, c, zs, hcs, _, hl, hm, hz, _, hcell, hwz⟩
    · simp [Value.cells] at hcs
      obtain ⟨rfl, rfl, rfl⟩ := hcs
      exact ⟨[], .inl ⟨rfl, rfl, rfl, rfl⟩⟩
    · simp [Value.cells] at hcs
      obtain ⟨rfl, rfl, rfl⟩ := hcs
      exact ⟨zs, .inr ⟨_, rfl, hl, hm, by simpa using hz, hcell, hwz⟩⟩
  clear hA0 hval0
  refine (walk a0 a1 len1 cap1 z1 W w0 w1).mono fun e W' ⟨he, bel⟩ => ?_
  subst he
  exact ⟨_, rfl, _, _, _, [], _, [], hW', trodAll_mk1 (shut_bool Try.underlying4 _), (trodAll_cons_mk (shut_int Try.underlying32 w0) (trodAll_cons_mk (Below.trod laidOut (by kernel_rfl) (of_decide_eq_true (by kernel_rfl)) k1 bel lt1) trodAll_mk0)), rfl, bel.frame _, fun h => by cases h⟩

theorem over : Rows.packBackRow.holds Try.pinned (OpenSpec.ofChange Rows.packBackSpec) :=
  OpenClaim.holds_of_wide 6 Try.f6 rfl rfl rfl rfl rfl rfl rfl ⟨rfl, rfl, rfl, rfl, rfl⟩ rfl rfl rfl rfl rfl (by kernel_rfl) Try.func6 (by kernel_rfl)
    (of_decide_eq_true (by kernel_rfl)) (by unfold Func.isWrapper; first | (rw [if_pos (by decide +kernel)]; kernel_rfl) | (rw [if_neg (by decide +kernel)]; exact ⟨rfl, rfl⟩))
    (fun os started H enc _ => lifted os started H enc)

theorem proved : Rows.PackBackSaid := over
#print axioms proved
end Go.Proofs.Ytflmfjfeeajkfaa.packBack
