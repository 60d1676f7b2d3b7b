/- For all words a and b, all checksums x and y and every n: ChecksumCombines returns true and leaves its arguments as they were. No condition. -/
import Derived.Test.YtdkpjfjmccgaoaaRows
import Derived.WalkKit
import Derived.ProofKit
import Derived.OpenShut
import Derived.ShutString
import Derived.ChangeOld
import Derived.Below
import Derived.Carry
import Derived.Test.YtdkpjfjmccgaoaaC
import Derived.Test.YtdkpjfjmccgaoaaD
import Derived.Test.YtdkpjfjmccgaoaaI
import Derived.Test.YtdkpjfjmccgaoaaM
import Derived.Test.YtdkpjfjmccgaoaaE
import Derived.Test.YtdkpjfjmccgaoaaX
import Derived.Test.YtdkpjfjmccgaoaaF
import Derived.Test.YtdkpjfjmccgaoaaG
import Derived.Test.YtdkpjfjmccgaoaaH
import Derived.Test.YtdkpjfjmccgaoaaQ
namespace Go.Proofs.Ytdkpjfjmccgaoaa.checksumCombines
open Go.ChangeShapes Go.WideShapes Go.ChangeAt Go.RowKit
open Go.ChangeMaps (open_string shut_string)
set_option linter.unusedVariables false

theorem own : ownKnob Try.prog.godebug = none := by kernel_rfl
theorem laidOut : laidOutB Try.prog = true := by kernel_rfl

set_option maxHeartbeats 1000000 in
theorem walk (a0 : Option Addr) (len0 cap0 : Nat) (z0 : List Int) (a1 : Option Addr) (len1 cap1 : Nat) (z1 : List Int) (a2 a3 a4 : Int) (w : World) (w0 : IsRow .u64 w a0 len0 cap0 z0) (w1 : IsRow .u64 w a1 len1 cap1 z1) (w2 : (Lit.int .u32 a2).wf = true) (w3 : (Lit.int .u32 a3).wf = true) (w4 : (Lit.int .i64 a4).wf = true) :
    Calls Try.prog 6 #[.slice a0 len0 cap0, .slice a1 len1 cap1, .int .u32 a2, .int .u32 a3, .int .i64 a4] w fun e w' => e = .returned (.bool true) ∧ Below w.heap.size w w' := by
  obtain ⟨x, rfl, hx⟩ : ∃ a : Nat, a2 = a ∧ a < 2 ^ 32 := by simp [Lit.wf, IntKind.min, IntKind.max, IntKind.signed, IntKind.bits] at w2; exact ⟨a2.toNat, by omega, by omega⟩
  obtain ⟨y, rfl, hy⟩ : ∃ a : Nat, a3 = a ∧ a < 2 ^ 32 := by simp [Lit.wf, IntKind.min, IntKind.max, IntKind.signed, IntKind.bits] at w3; exact ⟨a3.toNat, by omega, by omega⟩
  obtain ⟨i0, hi, hz0, hz1, hz2⟩ := info_parts Try.info33
  have HI := hid hi; have HZ0 := hid hz0; have HZ1 := hid hz1; have HZ2 := hid hz2
  clear hi hz0 hz1 hz2
  obtain ⟨hA, _⟩ := wo_of w0
  obtain ⟨hB, _⟩ := wo_of w1
  obtain ⟨sA, lA⟩ := src_of w0
  obtain ⟨sB, lB⟩ := src_of w1
  generalize z0.map Int.toNat = A at hA sA lA
  generalize z1.map Int.toNat = B at hB sB lB
  have HA := hid hA
  have HB := hid hB
  have HX := hid hx
  have HY := hid hy
  clear w0 w1 w2 w3 hA hB hx hy
  by_cases h0 : (len0 : Int) ≤ 40
  · by_cases h1 : (len1 : Int) ≤ 40
    · have t0 : ¬ 40 < (len0 : Int) := by omega
      have t1 : ¬ 40 < (len1 : Int) := by omega
      have hr0 : len0 * 8 ≤ 140737488351232 := by omega
      have hr1 : len1 * 8 ≤ 140737488351232 := by omega
      have hr2 : (len0 + len1) * 8 ≤ 140737488351232 := by omega
      have HSA := hid (ext_lt 0 (by omega) A len0)
      have HSB := hid (ext_lt 0 (by omega) B len1)
      have E1 := hid (show shn (64 * len1) (ext 0 A len0) ^^^ ext 0 B len1 = ext 0 (A.take len0 ++ B.take len1) (len0 + len1) by
        rw [← combine_law A (B.take len1) len0 len1 lA, ext_congr 0 (B.take len1) B len1 (fun j hj => by rw [List.getElem?_take_of_lt hj])])
      have K1 := hid (combine_ok (ext 0 A len0) (ext 0 B len1) len1 HSA.out HSB.out (by omega))
      rw [E1.out] at K1
      have HW := hid (show ∀ j, j < len0 + len1 → (A.take len0 ++ B.take len1)[j]?.getD 0 < 18446744073709551616 from fun j hj => by
        by_cases hj0 : j < len0
        · rw [List.getElem?_append_left (by simp; omega)]; exact take_lt HA.out.1 j hj0
        · rw [List.getElem?_append_right (by simp; omega)]
          have e : (A.take len0).length = len0 := by simp; omega
          rw [e]; exact take_lt HB.out.1 _ (by omega))
      have LA := hid (show (vs (A.take len0)).length = len0 * 1 by simp [vs]; omega)
      have LB := hid (show (vs (B.take len1)).length = len1 * 1 by simp [vs]; omega)
      have VS := hid (show vs (A.take len0) ++ vs (B.take len1) = vs (A.take len0 ++ B.take len1) by simp [vs])
      have C1 := hid (show 0 + len0 ≤ maxLen by unfold maxLen; omega)
      have C2 := hid (show (0 + len0) * 8 ≤ 140737488355328 by omega)
      have C3 := hid (show len0 + len1 ≤ maxLen by unfold maxLen; omega)
      have C4 := hid (show (len0 + len1) * 8 ≤ 140737488355328 by omega)
      have O1 := hid (one_of (A.take len0))
      have O2 := hid (one_of (B.take len1))
      have SA := hid sA
      have SB := hid sB
      clear sA sB
      by_cases hneg : a4 < 0
      · have hm2 : a4.tmod 90 ≤ 0 := by
          have h1 : (-(-a4)).tmod 90 = -((-a4).tmod 90) := Int.neg_tmod _ _
          rw [Int.neg_neg] at h1
          have h2 : 0 ≤ (-a4).tmod 90 := Int.tmod_nonneg _ (by omega)
          omega
        have K3 := hid (fun w => combine_no x y a4 (.inl hneg) w)
        by_cases hm : a4.tmod 90 < 0
        · have K2 := hid (fun w => combine_no x y (a4.tmod 90) (.inl hm) w)
          go_enter Try.func6, Try.ntmps6
          go_wp2_with fail
          refine (words_ok _ _ _ _ hr0 _ HA.out).mono ?_
          rintro e w1 ⟨rfl, hb1⟩
          have HB1 := hid (Wo.kept HB.out hb1)
          go_wp2_with fail
          refine (words_ok _ _ _ _ hr1 _ HB1.out).mono ?_
          rintro e w2 ⟨rfl, hb2⟩
          have hbs2 := hid (bt hb1 hb2)
          have hsz2 := hid (show w.heap.size ≤ w2.heap.size from hbs2.out.size)
          go_wp2_with fail
          refine (K1.out _).mono ?_
          rintro e w3 ⟨rfl, rfl⟩
          go_wp2_with fail
          refine (K2.out _).mono ?_
          rintro e w3 ⟨rfl, rfl⟩
          go_wp2_with fail
          refine (K3.out _).mono ?_
          rintro e w3 ⟨rfl, rfl⟩
          go_wp2_with (first | (at_builtin; refine wpList_append_srcg _ rfl (.const (.slice none 0 0)) _ 23 rfl w.heap.size 33 i0 (.int .u64 0) 1 8 Try.underlying23 HI.out HZ0.out HZ1.out HZ2.out rfl (by decide) (.slice none 0 0) 0 [] rfl (World.ownsRow_nil _ _ _ _) _ _ _ _ rfl (SA.out _ hbs2.out) LA.out O1.out C1.out C2.out hsz2.out ?_; intro v3 w3 hown3 hgrow3; simp only [Nat.zero_add, List.nil_append] at hown3; have hb3 := hid (hbs2.out.grown hgrow3 hsz2.out (fun k e => by simp [Value.ownBlock] at e))) | (at_builtin; refine wpList_append_srcg _ rfl _ _ 23 rfl w.heap.size 33 i0 (.int .u64 0) 1 8 Try.underlying23 HI.out HZ0.out HZ1.out HZ2.out rfl (by decide) v3 _ _ rfl hown3 _ _ _ _ rfl (SB.out _ hb3.out) LB.out O2.out C3.out C4.out hb3.out.size ?_; intro v4 w4 hown4 hgrow4))
          rw [VS.out] at hown4
          have hb4 := hid (hb3.out.grown hgrow4 hb3.out.size (own_base hown3))
          obtain ⟨a4', cap4, hv4, hw4⟩ := own_form hown4 HW.out
          rw [hv4]
          clear hv4 hown4 hgrow4 hown3 hgrow3
          have HW4 := hid hw4
          clear hw4
          refine (words_ok _ _ _ _ hr2 _ HW4.out).mono ?_
          rintro e w5 ⟨rfl, hb5⟩
          go_wp2_with fail
          refine (awake_ok _).mono ?_
          rintro e w9 ⟨rfl, hb9⟩
          go_wp2_with fail
          go_ret
          exact ⟨rfl, bt (bt hb4.out hb5) hb9⟩
        · have e0 : a4.tmod 90 = 0 := by omega
          have K2 := hid (fun w => combine_ok x y 0 HX.out HY.out (by omega) w)
          have ZE := hid (fun w => zeros_any x 0 HX.out (by omega) w)
          have HXO := u32_xor_nat (shn (64 * 0) x) y (shn_lt _ HX.out) HY.out
          generalize shn (64 * 0) x ^^^ y = q at *
          generalize shn (64 * 0) x = p at *
          clear hm hm2
          go_enter Try.func6, Try.ntmps6
          go_wp2_with fail
          refine (words_ok _ _ _ _ hr0 _ HA.out).mono ?_
          rintro e w1 ⟨rfl, hb1⟩
          have HB1 := hid (Wo.kept HB.out hb1)
          go_wp2_with fail
          refine (words_ok _ _ _ _ hr1 _ HB1.out).mono ?_
          rintro e w2 ⟨rfl, hb2⟩
          have hbs2 := hid (bt hb1 hb2)
          have hsz2 := hid (show w.heap.size ≤ w2.heap.size from hbs2.out.size)
          go_wp2_with fail
          refine (K1.out _).mono ?_
          rintro e w3 ⟨rfl, rfl⟩
          go_wp2_with fail
          refine (K2.out _).mono ?_
          rintro e w3 ⟨rfl, rfl⟩
          go_wp2_with fail
          refine (K3.out _).mono ?_
          rintro e w3 ⟨rfl, rfl⟩
          go_wp2_with (first | (at_builtin; refine wpList_append_srcg _ rfl (.const (.slice none 0 0)) _ 23 rfl w.heap.size 33 i0 (.int .u64 0) 1 8 Try.underlying23 HI.out HZ0.out HZ1.out HZ2.out rfl (by decide) (.slice none 0 0) 0 [] rfl (World.ownsRow_nil _ _ _ _) _ _ _ _ rfl (SA.out _ hbs2.out) LA.out O1.out C1.out C2.out hsz2.out ?_; intro v3 w3 hown3 hgrow3; simp only [Nat.zero_add, List.nil_append] at hown3; have hb3 := hid (hbs2.out.grown hgrow3 hsz2.out (fun k e => by simp [Value.ownBlock] at e))) | (at_builtin; refine wpList_append_srcg _ rfl _ _ 23 rfl w.heap.size 33 i0 (.int .u64 0) 1 8 Try.underlying23 HI.out HZ0.out HZ1.out HZ2.out rfl (by decide) v3 _ _ rfl hown3 _ _ _ _ rfl (SB.out _ hb3.out) LB.out O2.out C3.out C4.out hb3.out.size ?_; intro v4 w4 hown4 hgrow4))
          rw [VS.out] at hown4
          have hb4 := hid (hb3.out.grown hgrow4 hb3.out.size (own_base hown3))
          obtain ⟨a4', cap4, hv4, hw4⟩ := own_form hown4 HW.out
          rw [hv4]
          clear hv4 hown4 hgrow4 hown3 hgrow3
          have HW4 := hid hw4
          clear hw4
          refine (words_ok _ _ _ _ hr2 _ HW4.out).mono ?_
          rintro e w5 ⟨rfl, hb5⟩
          go_wp2_with fail
          refine (ZE.out _).mono ?_
          rintro e w6 ⟨rfl, rfl⟩
          go_wp2_with fail
          refine (awake_ok _).mono ?_
          rintro e w9 ⟨rfl, hb9⟩
          go_wp2_with fail
          go_ret
          exact ⟨rfl, bt (bt hb4.out hb5) hb9⟩
      · obtain ⟨k, rfl⟩ : ∃ k : Nat, a4 = k := ⟨a4.toNat, by omega⟩
        have K2 := hid (fun w => combine_mod x y k HX.out HY.out w)
        have ZE := hid (fun w => zeros_mod x k HX.out w)
        have HXO := u32_xor_nat (shn (64 * (k % 90)) x) y (shn_lt _ HX.out) HY.out
        generalize shn (64 * (k % 90)) x ^^^ y = q at *
        generalize shn (64 * (k % 90)) x = p at *
        clear hneg
        by_cases hbig : 65536 < (k : Int)
        · have K3 := hid (fun w => combine_no x y k (.inr hbig) w)
          go_enter Try.func6, Try.ntmps6
          go_wp2_with fail
          refine (words_ok _ _ _ _ hr0 _ HA.out).mono ?_
          rintro e w1 ⟨rfl, hb1⟩
          have HB1 := hid (Wo.kept HB.out hb1)
          go_wp2_with fail
          refine (words_ok _ _ _ _ hr1 _ HB1.out).mono ?_
          rintro e w2 ⟨rfl, hb2⟩
          have hbs2 := hid (bt hb1 hb2)
          have hsz2 := hid (show w.heap.size ≤ w2.heap.size from hbs2.out.size)
          go_wp2_with fail
          refine (K1.out _).mono ?_
          rintro e w3 ⟨rfl, rfl⟩
          go_wp2_with fail
          refine (K2.out _).mono ?_
          rintro e w3 ⟨rfl, rfl⟩
          go_wp2_with fail
          refine (K3.out _).mono ?_
          rintro e w3 ⟨rfl, rfl⟩
          go_wp2_with (first | (at_builtin; refine wpList_append_srcg _ rfl (.const (.slice none 0 0)) _ 23 rfl w.heap.size 33 i0 (.int .u64 0) 1 8 Try.underlying23 HI.out HZ0.out HZ1.out HZ2.out rfl (by decide) (.slice none 0 0) 0 [] rfl (World.ownsRow_nil _ _ _ _) _ _ _ _ rfl (SA.out _ hbs2.out) LA.out O1.out C1.out C2.out hsz2.out ?_; intro v3 w3 hown3 hgrow3; simp only [Nat.zero_add, List.nil_append] at hown3; have hb3 := hid (hbs2.out.grown hgrow3 hsz2.out (fun k e => by simp [Value.ownBlock] at e))) | (at_builtin; refine wpList_append_srcg _ rfl _ _ 23 rfl w.heap.size 33 i0 (.int .u64 0) 1 8 Try.underlying23 HI.out HZ0.out HZ1.out HZ2.out rfl (by decide) v3 _ _ rfl hown3 _ _ _ _ rfl (SB.out _ hb3.out) LB.out O2.out C3.out C4.out hb3.out.size ?_; intro v4 w4 hown4 hgrow4))
          rw [VS.out] at hown4
          have hb4 := hid (hb3.out.grown hgrow4 hb3.out.size (own_base hown3))
          obtain ⟨a4', cap4, hv4, hw4⟩ := own_form hown4 HW.out
          rw [hv4]
          clear hv4 hown4 hgrow4 hown3 hgrow3
          have HW4 := hid hw4
          clear hw4
          refine (words_ok _ _ _ _ hr2 _ HW4.out).mono ?_
          rintro e w5 ⟨rfl, hb5⟩
          go_wp2_with fail
          refine (ZE.out _).mono ?_
          rintro e w6 ⟨rfl, rfl⟩
          go_wp2_with fail
          refine (awake_ok _).mono ?_
          rintro e w9 ⟨rfl, hb9⟩
          go_wp2_with fail
          go_ret
          exact ⟨rfl, bt (bt hb4.out hb5) hb9⟩
        · have K3 := hid (fun w => combine_ok x y k HX.out HY.out (by omega) w)
          generalize shn (64 * k) x ^^^ y = q3 at K3
          go_enter Try.func6, Try.ntmps6
          go_wp2_with fail
          refine (words_ok _ _ _ _ hr0 _ HA.out).mono ?_
          rintro e w1 ⟨rfl, hb1⟩
          have HB1 := hid (Wo.kept HB.out hb1)
          go_wp2_with fail
          refine (words_ok _ _ _ _ hr1 _ HB1.out).mono ?_
          rintro e w2 ⟨rfl, hb2⟩
          have hbs2 := hid (bt hb1 hb2)
          have hsz2 := hid (show w.heap.size ≤ w2.heap.size from hbs2.out.size)
          go_wp2_with fail
          refine (K1.out _).mono ?_
          rintro e w3 ⟨rfl, rfl⟩
          go_wp2_with fail
          refine (K2.out _).mono ?_
          rintro e w3 ⟨rfl, rfl⟩
          go_wp2_with fail
          refine (K3.out _).mono ?_
          rintro e w3 ⟨rfl, rfl⟩
          go_wp2_with (first | (at_builtin; refine wpList_append_srcg _ rfl (.const (.slice none 0 0)) _ 23 rfl w.heap.size 33 i0 (.int .u64 0) 1 8 Try.underlying23 HI.out HZ0.out HZ1.out HZ2.out rfl (by decide) (.slice none 0 0) 0 [] rfl (World.ownsRow_nil _ _ _ _) _ _ _ _ rfl (SA.out _ hbs2.out) LA.out O1.out C1.out C2.out hsz2.out ?_; intro v3 w3 hown3 hgrow3; simp only [Nat.zero_add, List.nil_append] at hown3; have hb3 := hid (hbs2.out.grown hgrow3 hsz2.out (fun k e => by simp [Value.ownBlock] at e))) | (at_builtin; refine wpList_append_srcg _ rfl _ _ 23 rfl w.heap.size 33 i0 (.int .u64 0) 1 8 Try.underlying23 HI.out HZ0.out HZ1.out HZ2.out rfl (by decide) v3 _ _ rfl hown3 _ _ _ _ rfl (SB.out _ hb3.out) LB.out O2.out C3.out C4.out hb3.out.size ?_; intro v4 w4 hown4 hgrow4))
          rw [VS.out] at hown4
          have hb4 := hid (hb3.out.grown hgrow4 hb3.out.size (own_base hown3))
          obtain ⟨a4', cap4, hv4, hw4⟩ := own_form hown4 HW.out
          rw [hv4]
          clear hv4 hown4 hgrow4 hown3 hgrow3
          have HW4 := hid hw4
          clear hw4
          refine (words_ok _ _ _ _ hr2 _ HW4.out).mono ?_
          rintro e w5 ⟨rfl, hb5⟩
          go_wp2_with fail
          refine (ZE.out _).mono ?_
          rintro e w6 ⟨rfl, rfl⟩
          go_wp2_with fail
          refine (awake_ok _).mono ?_
          rintro e w9 ⟨rfl, hb9⟩
          go_wp2_with fail
          go_ret
          exact ⟨rfl, bt (bt hb4.out hb5) hb9⟩
    · have t0 : ¬ 40 < (len0 : Int) := by omega
      have t1 : 40 < (len1 : Int) := by omega
      clear h1
      go_enter Try.func6, Try.ntmps6
      go_wp2_with fail
      refine (awake_ok _).mono ?_
      rintro e w4 ⟨rfl, hb4⟩
      go_wp2_with fail
      go_ret
      exact ⟨rfl, hb4⟩
  · have t0 : 40 < (len0 : Int) := by omega
    clear h0
    go_enter Try.func6, Try.ntmps6
    go_wp2_with fail
    refine (awake_ok _).mono ?_
    rintro e w4 ⟨rfl, hb4⟩
    go_wp2_with fail
    go_ret
    exact ⟨rfl, hb4⟩

set_option maxRecDepth 100000 in
theorem lifted (os : Os) (started : os.Started) (H : Type) (enc : TypeId × Value → H) :
    ReturnsInHanded {} Try.checked os 6 .any (Rows.checksumCombinesSpec.pre6 enc Try.prog Try.f6 Rows.checksumCombinesRow.domain false) (Rows.checksumCombinesSpec.post enc Try.prog Try.f6 false true false false) := by
  refine returnsInHanded_of_change (C := Try.checked) own started (by kernel_rfl) Try.func6
    (ChangeSpec.witness6 (enc := enc) (C := Try.checked) false ⟨#[], #[.slice none 0 0, .slice none 0 0, .int .u32 0, .int .u32 0, .int .i64 0], []⟩ 8 (by kernel_rfl) (by kernel_rfl) (by kernel_rfl) (by kernel_rfl)) ?_
  intro W base args ds gs before hval0 hW hcnd _
  have hval : ∀ (j : Nat) t v, Try.f6.params[j]? = some t → args[j]? = some v → Value.okWide Try.prog W .any base t v := hval0
  have hW' := hW
  obtain ⟨p, q, hA0, hV, rfl, hfz, hnd⟩ := hW
  have hA : DataW.TrodAll enc Try.prog W 0 (fun _ => true) true Try.f6.params.toList args.toList ds p := hA0
  rw [Try.params6] at hA hval
  obtain ⟨v0, vs0, d0, ds0, p0, q0, hargs, rfl, rfl, h0, r0⟩ := trodAll_cons hA
  obtain ⟨v1, vs1, d1, ds1, p1, q1, rfl, rfl, rfl, h1, r1⟩ := trodAll_cons r0
  obtain ⟨v2, vs2, d2, ds2, p2, q2, rfl, rfl, rfl, h2, r2⟩ := trodAll_cons r1
  obtain ⟨v3, vs3, d3, ds3, p3, q3, rfl, rfl, rfl, h3, r3⟩ := trodAll_cons r2
  obtain ⟨v4, vs4, d4, ds4, p4, q4, rfl, rfl, rfl, h4, r4⟩ := trodAll_cons r3
  obtain ⟨rfl, rfl, rfl⟩ := trodAll_nil r4
  obtain rfl : args = #[v0, v1, v2, v3, v4] := by cases args; simp_all
  obtain ⟨rfl, rfl⟩ := trodVars_none hV
  obtain ⟨a0, len0, cap0, rfl⟩ := okWide_slice Try.underlying23 (hval 0 23 v0 rfl rfl)
  have k0 := h0
  have lt0 : ∀ x ∈ p0, x.block < W.heap.size := by obtain ⟨m, hm⟩ := k0; exact DataW.trod_lt m _ _ _ hm
  obtain ⟨z0, w0⟩ : ∃ zs, IsRow .u64 W a0 len0 cap0 zs := by
    obtain ⟨fuel, hf⟩ := h0
    rcases open_ints Try.underlying23 Try.underlying33 (by kernel_rfl) hf with ⟨hcs, _⟩ | ⟨x, l, c, zs, hcs, _, hl, hm, hz, _, hcell, hwz⟩
    · simp [Value.cells] at hcs
      obtain ⟨rfl, rfl, rfl⟩ := hcs
      exact ⟨[], .inl ⟨rfl, rfl, rfl, rfl⟩⟩
    · simp [Value.cells] at hcs
      obtain ⟨rfl, rfl, rfl⟩ := hcs
      exact ⟨zs, .inr ⟨_, rfl, hl, hm, by simpa using hz, hcell, hwz⟩⟩
  obtain ⟨a1, len1, cap1, rfl⟩ := okWide_slice Try.underlying23 (hval 1 23 v1 rfl rfl)
  have k1 := h1
  have lt1 : ∀ x ∈ p1, x.block < W.heap.size := by obtain ⟨m, hm⟩ := k1; exact DataW.trod_lt m _ _ _ hm
  obtain ⟨z1, w1⟩ : ∃ zs, IsRow .u64 W a1 len1 cap1 zs := by
    obtain ⟨fuel, hf⟩ := h1
    rcases open_ints Try.underlying23 Try.underlying33 (by kernel_rfl) hf with ⟨hcs, _⟩ | ⟨x, l, c, zs, hcs, _, hl, hm, hz, _, hcell, hwz⟩
    · simp [Value.cells] at hcs
      obtain ⟨rfl, rfl, rfl⟩ := hcs
      exact ⟨[], .inl ⟨rfl, rfl, rfl, rfl⟩⟩
    · simp [Value.cells] at hcs
      obtain ⟨rfl, rfl, rfl⟩ := hcs
      exact ⟨zs, .inr ⟨_, rfl, hl, hm, by simpa using hz, hcell, hwz⟩⟩
  obtain ⟨a2, rfl, rfl, rfl, w2⟩ := open_int Try.underlying24 (hval 2 24 v2 rfl rfl) h2
  obtain ⟨a3, rfl, rfl, rfl, w3⟩ := open_int Try.underlying24 (hval 3 24 v3 rfl rfl) h3
  obtain ⟨a4, rfl, rfl, rfl, w4⟩ := open_int Try.underlying3 (hval 4 3 v4 rfl rfl) h4
  clear hA0 hval0
  refine (walk a0 len0 cap0 z0 a1 len1 cap1 z1 a2 a3 a4 W w0 w1 w2 w3 w4).mono fun e W' ⟨he, bel⟩ => ?_
  subst he
  exact ⟨_, rfl, _, _, _, [], _, [], hW', trodAll_mk1 (shut_bool Try.underlying4 _), (trodAll_cons_mk (Below.trod laidOut (by kernel_rfl) (of_decide_eq_true (by kernel_rfl)) k0 bel lt0) (trodAll_cons_mk (Below.trod laidOut (by kernel_rfl) (of_decide_eq_true (by kernel_rfl)) k1 bel lt1) (trodAll_cons_mk (shut_int Try.underlying24 w2) (trodAll_cons_mk (shut_int Try.underlying24 w3) (trodAll_cons_mk (shut_int Try.underlying3 w4) trodAll_mk0))))), rfl, bel.frame _, fun h => by cases h⟩

theorem over : Rows.checksumCombinesRow.holds Try.pinned (OpenSpec.ofChange Rows.checksumCombinesSpec) :=
  OpenClaim.holds_of_wide 6 Try.f6 rfl rfl rfl rfl rfl rfl rfl ⟨rfl, rfl, rfl, rfl, rfl⟩ rfl rfl rfl rfl rfl (by kernel_rfl) Try.func6 (by kernel_rfl)
    (of_decide_eq_true (by kernel_rfl)) (by unfold Func.isWrapper; first | (rw [if_pos (by decide +kernel)]; kernel_rfl) | (rw [if_neg (by decide +kernel)]; exact ⟨rfl, rfl⟩))
    (fun os started H enc _ => lifted os started H enc)

theorem proved : Rows.ChecksumCombinesSaid := over
#print axioms proved
end Go.Proofs.Ytdkpjfjmccgaoaa.checksumCombines
