/- For all words a and b: ChecksumExtends returns true and leaves its arguments as they were. No condition. -/
import Derived.Test.YtdkpjfjmccgaoaaRows
import Derived.WalkKit
import Derived.ProofKit
import Derived.OpenShut
import Derived.ShutString
import Derived.ChangeOld
import Derived.Below
import Derived.Carry
import Derived.Test.YtdkpjfjmccgaoaaC
import Derived.Test.YtdkpjfjmccgaoaaD
import Derived.Test.YtdkpjfjmccgaoaaI
import Derived.Test.YtdkpjfjmccgaoaaM
import Derived.Test.YtdkpjfjmccgaoaaX
import Derived.Test.YtdkpjfjmccgaoaaF
import Derived.Test.YtdkpjfjmccgaoaaG
import Derived.Test.YtdkpjfjmccgaoaaH
namespace Go.Proofs.Ytdkpjfjmccgaoaa.checksumExtends
open Go.ChangeShapes Go.WideShapes Go.ChangeAt Go.RowKit
open Go.ChangeMaps (open_string shut_string)
set_option linter.unusedVariables false

theorem own : ownKnob Try.prog.godebug = none := by kernel_rfl
theorem laidOut : laidOutB Try.prog = true := by kernel_rfl

theorem walk (a0 : Option Addr) (len0 cap0 : Nat) (z0 : List Int) (a1 : Option Addr) (len1 cap1 : Nat) (z1 : List Int) (w : World) (w0 : IsRow .u64 w a0 len0 cap0 z0) (w1 : IsRow .u64 w a1 len1 cap1 z1) :
    Calls Try.prog 4 #[.slice a0 len0 cap0, .slice a1 len1 cap1] w fun e w' => e = .returned (.bool true) ∧ Below w.heap.size w w' := by
  obtain ⟨i0, hi, hz0, hz1, hz2⟩ := info_parts Try.info33
  have HI := hid hi; have HZ0 := hid hz0; have HZ1 := hid hz1; have HZ2 := hid hz2
  clear hi hz0 hz1 hz2
  obtain ⟨hA, _⟩ := wo_of w0
  obtain ⟨hB, _⟩ := wo_of w1
  obtain ⟨sA, lA⟩ := src_of w0
  obtain ⟨sB, lB⟩ := src_of w1
  generalize z0.map Int.toNat = A at hA sA lA
  generalize z1.map Int.toNat = B at hB sB lB
  have HA := hid hA
  have HB := hid hB
  clear w0 w1 hA hB
  by_cases h0 : (len0 : Int) ≤ 60
  · by_cases h1 : (len1 : Int) ≤ 60
    · have t0 : ¬ 60 < (len0 : Int) := by omega
      have t1 : ¬ 60 < (len1 : Int) := by omega
      have hr0 : len0 * 8 ≤ 140737488351232 := by omega
      have hr1 : len1 * 8 ≤ 140737488351232 := by omega
      have hr2 : (len0 + len1) * 8 ≤ 140737488351232 := by omega
      have HS := hid (ext_lt 0 (by omega) A len0)
      have E1 := hid (ext_append A (B.take len1) len0 len1 lA)
      have E2 := hid (show ext (ext 0 A len0) (B.take len1) len1 = ext (ext 0 A len0) B len1 by unfold ext; rw [wds_congr _ (B.take len1) B len1 (fun j hj => by rw [List.getElem?_take_of_lt hj])])
      have HW := hid (show ∀ j, j < len0 + len1 → (A.take len0 ++ B.take len1)[j]?.getD 0 < 18446744073709551616 from fun j hj => by
        by_cases hj0 : j < len0
        · rw [List.getElem?_append_left (by simp; omega)]; exact take_lt HA.out.1 j hj0
        · rw [List.getElem?_append_right (by simp; omega)]
          have e : (A.take len0).length = len0 := by simp; omega
          rw [e]; exact take_lt HB.out.1 _ (by omega))
      have LA := hid (show (vs (A.take len0)).length = len0 * 1 by simp [vs]; omega)
      have LB := hid (show (vs (B.take len1)).length = len1 * 1 by simp [vs]; omega)
      have VS := hid (show vs (A.take len0) ++ vs (B.take len1) = vs (A.take len0 ++ B.take len1) by simp [vs])
      have C1 := hid (show 0 + len0 ≤ maxLen by unfold maxLen; omega)
      have C2 := hid (show (0 + len0) * 8 ≤ 140737488355328 by omega)
      have C3 := hid (show len0 + len1 ≤ maxLen by unfold maxLen; omega)
      have C4 := hid (show (len0 + len1) * 8 ≤ 140737488355328 by omega)
      have O1 := hid (one_of (A.take len0))
      have O2 := hid (one_of (B.take len1))
      have SA := hid sA
      have SB := hid sB
      clear sA sB
      go_enter Try.func4, Try.ntmps4
      go_wp2_with fail
      refine (words_ok _ _ _ _ hr0 _ HA.out).mono ?_
      rintro e w1 ⟨rfl, hb1⟩
      have HB1 := hid (Wo.kept HB.out hb1)
      go_wp2_with fail
      refine (extend_ok _ HS.out _ _ _ _ hr1 _ HB1.out).mono ?_
      rintro e w2 ⟨rfl, hb2⟩
      have hbs2 := hid (bt hb1 hb2)
      have hsz2 := hid (show w.heap.size ≤ w2.heap.size from hbs2.out.size)
      go_wp2_with (first | (at_builtin; refine wpList_append_src _ rfl (.const (.slice none 0 0)) _ 23 rfl w.heap.size 33 i0 (.int .u64 0) 1 8 Try.underlying23 HI.out HZ0.out HZ1.out HZ2.out rfl (by decide) (.slice none 0 0) 0 [] rfl (World.ownsRow_nil _ _ _ _) _ _ _ _ rfl (SA.out _ hbs2.out) LA.out O1.out C1.out C2.out hsz2.out ?_; intro v3 w3 hown3 hgrow3; simp only [Nat.zero_add, List.nil_append] at hown3; have hb3 := hid (hbs2.out.grown hgrow3 hsz2.out (fun k e => by simp [Value.ownBlock] at e))) | (at_builtin; refine wpList_append_src _ rfl _ _ 23 rfl w.heap.size 33 i0 (.int .u64 0) 1 8 Try.underlying23 HI.out HZ0.out HZ1.out HZ2.out rfl (by decide) v3 _ _ rfl hown3 _ _ _ _ rfl (SB.out _ hb3.out) LB.out O2.out C3.out C4.out hb3.out.size ?_; intro v4 w4 hown4 hgrow4))
      rw [VS.out] at hown4
      have hb4 := hid (hb3.out.grown hgrow4 hb3.out.size (own_base hown3))
      obtain ⟨a4, cap4, hv4, hw4⟩ := own_form hown4 HW.out
      rw [hv4]
      clear hv4 hown4 hgrow4 hown3 hgrow3
      have HW4 := hid hw4
      clear hw4
      refine (words_ok _ _ _ _ hr2 _ HW4.out).mono ?_
      rintro e w5 ⟨rfl, hb5⟩
      rw [E1.out, E2.out]
      have hb05 := hid (bt hb4.out hb5)
      have HA5 := hid (Wo.kept HA.out hb05.out)
      go_wp2_with fail
      refine (words_ok _ _ _ _ hr0 _ HA5.out).mono ?_
      rintro e w6 ⟨rfl, hb6⟩
      have HE := hid (extend_ok (ext 0 A len0) HS.out none 0 0 [] (by omega) w6 ⟨fun j hj => by omega, .inl rfl⟩)
      rw [ext_nil] at HE
      go_wp2_with fail
      refine HE.out.mono ?_
      rintro e w7 ⟨rfl, hb7⟩
      have hb07 := hid (bt (bt hb05.out hb6) hb7)
      have HA7 := hid (Wo.kept HA.out hb07.out)
      go_wp2_with fail
      refine (words_ok _ _ _ _ hr0 _ HA7.out).mono ?_
      rintro e w8 ⟨rfl, hb8⟩
      go_wp2_with fail
      refine (awake_ok _).mono ?_
      rintro e w9 ⟨rfl, hb9⟩
      go_wp2_with fail
      go_ret
      exact ⟨rfl, bt (bt hb07.out hb8) hb9⟩
    · have t0 : ¬ 60 < (len0 : Int) := by omega
      have t1 : 60 < (len1 : Int) := by omega
      clear h1
      go_enter Try.func4, Try.ntmps4
      go_wp2_with fail
      refine (awake_ok _).mono ?_
      rintro e w4 ⟨rfl, hb4⟩
      go_wp2_with fail
      go_ret
      exact ⟨rfl, hb4⟩
  · have t0 : 60 < (len0 : Int) := by omega
    clear h0
    go_enter Try.func4, Try.ntmps4
    go_wp2_with fail
    refine (awake_ok _).mono ?_
    rintro e w4 ⟨rfl, hb4⟩
    go_wp2_with fail
    go_ret
    exact ⟨rfl, hb4⟩

set_option maxRecDepth 100000 in
theorem lifted (os : Os) (started : os.Started) (H : Type) (enc : TypeId × Value → H) :
    ReturnsInHanded {} Try.checked os 4 .any (Rows.checksumExtendsSpec.pre6 enc Try.prog Try.f4 Rows.checksumExtendsRow.domain false) (Rows.checksumExtendsSpec.post enc Try.prog Try.f4 false true false false) := by
  refine returnsInHanded_of_change (C := Try.checked) own started (by kernel_rfl) Try.func4
    (ChangeSpec.witness6 (enc := enc) (C := Try.checked) false ⟨#[], #[.slice none 0 0, .slice none 0 0], []⟩ 8 (by kernel_rfl) (by kernel_rfl) (by kernel_rfl) (by kernel_rfl)) ?_
  intro W base args ds gs before hval0 hW hcnd _
  have hval : ∀ (j : Nat) t v, Try.f4.params[j]? = some t → args[j]? = some v → Value.okWide Try.prog W .any base t v := hval0
  have hW' := hW
  obtain ⟨p, q, hA0, hV, rfl, hfz, hnd⟩ := hW
  have hA : DataW.TrodAll enc Try.prog W 0 (fun _ => true) true Try.f4.params.toList args.toList ds p := hA0
  rw [Try.params4] at hA hval
  obtain ⟨v0, vs0, d0, ds0, p0, q0, hargs, rfl, rfl, h0, r0⟩ := trodAll_cons hA
  obtain ⟨v1, vs1, d1, ds1, p1, q1, rfl, rfl, rfl, h1, r1⟩ := trodAll_cons r0
  obtain ⟨rfl, rfl, rfl⟩ := trodAll_nil r1
  obtain rfl : args = #[v0, v1] := by cases args; simp_all
  obtain ⟨rfl, rfl⟩ := trodVars_none hV
  obtain ⟨a0, len0, cap0, rfl⟩ := okWide_slice Try.underlying23 (hval 0 23 v0 rfl rfl)
  have k0 := h0
  have lt0 : ∀ x ∈ p0, x.block < W.heap.size := by obtain ⟨m, hm⟩ := k0; exact DataW.trod_lt m _ _ _ hm
  obtain ⟨z0, w0⟩ : ∃ zs, IsRow .u64 W a0 len0 cap0 zs := by
    obtain ⟨fuel, hf⟩ := h0
    rcases open_ints Try.underlying23 Try.underlying33 (by kernel_rfl) hf with ⟨hcs, _⟩ | ⟨x, l, c, zs, hcs, _, hl, hm, hz, _, hcell, hwz⟩
    · simp [Value.cells] at hcs
      obtain ⟨rfl, rfl, rfl⟩ := hcs
      exact ⟨[], .inl ⟨rfl, rfl, rfl, rfl⟩⟩
    · simp [Value.cells] at hcs
      obtain ⟨rfl, rfl, rfl⟩ := hcs
      exact ⟨zs, .inr ⟨_, rfl, hl, hm, by simpa using hz, hcell, hwz⟩⟩
  obtain ⟨a1, len1, cap1, rfl⟩ := okWide_slice Try.underlying23 (hval 1 23 v1 rfl rfl)
  have k1 := h1
  have lt1 : ∀ x ∈ p1, x.block < W.heap.size := by obtain ⟨m, hm⟩ := k1; exact DataW.trod_lt m _ _ _ hm
  obtain ⟨z1, w1⟩ : ∃ zs, IsRow .u64 W a1 len1 cap1 zs := by
    obtain ⟨fuel, hf⟩ := h1
    rcases open_ints Try.underlying23 Try.underlying33 (by kernel_rfl) hf with ⟨hcs, _⟩ | ⟨x, l, c, zs, hcs, _, hl, hm, hz, _, hcell, hwz⟩
    · simp [Value.cells] at hcs
      obtain ⟨rfl, rfl, rfl⟩ := hcs
      exact ⟨[], .inl ⟨rfl, rfl, rfl, rfl⟩⟩
    · simp [Value.cells] at hcs
      obtain ⟨rfl, rfl, rfl⟩ := hcs
      exact ⟨zs, .inr ⟨_, rfl, hl, hm, by simpa using hz, hcell, hwz⟩⟩
  clear hA0 hval0
  refine (walk a0 len0 cap0 z0 a1 len1 cap1 z1 W w0 w1).mono fun e W' ⟨he, bel⟩ => ?_
  subst he
  exact ⟨_, rfl, _, _, _, [], _, [], hW', trodAll_mk1 (shut_bool Try.underlying4 _), (trodAll_cons_mk (Below.trod laidOut (by kernel_rfl) (of_decide_eq_true (by kernel_rfl)) k0 bel lt0) (trodAll_cons_mk (Below.trod laidOut (by kernel_rfl) (of_decide_eq_true (by kernel_rfl)) k1 bel lt1) trodAll_mk0)), rfl, bel.frame _, fun h => by cases h⟩

theorem over : Rows.checksumExtendsRow.holds Try.pinned (OpenSpec.ofChange Rows.checksumExtendsSpec) :=
  OpenClaim.holds_of_wide 4 Try.f4 rfl rfl rfl rfl rfl rfl rfl ⟨rfl, rfl, rfl, rfl, rfl⟩ rfl rfl rfl rfl rfl (by kernel_rfl) Try.func4 (by kernel_rfl)
    (of_decide_eq_true (by kernel_rfl)) (by unfold Func.isWrapper; first | (rw [if_pos (by decide +kernel)]; kernel_rfl) | (rw [if_neg (by decide +kernel)]; exact ⟨rfl, rfl⟩))
    (fun os started H enc _ => lifted os started H enc)

theorem proved : Rows.ChecksumExtendsSaid := over
#print axioms proved
end Go.Proofs.Ytdkpjfjmccgaoaa.checksumExtends
