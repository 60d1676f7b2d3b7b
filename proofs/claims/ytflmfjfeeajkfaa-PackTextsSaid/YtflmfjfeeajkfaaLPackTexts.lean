/- For all texts s and all n: PackTexts returns true and leaves its arguments as they were. No condition. -/
import Derived.Test.YtflmfjfeeajkfaaRows
import Derived.WalkKit
import Derived.ProofKit
import Derived.OpenShut
import Derived.ShutString
import Derived.ChangeOld
import Derived.Below
import Derived.Carry
import Derived.Test.YtflmfjfeeajkfaaA
import Derived.Test.YtflmfjfeeajkfaaM
namespace Go.Proofs.Ytflmfjfeeajkfaa.packTexts
open Go.ChangeShapes Go.WideShapes Go.ChangeAt Go.RowKit
open Go.ChangeMaps (open_string shut_string)
set_option linter.unusedVariables false

theorem own : ownKnob Try.prog.godebug = none := by kernel_rfl
theorem laidOut : laidOutB Try.prog = true := by kernel_rfl

set_option linter.unusedSimpArgs false
theorem below_drewN (k : Nat) (w : World) (n : Nat) : Below k w (w.drewN n) := ⟨rfl, rfl, rfl, Nat.le_refl _, fun _ _ => rfl⟩
theorem sames (w0 : World) (a b : Option Addr) (len cap cap' : Nat) (ws : List Nat) (hl : len ≤ 9223372036854775807) (hA : Wd w0.heap.size w0 a len cap ws) (hB : Wd w0.heap.size w0 b len cap' ws) :
    Calls Try.prog 12 #[.slice a len cap, .slice b len cap'] w0 fun e w' => e = .returned (.bool true) ∧ Below w0.heap.size w0 w' :=
  (same_yes a b len cap cap' w0.heap.size ws w0 hl hA hB).mono fun e w' ⟨he, n, hw⟩ => ⟨he, by rw [hw]; exact below_drewN _ _ _⟩
theorem nils (w0 : World) : Calls Try.prog 12 #[.slice none 0 0, .slice none 0 0] w0 fun e w' => e = .returned (.bool true) ∧ Below w0.heap.size w0 w' :=
  sames w0 none none 0 0 0 [] (by omega) ⟨rfl, fun j hj => by omega, fun _ => ⟨rfl, rfl⟩, .inl rfl⟩ ⟨rfl, fun j hj => by omega, fun _ => ⟨rfl, rfl⟩, .inl rfl⟩
theorem wd_text {w w' : World} {g cap : Nat} {s : ByteArray} (hs : s.size ≤ 100000) (h : w'.ownsRow w.heap.size 32 1 (.slice (some ⟨g, 0, none⟩) (ln s.size) cap) (ln s.size) (rowu (ln s.size) (tw (byt s) s.size s.size))) : Wd w'.heap.size w' (some ⟨g, 0, none⟩) (ln s.size) cap (wt s) := by
  rw [wt_row] at h
  obtain ⟨a, c, e, hW⟩ := own_wd h (fun j hj => wt_lt s hs j hj)
  simp only [Value.slice.injEq, true_and] at e
  obtain ⟨rfl, rfl⟩ := e
  exact hW
theorem text_wd (s : ByteArray) (hs : s.size ≤ 8192) (w : World) :
    Calls Try.prog 10 #[.string s] w fun e w' => ∃ a cap, e = .returned (.tuple #[.slice a (ln s.size) cap, .int .i64 0]) ∧ Hid (Wd w'.heap.size w' a (ln s.size) cap (wt s)) ∧ Below w.heap.size w w' :=
  (text_ok s hs w).mono fun e w' ⟨g, cap, he, hd, hb⟩ => ⟨_, cap, he, wd_text (by omega) hd.out, hb⟩
theorem rtext_wd (s : ByteArray) (hs : s.size ≤ 8192) (w : World) :
    Calls Try.prog 11 #[.string s] w fun e w' => ∃ a cap, e = .returned (.tuple #[.slice a (ln s.size) cap, .int .i64 0]) ∧ Hid (Wd w'.heap.size w' a (ln s.size) cap (wt s)) ∧ Below w.heap.size w w' :=
  (rtext_ok s hs w).mono fun e w' ⟨g, cap, he, hd, hb⟩ => ⟨_, cap, he, wd_text (by omega) hd.out, hb⟩
theorem len_both (m : Int) (h : m ≤ 100000) : ∃ v : Int, (∀ w, Calls Try.prog 13 #[.int .i64 m] w fun e w' => e = .returned (.int .i64 v) ∧ w = w') ∧ (∀ w, Calls Try.prog 14 #[.int .i64 m] w fun e w' => e = .returned (.int .i64 v) ∧ w = w') := by
  by_cases h0 : m < 0
  · exact ⟨0, length_neg m h0, rlength_neg m h0⟩
  · obtain ⟨k, rfl⟩ := Int.eq_ofNat_of_zero_le (show 0 ≤ m by omega)
    exact ⟨_, length_nat k (by omega), rlength_nat k (by omega)⟩

set_option maxHeartbeats 1000000 in
theorem walk (s : ByteArray) (a1 : Int) (w : World) (w0 : s.size ≤ maxLen) (w1 : (Lit.int .i64 a1).wf = true) :
    Calls Try.prog 3 #[.string s, .int .i64 a1] w fun e w' => e = .returned (.bool true) ∧ Below w.heap.size w w' := by
  unfold maxLen at w0
  clear w1
  by_cases h1 : 8201 < (s.size : Int)
  · go_enter Try.func3, Try.ntmps3
    go_wp2_with fail
    refine (awake_ok _).mono ?_
    rintro e w1 ⟨rfl, hb1⟩
    go_wp2_with fail
    go_ret
    exact ⟨rfl, hb1⟩
  have hm : a1.tmod 100000 ≤ 100000 := by
    have := Int.tmod_lt_of_pos a1 (show (0 : Int) < 100000 by omega)
    omega
  obtain ⟨v, LA, LB⟩ := len_both (a1.tmod 100000) hm
  have LA := hid LA
  have LB := hid LB
  generalize hmm : a1.tmod 100000 = m at *
  by_cases h2 : s.size ≤ 8192
  · obtain ⟨k1, k2, k3⟩ := wt_ok s h2
    have K1 := hid k1
    have K2 := hid k2
    have K3 := hid k3
    have hl : ln s.size ≤ 2000 := by unfold ln; omega
    have HLN := hid (length_nat s.size (by omega))
    clear k1 k2 k3
    generalize hN : ln s.size = N at *
    have HTX := text_wd s h2
    have HRX := rtext_wd s h2
    rw [hN] at HTX HRX
    have HTX := hid HTX
    have HRX := hid HRX
    clear hN
    go_enter Try.func3, Try.ntmps3
    go_wp2_with fail
    refine (HTX.out _).mono ?_
    rintro e w1 ⟨b1, cap1, rfl, D1, hb1⟩
    have HB1 := hid hb1
    clear hb1
    go_wp2_with fail
    refine (HRX.out _).mono ?_
    rintro e w2 ⟨b2, cap2, rfl, D2, hb2⟩
    have HB2 := hid (bt HB1.out hb2)
    have E1 := hid (D1.out.kept hb2)
    clear hb2 HB1 D1
    go_wp2_with fail
    refine (sames _ _ _ _ _ _ _ (by omega) E1.out D2.out).mono ?_
    rintro e w3 ⟨rfl, hb3⟩
    have HB3 := hid (bt HB2.out hb3)
    have E3 := hid (E1.out.kept hb3)
    clear hb3 HB2 E1 D2
    go_wp2_with fail
    refine (LA.out _).mono ?_
    rintro e w4 ⟨rfl, rfl⟩
    go_wp2_with fail
    refine (LB.out _).mono ?_
    rintro e w4 ⟨rfl, rfl⟩
    go_wp2_with fail
    refine (ft_yes _ _ _ _ _ E3.out K1.out).mono ?_
    rintro e w4 ⟨rfl, hb4⟩
    rw [K2.out, K3.out]
    have HB4 := hid (bt HB3.out hb4)
    clear hb4 HB3 E3
    go_wp2_with fail
    refine (HLN.out _).mono ?_
    rintro e w5 ⟨rfl, rfl⟩
    go_wp2_with fail
    refine (awake_ok _).mono ?_
    rintro e w5 ⟨rfl, hb5⟩
    go_wp2_with fail
    go_ret
    exact ⟨rfl, bt HB4.out hb5⟩
  · have HTX := hid (text_no s (by omega))
    have HRX := hid (rtext_no s (by omega))
    go_enter Try.func3, Try.ntmps3
    go_wp2_with fail
    refine (HTX.out _).mono ?_
    rintro e w1 ⟨rfl, rfl⟩
    go_wp2_with fail
    refine (HRX.out _).mono ?_
    rintro e w1 ⟨rfl, rfl⟩
    go_wp2_with fail
    refine (nils _).mono ?_
    rintro e w3 ⟨rfl, hb3⟩
    have HB3 := hid hb3
    clear hb3
    go_wp2_with fail
    refine (LA.out _).mono ?_
    rintro e w4 ⟨rfl, rfl⟩
    go_wp2_with fail
    refine (LB.out _).mono ?_
    rintro e w4 ⟨rfl, rfl⟩
    go_wp2_with fail
    refine (ft_short _ _ _).mono ?_
    rintro e w4 ⟨rfl, rfl⟩
    go_wp2_with fail
    refine (awake_ok _).mono ?_
    rintro e w5 ⟨rfl, hb5⟩
    go_wp2_with fail
    go_ret
    exact ⟨rfl, bt HB3.out hb5⟩

set_option maxRecDepth 100000 in
theorem lifted (os : Os) (started : os.Started) (H : Type) (enc : TypeId × Value → H) :
    ReturnsInHanded {} Try.checked os 3 .any (Rows.packTextsSpec.pre6 enc Try.prog Try.f3 Rows.packTextsRow.domain false) (Rows.packTextsSpec.post enc Try.prog Try.f3 false true false false) := by
  refine returnsInHanded_of_change (C := Try.checked) own started (by kernel_rfl) Try.func3
    (ChangeSpec.witness6 (enc := enc) (C := Try.checked) false ⟨#[], #[.string ByteArray.empty, .int .i64 0], []⟩ 8 (by kernel_rfl) (by kernel_rfl) (by kernel_rfl) (by kernel_rfl)) ?_
  intro W base args ds gs before hval0 hW hcnd _
  have hval : ∀ (j : Nat) t v, Try.f3.params[j]? = some t → args[j]? = some v → Value.okWide Try.prog W .any base t v := hval0
  have hW' := hW
  obtain ⟨p, q, hA0, hV, rfl, hfz, hnd⟩ := hW
  have hA : DataW.TrodAll enc Try.prog W 0 (fun _ => true) true Try.f3.params.toList args.toList ds p := hA0
  rw [Try.params3] at hA hval
  obtain ⟨v0, vs0, d0, ds0, p0, q0, hargs, rfl, rfl, h0, r0⟩ := trodAll_cons hA
  obtain ⟨v1, vs1, d1, ds1, p1, q1, rfl, rfl, rfl, h1, r1⟩ := trodAll_cons r0
  obtain ⟨rfl, rfl, rfl⟩ := trodAll_nil r1
  obtain rfl : args = #[v0, v1] := by cases args; simp_all
  obtain ⟨rfl, rfl⟩ := trodVars_none hV
  obtain ⟨a0, rfl, rfl, rfl, w0⟩ := open_string Try.underlying9 (hval 0 9 v0 rfl rfl) h0
  obtain ⟨a1, rfl, rfl, rfl, w1⟩ := open_int Try.underlying3 (hval 1 3 v1 rfl rfl) h1
  clear hA0 hval0
  refine (walk a0 a1 W w0 w1).mono fun e W' ⟨he, bel⟩ => ?_
  subst he
  exact ⟨_, rfl, _, _, _, [], _, [], hW', trodAll_mk1 (shut_bool Try.underlying4 _), (trodAll_cons_mk (shut_string Try.underlying9 w0) (trodAll_cons_mk (shut_int Try.underlying3 w1) trodAll_mk0)), rfl, bel.frame _, fun h => by cases h⟩

theorem over : Rows.packTextsRow.holds Try.pinned (OpenSpec.ofChange Rows.packTextsSpec) :=
  OpenClaim.holds_of_wide 3 Try.f3 rfl rfl rfl rfl rfl rfl rfl ⟨rfl, rfl, rfl, rfl, rfl⟩ rfl rfl rfl rfl rfl (by kernel_rfl) Try.func3 (by kernel_rfl)
    (of_decide_eq_true (by kernel_rfl)) (by unfold Func.isWrapper; first | (rw [if_pos (by decide +kernel)]; kernel_rfl) | (rw [if_neg (by decide +kernel)]; exact ⟨rfl, rfl⟩))
    (fun os started H enc _ => lifted os started H enc)

theorem proved : Rows.PackTextsSaid := over
#print axioms proved
end Go.Proofs.Ytflmfjfeeajkfaa.packTexts
