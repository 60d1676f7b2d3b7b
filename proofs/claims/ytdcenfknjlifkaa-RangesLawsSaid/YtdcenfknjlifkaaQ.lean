/- Equal of layer 3, where it is true. No conditions but those of each theorem. -/
import Derived.Test.YtdcenfknjlifkaaO
namespace Go.Proofs.Ytdcenfknjlifkaa
open Go.ChangeShapes Go.WideShapes Go.ChangeAt Go.RowKit
set_option linter.unusedVariables false
set_option linter.unusedSimpArgs false

set_option maxHeartbeats 1000000 in
theorem sleq_any (a b : Option Addr) (len cap cap2 : Nat) (rs : List Rn) (hbig : len ≤ 1000000) (w : World) (hR : Rg w.heap.size w a len rs) (hR2 : Rg w.heap.size w b len rs) :
    Calls Try.prog 37 #[.slice a len cap, .slice b len cap2] w fun e w' => e = .returned (.bool true) ∧ Below w.heap.size w w' := by
  have HR := hid hR; have HR2 := hid hR2
  clear hR hR2
  go_enter Try.func37, Try.ntmps37
  go_wp2_with fail
  go_loopw [13] (fun iv wr => ∃ k m : Nat, k ≤ len ∧ iv = .int .i64 (k : Int) ∧ wr = w.drewN m) (fun iv _ => len - (intOf iv).toNat)
  case atStart => exact ⟨0, 0, by omega, rfl, rfl⟩
  case round =>
    obtain ⟨k, m, hk, rfl, rfl⟩ := hrel
    by_cases hlt : k < len
    · have h3 : (k : Int) < (len : Int) := by omega
      obtain ⟨g, off, rfl, hgl, hall⟩ := HR.out.2.2.resolve_left (by omega)
      obtain ⟨g2, off2, rfl, hgl2, hall2⟩ := HR2.out.2.2.resolve_left (by omega)
      obtain ⟨c0, c1⟩ := hall k hlt
      obtain ⟨d0, d1⟩ := hall2 k hlt
      obtain ⟨⟨s, l⟩, hr⟩ : ∃ r : Rn, r = rs[k]?.getD (0, 0) := ⟨_, rfl⟩
      rw [← hr] at c0 c1 d0 d1
      simp only at c0 c1 d0 d1
      clear hall hall2 hr
      go_wp2_with fail
      go_quiet (fail)
      go_wp2_with fail
      go_roundw
      case rel => exact ⟨k + 1, m + nq, by omega, by go_num, rfl⟩
      case measure => simp [intOf]; omega
    · obtain rfl : k = len := by omega
      have h3 : ¬ (k : Int) < (k : Int) := by omega
      go_wp2_with fail
      go_ret
      exact ⟨rfl, ⟨rfl, rfl, rfl, Nat.le_refl _, fun _ _ => rfl⟩⟩

set_option maxHeartbeats 1000000 in
theorem equal_yes (a b : Option Addr) (len cap len2 cap2 : Nat) (rs rs2 : List Rn) (hbig : len ≤ 10000) (hbig2 : len2 ≤ 10000) (hv : ∀ r ∈ rs, Vld r) (hv2 : ∀ r ∈ rs2, Vld r) (hm : ∀ n, Mem rs n ↔ Mem rs2 n) (w : World) (hR : Rg w.heap.size w a len rs) (hR2 : Rg w.heap.size w b len2 rs2) :
    Calls Try.prog 27 #[.slice a len cap, .slice b len2 cap2] w fun e w' => e = .returned (.bool true) ∧ Below w.heap.size w w' := by
  have HR := hid hR; have HR2 := hid hR2; have HV := hid hv; have HV2 := hid hv2; have HM := hid hm
  clear hR hR2 hv hv2 hm
  go_enter Try.func27, Try.ntmps27
  go_wp2_with fail
  have P0 := hid (Pr.new w 22 (.slice a len cap) (.slice b len2 cap2))
  have hB0 := hid ((Below.refl w.heap.size w).alloc (Nat.le_refl _) (.cells #[.slice a len cap, .slice b len2 cap2] 22))
  have hs0 := hid (show w.heap.size ≤ (w.alloc (.cells #[.slice a len cap, .slice b len2 cap2] 22)).heap.size by simp)
  generalize w.alloc (.cells #[.slice a len cap, .slice b len2 cap2] 22) = wA at *
  refine (check_ok w.heap.size a b len cap len2 cap2 rs rs2 (by omega) (by omega) HV.out HV2.out wA P0.out (HR.out.kept2 hB0.out hs0.out) (HR2.out.kept2 hB0.out hs0.out)).mono ?_
  rintro e w1 ⟨rfl, hb⟩
  have HB1 := hid (hB0.out.trans (hb.mono hs0.out))
  have hs1 := hid (Nat.le_trans hs0.out hb.size)
  clear hB0 P0 hb hs0
  go_wp2_with fail
  refine (normal_any a len cap rs (by omega) HV.out w1 (HR.out.kept2 HB1.out hs1.out)).mono ?_
  rintro e w2 ⟨v1, rfl, A, hA, hAl, hAm, H2⟩
  obtain ⟨a1, c1, ev, hRA⟩ := own_rg H2.out.1 (fun r hr => by have := hA.1 r hr; unfold I64; omega)
  subst ev
  have HA := hid hRA
  have HB2 := hid (HB1.out.trans (H2.out.2.mono hs1.out))
  have hs2 := hid (Nat.le_trans hs1.out H2.out.2.size)
  clear H2 hRA HB1 hs1
  go_wp2_with fail
  refine (normal_any b len2 cap2 rs2 (by omega) HV2.out w2 (HR2.out.kept2 HB2.out hs2.out)).mono ?_
  rintro e w3 ⟨v2, rfl, B, hB, hBl, hBm, H3⟩
  obtain ⟨b1, d1, ev, hRB⟩ := own_rg H3.out.1 (fun r hr => by have := hB.1 r hr; unfold I64; omega)
  subst ev
  have hAB : A = B := nf_unique A B hA hB fun n => (hAm n).trans ((HM.out n).trans (hBm n).symm)
  subst hAB
  have HBr := hid hRB
  have HA3 := hid (HA.out.kept H3.out.2)
  have HB3 := hid (HB2.out.trans (H3.out.2.mono hs2.out))
  have hs3 := hid (Nat.le_trans hs2.out H3.out.2.size)
  clear H3 hRB HB2 hs2
  go_wp2_with fail
  refine (sleq_any a1 b1 A.length c1 d1 A (by omega) w3 HA3.out HBr.out).mono ?_
  rintro e w4 ⟨rfl, hb⟩
  have HB4 := hid (HB3.out.trans (hb.mono hs3.out))
  clear hb
  go_wp2_with fail
  go_ret
  exact ⟨rfl, HB4.out⟩
end Go.Proofs.Ytdcenfknjlifkaa
