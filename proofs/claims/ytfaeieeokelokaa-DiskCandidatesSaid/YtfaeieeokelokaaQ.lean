/- The program's Flush. No conditions but those of each theorem. -/
import Derived.Test.YtfaeieeokelokaaJ
namespace Go.Proofs.Ytfaeieeokelokaa
open Go.ChangeShapes Go.WideShapes Go.ChangeAt Go.RowKit
set_option linter.unusedVariables false
set_option linter.unusedSimpArgs false
attribute [local go_sem] Oper.semAt_some putAll
theorem surv42 (j : Int) (w : World) : Calls Try.prog 42 #[.int .i64 j] w fun e w' => e = .returned (.bool true) ∧ w' = w := by
  go_enter Try.func42, Try.ntmps42
  go_wp2_with fail
  go_ret
  exact ⟨rfl, rfl⟩
theorem surv61 (j : Int) (w : World) : Calls Try.prog 61 #[.int .i64 j] w fun e w' => e = .returned (.bool false) ∧ w' = w := by
  go_enter Try.func61, Try.ntmps61
  go_wp2_with fail
  go_ret
  exact ⟨rfl, rfl⟩
/-- what Flush leaves -/
def flK (k : Dk) (d : Int) : Dk := if chk3 k d 0 = 0 then { k with U := stU d.toNat true k.U k.F, F := stF k.F d.toNat } else k
set_option maxRecDepth 100000 in
set_option maxHeartbeats 8000000 in
theorem flush_ok {W : World} {A : Nat} {c : Co} {k : Dk} (h : DA W A c k) (d : Int) (hF : k.F.length ≤ 2 ^ 32) :
    Calls Try.prog 14 #[.pointer (some ⟨A, 0, none⟩), .int .i64 d] W fun e W' => e = .returned (.int .i64 (chk3 k d 0)) ∧ Hid (DA W' A c (flK k d) ∧ Gr (fp A c) W W') := by
  have H := hid h
  have HF := hid (first3_in h d 0)
  have HK0 := hid (show flK k d = if chk3 k d 0 = 0 then { k with U := stU d.toNat true k.U k.F, F := stF k.F d.toNat } else k from rfl)
  clear h
  by_cases hz : chk3 k d 0 = 0
  · rw [if_pos hz] at HK0
    obtain ⟨k1, k2, k3⟩ := chk3_ok hz
    obtain ⟨n, m, rfl, hm, hn, hm2⟩ := hs_iff.1 k2
    rw [hz] at HF ⊢
    rw [show ((n : Int)).toNat = n from rfl] at HK0
    have HN := hid hn
    have HFF := hid hF
    clear k1 k2 k3 hz hm hm2 hn hF
    go_enter Try.func14, Try.ntmps14
    go_wp2_with fail
    refine HF.out.mono ?_
    rintro e w1 ⟨rfl, HB⟩
    have H1 := hid (H.out.below HB.out)
    have HG := hid (Gr.of_below HB.out (fp A c))
    clear HF HB
    go_wp2_with fail
    refine (settle_ok H1.out n HN.out HFF.out 42 true (fun args w => enters_of Try.func42 (by kernel_rfl) rfl args w) surv42).mono ?_
    rintro e w2 ⟨rfl, HS⟩
    go_wp2_with fail
    go_ret
    exact ⟨rfl, hid ⟨by rw [HK0.out]; exact HS.out.1, HG.out.trans HS.out.2⟩⟩
  · rw [if_neg hz] at HK0
    rw [HK0.out]
    have hzb : (chk3 k d 0 != 0) = true := by simpa using hz
    generalize chk3 k d 0 = x at *
    go_enter Try.func14, Try.ntmps14
    go_wp2_with fail
    refine HF.out.mono ?_
    rintro e w1 ⟨rfl, HB⟩
    have H1 := hid (H.out.below HB.out)
    have HG := hid (Gr.of_below HB.out (fp A c))
    go_wp2_with fail
    go_ret
    exact ⟨rfl, hid ⟨H1.out, HG.out⟩⟩
end Go.Proofs.Ytfaeieeokelokaa
