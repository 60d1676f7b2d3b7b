/- The check of layer 8 that always holds. No conditions. -/
import Derived.Test.YtdpclmogfnigdaaG
namespace Go.Proofs.Ytdpclmogfnigdaa
open Go.ChangeShapes Go.WideShapes Go.ChangeAt Go.RowKit
set_option linter.unusedVariables false
set_option linter.unusedSimpArgs false

def wData : List UInt8 := [100, 97, 116, 97]
def wLeg : List UInt8 := [100, 97, 116, 97, 95, 108, 101, 103, 48]
def wLog : List UInt8 := [100, 97, 116, 97, 95, 108, 101, 103, 48, 95, 108, 111, 103]
theorem aw1 : legT wData 0 = (wLeg, 0) := by kernel_rfl
theorem aw2 : partL wLeg 1 = (wLog, 0) := by kernel_rfl
theorem aw3 : rootL wLog = wData := by kernel_rfl
theorem aw4 : visL wData = true := by kernel_rfl
theorem aw5 : hidL wLog = true := by kernel_rfl
set_option maxHeartbeats 4000000 in
theorem awake_any (w : World) :
    Calls Try.prog 8 #[] w fun e w' => e = .returned (.bool true) ∧ Below w.heap.size w w' := by
  have H1 := hid (fun w => leg_any ⟨#[100, 97, 116, 97]⟩ 0 (by decide) w)
  have H2 := hid (fun w => part_any (bs wLeg) 1 (by decide) w)
  have H3 := hid (fun w => root_any (bs wLog) (by decide) w)
  have H4 := hid (fun w => vis_any ⟨#[100, 97, 116, 97]⟩ (by decide) w)
  have H5 := hid (fun w => hid_any (bs wLog) (by decide) w)
  rw [show (⟨#[100, 97, 116, 97]⟩ : ByteArray).data.toList = wData from rfl, aw1] at H1
  rw [show (⟨#[100, 97, 116, 97]⟩ : ByteArray).data.toList = wData from rfl, aw4] at H4
  rw [bs_data, aw2] at H2
  rw [bs_data, aw3] at H3
  rw [bs_data, aw5] at H5
  have e1 : ((bs wLog).toList == [100, 97, 116, 97, 95, 108, 101, 103, 48, 95, 108, 111, 103]) = true := by rw [bs_list]; decide
  have e2 : ((bs wData).toList == [100, 97, 116, 97]) = true := by rw [bs_list]; decide
  go_enter Try.func8, Try.ntmps8
  go_wp2_with fail
  refine (H1.out _).mono ?_
  rintro e w1 ⟨rfl, hb1⟩
  have HB1 := hid hb1
  clear hb1
  go_wp2_with fail
  refine (H2.out _).mono ?_
  rintro e w2 ⟨rfl, hb2⟩
  have HB2 := hid (bt HB1.out hb2)
  clear hb2
  go_wp2_with fail
  refine (H3.out _).mono ?_
  rintro e w3 ⟨rfl, hb3⟩
  have HB3 := hid (bt HB2.out hb3)
  clear hb3
  go_wp2_with fail
  refine (H4.out _).mono ?_
  rintro e w4 ⟨rfl, hb4⟩
  have HB4 := hid (bt HB3.out hb4)
  clear hb4
  go_wp2_with fail
  refine (H5.out _).mono ?_
  rintro e w5 ⟨rfl, hb5⟩
  have HB5 := hid (bt HB4.out hb5)
  clear hb5
  go_wp2_with fail
  go_ret
  exact ⟨rfl, HB5.out⟩
end Go.Proofs.Ytdpclmogfnigdaa
