/- The check of layer 24 that always holds. No conditions. -/
import Derived.Test.YtablogkafbajaaaN
namespace Go.Proofs.Ytablogkafbajaaa
open Go.ChangeShapes Go.WideShapes Go.ChangeAt Go.RowKit
set_option linter.unusedVariables false
set_option linter.unusedSimpArgs false

def x0 : List Int := [0, 0, 0]
def x1 : List Int := [1, 0, 0]
def x2 : List Int := [1, 1, 0]
def x3 : List Int := [0, 1, 0]
def x4 : List Int := [0, 1, 1]
theorem aw0 : List.replicate 3 (0 : Int) = x0 := rfl
theorem aw1 : alV x0 x0 = 0 ∧ alE x0 x0 = 0 ∧ alX x0 x0 = x1 := by decide
theorem aw2 : alV x1 x0 = 1 ∧ alE x1 x0 = 0 ∧ alX x1 x0 = x2 := by decide
theorem aw3 : decE x2 0 = 0 ∧ decX x2 0 = x3 := by decide
theorem aw4 : alV x3 x2 = 2 ∧ alE x3 x2 = 0 ∧ alX x3 x2 = x4 := by decide
theorem aw5 : alV x4 x2 = 0 ∧ alE x4 x2 = 14 ∧ alX x4 x2 = x4 := by decide
theorem aw6 : gt x4 2 = 1 ∧ gt x2 0 = 1 := by decide
set_option maxRecDepth 100000 in
set_option maxHeartbeats 8000000 in
theorem awake_any (W : World) : Calls Try.prog 13 #[] W fun e W' => e = .returned (.bool true) ∧ Below W.heap.size W W' := by
  have HN := hid (new_good 3 W (by omega) (by omega))
  go_enter Try.func13, Try.ntmps13
  go_wp2_with fail
  refine HN.out.mono ?_
  rintro e w1 ⟨M, a, ca, b, cb, rfl, ⟨hM, ha, hb⟩, H1⟩
  have HB1 := hid H1.out.2
  have S1 := hid H1.out.1
  rw [aw0] at S1
  clear H1 HN
  have A1 := hid (alloc_ok S1.out)
  rw [aw1.1, aw1.2.1, aw1.2.2] at A1
  go_wp2_with fail
  refine A1.out.mono ?_
  rintro e w2 ⟨rfl, H2⟩
  have HB2 := hid (HB1.out.grown H2.out.2 HB1.out.size (fun k e => by cases e; exact ha))
  have S2 := hid H2.out.1
  clear H2 A1
  have A2 := hid (alloc_ok S2.out)
  rw [aw2.1, aw2.2.1, aw2.2.2] at A2
  go_wp2_with fail
  refine A2.out.mono ?_
  rintro e w3 ⟨rfl, H3⟩
  have HB3 := hid (HB2.out.grown H3.out.2 HB2.out.size (fun k e => by cases e; exact ha))
  have S3 := hid H3.out.1
  clear H3 A2
  go_wp2_with fail
  refine (commit_ok S3.out).mono ?_
  rintro e w4 ⟨rfl, H4⟩
  have HB4 := hid (HB3.out.grown H4.out.2 HB3.out.size (fun k e => by cases e; exact hb))
  have S4 := hid H4.out.1
  clear H4
  have A4 := hid (dec_ok S4.out 0)
  rw [aw3.1, aw3.2] at A4
  go_wp2_with fail
  refine A4.out.mono ?_
  rintro e w5 ⟨rfl, H5⟩
  have HB5 := hid (HB4.out.grown H5.out.2 HB4.out.size (fun k e => by cases e; exact ha))
  have S5 := hid H5.out.1
  clear H5 A4
  have A5 := hid (alloc_ok S5.out)
  rw [aw4.1, aw4.2.1, aw4.2.2] at A5
  go_wp2_with fail
  refine A5.out.mono ?_
  rintro e w6 ⟨rfl, H6⟩
  have HB6 := hid (HB5.out.grown H6.out.2 HB5.out.size (fun k e => by cases e; exact ha))
  have S6 := hid H6.out.1
  clear H6 A5
  have A6 := hid (alloc_ok S6.out)
  rw [aw5.1, aw5.2.1, aw5.2.2] at A6
  go_wp2_with fail
  refine A6.out.mono ?_
  rintro e w7 ⟨rfl, H7⟩
  have HB7 := hid (HB6.out.grown H7.out.2 HB6.out.size (fun k e => by cases e; exact ha))
  have S7 := hid H7.out.1
  clear H7 A6
  go_wp2_with fail
  refine (len_ok S7.out).mono ?_
  rintro e w8 ⟨rfl, hb8⟩
  have HB8 := hid (bt HB7.out hb8)
  have S8 := hid (S7.out.below hb8)
  clear hb8
  have A8 := hid (count_ok S8.out 2)
  rw [aw6.1] at A8
  have hl4 : x4.length = 3 := rfl
  go_wp2_with fail
  refine A8.out.mono ?_
  rintro e w9 ⟨rfl, hb9⟩
  have HB9 := hid (bt HB8.out hb9)
  have S9 := hid (S8.out.below hb9)
  clear hb9
  have A9 := hid (was_ok S9.out 0)
  rw [aw6.2] at A9
  go_wp2_with fail
  refine A9.out.mono ?_
  rintro e w10 ⟨rfl, hb10⟩
  have HB10 := hid (bt HB9.out hb10)
  have S10 := hid (S9.out.below hb10)
  clear hb10
  go_wp2_with fail
  refine (counts_ok S10.out).mono ?_
  rintro e w11 ⟨g, gc, rfl, hg, H11⟩
  have HB11 := hid (bt HB10.out H11.out.2)
  clear H11
  go_wp2_with fail
  go_ret
  exact ⟨rfl, HB11.out⟩
end Go.Proofs.Ytablogkafbajaaa
