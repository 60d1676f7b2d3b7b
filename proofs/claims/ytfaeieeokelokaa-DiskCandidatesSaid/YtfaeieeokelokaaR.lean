/- The sanity check of stage 4. No conditions but those of each theorem. -/
import Derived.Test.YtfaeieeokelokaaO
namespace Go.Proofs.Ytfaeieeokelokaa
open Go.ChangeShapes Go.WideShapes Go.ChangeAt Go.RowKit
set_option linter.unusedVariables false
set_option linter.unusedSimpArgs false
def aw0 : Dk := nk [2]
def aw1 : Dk := wrK aw0 0 0 5
def aw2 : Dk := flK aw1 0
def aw3 : Dk := wrK aw2 0 0 6
def aw4 : Dk := reK aw3 (fun _ => false)
theorem aw_facts : wrE aw0 0 0 = 0 ∧ chk3 aw1 0 0 = 0 ∧ wrE aw2 0 0 = 0 ∧ rdV aw4 0 0 = 5 ∧ chk4 aw4 0 0 = 0 ∧ aw1.F.length ≤ 10 ∧ aw3.F.length ≤ 10 := by decide
theorem aw_b0 : Bnd aw0 (2 ^ 32) := ⟨by decide, by decide, by decide, by decide, by decide⟩
theorem aw_b2 : Bnd aw2 (2 ^ 32) := ⟨by decide, by decide, by decide, by decide, by decide⟩
set_option maxRecDepth 100000 in
set_option maxHeartbeats 8000000 in
theorem awake_ok (W : World) : Calls Try.prog 10 #[] W fun e W' => e = .returned (.bool true) ∧ Below W.heap.size W W' := by
  obtain ⟨f1, f2, f3, f4, f5, f6, f7⟩ := aw_facts
  have F1 := hid f1; have F2 := hid f2; have F3 := hid f3; have F4 := hid f4; have F5 := hid f5; have F6 := hid f6; have F7 := hid f7
  clear f1 f2 f3 f4 f5 f6 f7
  have HB0 := hid ((Below.refl W.heap.size W).alloc (Nat.le_refl _) (.cells #[.int .i64 2] 3))
  have hAr : Ar (W.alloc (.cells #[.int .i64 2] 3)) (some ⟨W.heap.size, 0, none⟩) [2] := .inr ⟨W.heap.size, 0, rfl, by simp, fun i hi => by
    obtain rfl : i = 0 := by simp at hi; omega
    go_simp
    rfl⟩
  have HN := hid (own_new (some ⟨W.heap.size, 0, none⟩) 1 [2] (W.alloc (.cells #[.int .i64 2] 3)) (by decide) (fun i hi => by
    obtain rfl : i = 0 := by simp at hi; omega
    exact ⟨by decide, by decide⟩) hAr W.heap.size W HB0.out (Nat.le_refl _))
  clear hAr
  go_enter Try.func10, Try.ntmps10
  go_wp2_with fail
  refine HN.out.mono ?_
  rintro e w1 ⟨A, rfl, H1⟩
  have O1 := hid (show Own W.heap.size W w1 A aw0 [] from H1.out.1)
  clear HN HB0 H1
  go_wp2_with fail
  refine (own_write O1.out 0 0 5 aw_b0).mono ?_
  rintro e w2 ⟨rfl, H2⟩
  rw [F1.out]
  have O2 := hid (show Own W.heap.size W w2 A aw1 [] from H2.out.1)
  clear H2 O1
  go_wp2_with fail
  refine (own_flush O2.out 0 (by have := F6.out; omega)).mono ?_
  rintro e w3 ⟨rfl, H3⟩
  rw [F2.out]
  have O3 := hid (show Own W.heap.size W w3 A aw2 [] from H3.out.1)
  clear H3 O2
  go_wp2_with fail
  refine (own_write O3.out 0 0 6 aw_b2).mono ?_
  rintro e w4 ⟨rfl, H4⟩
  rw [F3.out]
  have O4 := hid (show Own W.heap.size W w4 A aw3 [] from H4.out.1)
  have hb5 := (Below.refl w4.heap.size w4).alloc (Nat.le_refl _) (.cells #[.bool false] 4)
  have O5 := hid (O4.out.more hb5 w4.heap.size (Nat.le_refl _) (by simp))
  have c5 := hid (show (w4.alloc (.cells #[.bool false] 4)).cell? ⟨w4.heap.size, 0, none⟩ = some (.bool false) by go_simp)
  have C5 := hid (show ∀ i, i < 1 → (w4.alloc (.cells #[.bool false] 4)).cell? ⟨w4.heap.size, i, none⟩ = some (.bool ((fun _ => false) i)) from fun i hi => by
    have h0 : i = 0 := by omega
    rw [h0]
    exact c5.out)
  clear H4 O3 hb5
  go_wp2_with fail
  refine (own_restart O5.out (some ⟨w4.heap.size, 0, none⟩) 1 1 (fun _ => false) (by omega) (by have := F7.out; omega) (.inr ⟨w4.heap.size, rfl, List.mem_cons_self .., C5.out⟩) (fun _ _ => rfl)).mono ?_
  rintro e w5 ⟨rfl, H5⟩
  have O6 := hid (show Own W.heap.size W w5 A aw4 _ from H5.out.1)
  clear H5 O5 O4 c5 C5
  go_wp2_with fail
  refine (own_read O6.out 0 0).mono ?_
  rintro e w6 ⟨rfl, H6⟩
  rw [F4.out, F5.out]
  have HB := hid H6.out.1.bel
  clear H6 O6
  go_wp2_with fail
  go_ret
  exact ⟨rfl, HB.out⟩
end Go.Proofs.Ytfaeieeokelokaa
