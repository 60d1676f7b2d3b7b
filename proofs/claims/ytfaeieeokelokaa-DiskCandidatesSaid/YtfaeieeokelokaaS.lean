/- The reference's Same: two rows of words. No conditions but those of each theorem. -/
import Derived.Test.YtfaeieeokelokaaR
namespace Go.Proofs.Ytfaeieeokelokaa
open Go.ChangeShapes Go.WideShapes Go.ChangeAt Go.RowKit
set_option linter.unusedVariables false
set_option linter.unusedSimpArgs false
theorem list_eq {X Y : List Int} (h : X.length = Y.length) (hj : ∀ j, j < X.length → ge X j = ge Y j) : X = Y := by
  apply List.ext_getElem h
  intro i h1 h2
  have := hj i h1
  unfold ge at this
  rw [List.getElem?_eq_getElem h1, List.getElem?_eq_getElem h2] at this
  exact this
set_option maxHeartbeats 4000000 in
theorem same_ok {W : World} {g c h d : Nat} {X Y : List Int} (hX : Row W g c X) (hY : Row W h d Y) (hx : X.length ≤ 1000000) (hy : Y.length ≤ 1000000) :
    Calls Try.prog 19 #[.slice (some ⟨g, 0, none⟩) X.length c, .slice (some ⟨h, 0, none⟩) Y.length d] W fun e W' => e = .returned (.bool (decide (X = Y))) ∧ Below W.heap.size W W' := by
  have HX := hid hX
  have HY := hid hY
  clear hX hY
  by_cases hl : X.length = Y.length
  · have hlb : ((X.length : Int) != (Y.length : Int)) = false := by simp [hl]
    have HQ := hid (fun (hj : ∀ j, j < X.length → ge X j = ge Y j) => list_eq hl hj)
    have HQ2 := hid (fun (j : Nat) (hj : ¬ ge X j = ge Y j) => (decide_eq_false (fun e : X = Y => hj (by rw [e])) : decide (X = Y) = false))
    generalize hr : decide (X = Y) = r at *
    have HR := hid (fun (e : X = Y) => (show r = true by rw [← hr]; exact decide_eq_true e))
    clear hr
    have hlI : (X.length : Int) = (Y.length : Int) := by omega
    have HLI := hid hl
    go_enter Try.func19, Try.ntmps19
    go_wp2_with fail
    clear hl hlI hlb
    go_loopw [5] (fun iv wr => ∃ i : Nat, i ≤ X.length ∧ iv = .int .i64 (i : Int) ∧ Hid (∀ j, j < i → ge X j = ge Y j) ∧ Hid (Below W.heap.size W wr)) (fun iv _ => X.length - (intOf iv).toNat)
    case atStart => exact ⟨0, by omega, rfl, hid (fun j hj => by omega), hid (Below.refl _ _)⟩
    case round =>
      obtain ⟨i, hi, rfl, HE, HB⟩ := hrel
      by_cases hlt : i < X.length
      · have hlt' : (i : Int) < (X.length : Int) := by omega
        have hltY : (i : Int) < (Y.length : Int) := by have := HLI.out; omega
        have x0 := (HB.out.cell (p := ⟨g, i, none⟩) HX.out.lt).trans (HX.out.at i hlt)
        have y0 := (HB.out.cell (p := ⟨h, i, none⟩) HY.out.lt).trans (HY.out.at i (by have := HLI.out; omega))
        have HQi := hid (HQ2.out i)
        by_cases he : ge X i = ge Y i
        · have HE2 := hid (show ∀ j, j < i + 1 → ge X j = ge Y j from fun j hj => by
            by_cases e : j = i
            · rw [e]; exact he
            · exact HE.out j (by omega))
          rw [he] at x0
          have hne : (ge Y i != ge Y i) = false := by simp
          generalize ge Y i = z at *
          clear he HQi
          go_wp2_with fail
          go_quiet (fail)
          go_wp2_with fail
          go_roundw
          case rel => exact ⟨i + 1, by omega, by go_num, HE2, hid (HB.out.trans (bdn _ _ _))⟩
          case measure => simp [intOf]; omega
        · have hne : (ge X i != ge Y i) = true := by simpa using he
          have HRf := hid (HQi.out he)
          generalize ge Y i = z at *
          generalize ge X i = y at *
          clear HQi he
          go_wp2_with fail
          go_quiet (fail)
          go_wp2_with fail
          go_ret
          exact ⟨by rw [HRf.out]; rfl, HB.out.trans (bdn _ _ _)⟩
      · obtain rfl : i = X.length := by omega
        have hlt' : ¬ (X.length : Int) < (X.length : Int) := by omega
        have HRt := hid (HR.out (HQ.out HE.out))
        go_wp2_with fail
        go_ret
        exact ⟨by rw [HRt.out]; rfl, HB.out⟩
  · have hlb : ((X.length : Int) != (Y.length : Int)) = true := by simp; omega
    have HR := hid (show decide (X = Y) = false from decide_eq_false (fun e => hl (by rw [e])))
    generalize decide (X = Y) = r at *
    clear hl
    go_enter Try.func19, Try.ntmps19
    go_wp2_with fail
    go_ret
    exact ⟨by rw [HR.out]; rfl, Below.refl _ _⟩
end Go.Proofs.Ytfaeieeokelokaa
