/- The sanity check of layer 2's statements. No condition. -/
import Derived.Test.YtflmfjfeeajkfaaG
namespace Go.Proofs.Ytflmfjfeeajkfaa
open Go.ChangeShapes Go.WideShapes Go.ChangeAt Go.RowKit
set_option linter.unusedVariables false
set_option linter.unusedSimpArgs false

theorem ab0 : tw (byt { data := #[65, 66] }) 2 2 0 = 2 := by decide +kernel
theorem ab1 : tw (byt { data := #[65, 66] }) 2 2 1 = 16961 := by decide +kernel
theorem ab_text (w : World) : Calls Try.prog 10 #[.string { data := #[65, 66] }] w fun e w' => ∃ g cap, e = .returned (.tuple #[.slice (some ⟨g, 0, none⟩) 2 cap, .int .i64 0]) ∧ Hid (w'.cell? ⟨g, 0, none⟩ = some (.int .u64 2) ∧ w'.cell? ⟨g, 1, none⟩ = some (.int .u64 16961)) ∧ Below w.heap.size w w' := by
  refine (text_ok { data := #[65, 66] } (by decide) w).mono ?_
  rintro e w' ⟨g, cap, rfl, HD, hB⟩
  have e2 : ln (ByteArray.size { data := #[65, 66] }) = 2 := by decide
  have e3 : ByteArray.size { data := #[65, 66] } = 2 := by decide
  rw [e2, e3] at HD
  refine ⟨g, cap, by rw [e2], ⟨?_, ?_⟩, hB⟩
  · have := own_at HD.out 0 (by omega) rfl
    rw [ab0] at this; exact this
  · have := own_at HD.out 1 (by omega) rfl
    rw [ab1] at this; exact this

theorem fit2 : ∀ j, j < 2 → fit [20, 16] j := by
  intro j hj
  match j, hj with
  | 0, _ => unfold fit; decide
  | 1, _ => unfold fit; decide
theorem vfit2 : ∀ j, j < 2 → vfit [20, 16] [5, 3] j := by
  intro j hj
  match j, hj with
  | 0, _ => unfold vfit; decide
  | 1, _ => unfold vfit; decide
theorem fw2 : fw [20, 16] [5, 3] 2 = 3145733 := by decide
theorem ab_fields (a b : Nat) (n m : Nat) (w : World) (ha : a < w.heap.size) (hb : b < w.heap.size) (h1 : w.cell? ⟨a, 0, none⟩ = some (.int .i64 20)) (h2 : w.cell? ⟨a, 1, none⟩ = some (.int .i64 16)) (h3 : w.cell? ⟨b, 0, none⟩ = some (.int .u64 5)) (h4 : w.cell? ⟨b, 1, none⟩ = some (.int .u64 3)) :
    Calls Try.prog 22 #[.slice (some ⟨a, 0, none⟩) 2 n, .slice (some ⟨b, 0, none⟩) 2 m] w fun e w' => e = .returned (.tuple #[.int .u64 3145733, .int .i64 0]) ∧ Below w.heap.size w w' := by
  refine (fields_all (some ⟨a, 0, none⟩) (some ⟨b, 0, none⟩) 2 n m [20, 16] [5, 3] (by omega) fit2 w (.inr ⟨a, 0, rfl, ha, fun j hj => ?_⟩) ⟨fun j hj => ?_, .inr ⟨b, 0, rfl, hb, fun j hj => ?_⟩⟩).mono ?_
  · match j, hj with
    | 0, _ => exact h1
    | 1, _ => exact h2
  · match j, hj with
    | 0, _ => decide
    | 1, _ => decide
  · match j, hj with
    | 0, _ => exact h3
    | 1, _ => exact h4
  · rintro e w' ⟨⟨_, rfl⟩ | ⟨h, _⟩, hB⟩
    · rw [fw2]; exact ⟨rfl, hB⟩
    · exact absurd vfit2 h
theorem awake_ok (w : World) : Calls Try.prog 9 #[] w fun e w' => e = .returned (.bool true) ∧ Below w.heap.size w w' := by
  go_enter Try.func9, Try.ntmps9
  go_wp2_with fail
  refine (ab_text _).mono ?_
  rintro e w1 ⟨g, cap, rfl, HC, hb1⟩
  go_wp2_with fail
  obtain ⟨wS, hwS⟩ : ∃ wS, wS = (w1.alloc (Obj.cells #[Value.int IntKind.i64 20, Value.int IntKind.i64 16] 3)).alloc (Obj.cells #[Value.int IntKind.u64 5, Value.int IntKind.u64 3] 32) := ⟨_, rfl⟩
  rw [← hwS]
  have h1 : wS.heap[w1.heap.size]? = some (.cells #[Value.int IntKind.i64 20, Value.int IntKind.i64 16] 3 (0, 0)) := by rw [hwS]; exact heap_alloc2_old _ _ _
  have h2 : wS.heap[w1.heap.size + 1]? = some (.cells #[Value.int IntKind.u64 5, Value.int IntKind.u64 3] 32 (0, 0)) := by rw [hwS]; exact heap_alloc2_new _ _ _
  have hb2 : Below w1.heap.size w1 wS := by rw [hwS]; exact ((Below.refl _ _).alloc (Nat.le_refl _) _).alloc (by simp) _
  clear hwS
  have hs : wS.heap.size = wS.heap.size := rfl
  have hb0 := hid hb1
  have hb3 := hid (bt hb1 hb2)
  have hl1 := (Array.getElem?_eq_some_iff.1 h1).1
  have hl2 := (Array.getElem?_eq_some_iff.1 h2).1
  have F := hid (ab_fields w1.heap.size (w1.heap.size + 1) 2 2 wS hl1 hl2 (by rw [cell_of_row _ _ _ _ _ _ h1]; rfl) (by rw [cell_of_row _ _ _ _ _ _ h1]; rfl) (by rw [cell_of_row _ _ _ _ _ _ h2]; rfl) (by rw [cell_of_row _ _ _ _ _ _ h2]; rfl))
  have hg : g < w1.heap.size := block_lt_of_cell HC.out.1
  have HC2 := hid (And.intro ((hb2.cell (p := ⟨g, 0, none⟩) hg).trans HC.out.1) ((hb2.cell (p := ⟨g, 1, none⟩) hg).trans HC.out.2))
  clear HC h1 h2 hb1 hs hb2
  refine F.out.mono ?_
  rintro e w3 ⟨rfl, hb4⟩
  have hb5 := hid (bt hb3.out hb4)
  have c0 := (hb4.cell (p := ⟨g, 0, none⟩) (by show g < _; omega)).trans HC2.out.1
  have c1 := (hb4.cell (p := ⟨g, 1, none⟩) (by show g < _; omega)).trans HC2.out.2
  clear hb4 F
  go_wp2_with fail
  go_ret
  exact ⟨rfl, hb5.out⟩
end Go.Proofs.Ytflmfjfeeajkfaa
