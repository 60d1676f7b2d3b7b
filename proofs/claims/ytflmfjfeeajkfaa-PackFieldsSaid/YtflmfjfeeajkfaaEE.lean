/- Fields and Split of layer 2 and of the reference, side by side. No conditions but those of each theorem. -/
import Derived.Test.YtflmfjfeeajkfaaE
import Derived.Test.YtflmfjfeeajkfaaQ
namespace Go.Proofs.Ytflmfjfeeajkfaa
open Go.ChangeShapes Go.WideShapes Go.ChangeAt Go.RowKit Go.Shelf
set_option linter.unusedVariables false

theorem wi_of {w : World} {a : Option Addr} {len cap : Nat} {zs : List Int} (h : IsRow .i64 w a len cap zs) : Wi w.heap.size w a len zs := by
  rcases h with ⟨rfl, rfl, rfl, rfl⟩ | ⟨x, rfl, hl, hm, hz, hcell, hwz⟩
  · exact .inl rfl
  · by_cases h0 : len = 0
    · exact .inl h0
    · obtain ⟨b, off, spot⟩ := x
      have hc := hcell 0 (by omega)
      have hspot : spot = none := by simpa [Addr.add] using World.cell?_spot hc
      subst hspot
      refine .inr ⟨b, off, rfl, ?_, fun j hj => ?_⟩
      · have hc' : w.cell? ⟨b, off, none⟩ = some (.int .i64 (zs.getD 0 0)) := by simpa [Addr.add] using hc
        exact block_lt_of_cell hc'
      · have hj2 : j < zs.length := by omega
        have := hcell j hj2
        rw [← List.getD_eq_getElem?_getD]
        by_cases e : j = 0
        · subst e; simpa [Addr.add] using this
        · simpa [Addr.add, e] using this
theorem below_drewM (w : World) (n : Nat) : Below w.heap.size w (w.drewN n) := ⟨rfl, rfl, rfl, Nat.le_refl _, fun _ _ => rfl⟩

theorem fields_pair (a b : Option Addr) (len len2 cap cap2 : Nat) (zs : List Int) (vs : List Nat) (hl : len ≤ 100) :
    ∃ X E : Int, Hid (∀ w : World, Wi w.heap.size w a len zs → Va w.heap.size w b len2 vs → Calls Try.prog 22 #[.slice a len cap, .slice b len2 cap2] w fun e w' => e = .returned (.tuple #[.int .u64 X, .int .i64 E]) ∧ Below w.heap.size w w') ∧
      Hid (∀ w : World, Wi w.heap.size w a len zs → Va w.heap.size w b len2 vs → Calls Try.prog 23 #[.slice a len cap, .slice b len2 cap2] w fun e w' => e = .returned (.tuple #[.int .u64 X, .int .i64 E]) ∧ Below w.heap.size w w') := by
  by_cases h : len = len2
  · subst h
    by_cases hf : ∀ j, j < len → fit zs j
    · by_cases hv : ∀ j, j < len → vfit zs vs j
      · refine ⟨(fw zs vs len : Nat), 0, hid fun w hI hV => (fields_all a b len cap cap2 zs vs (by omega) hf w hI hV).mono ?_, hid fun w hI hV => (reff_ok a b len cap cap2 zs vs hl hf hv w hI hV).mono ?_⟩
        · rintro e w' ⟨⟨_, rfl⟩ | ⟨h, _⟩, hb⟩
          · exact ⟨rfl, hb⟩
          · exact absurd hv h
        · rintro e w' ⟨rfl, n, rfl⟩
          exact ⟨rfl, below_drewM _ _⟩
      · refine ⟨0, 1, hid fun w hI hV => (fields_all a b len cap cap2 zs vs (by omega) hf w hI hV).mono ?_, hid fun w hI hV => (reff_no a b len cap cap2 zs vs hl hf hv w hI hV).mono ?_⟩
        · rintro e w' ⟨⟨h, _⟩ | ⟨_, rfl⟩, hb⟩
          · exact absurd h hv
          · exact ⟨rfl, hb⟩
        · rintro e w' ⟨rfl, n, rfl⟩
          exact ⟨rfl, below_drewM _ _⟩
    · refine ⟨0, 1, hid fun w hI hV => fields_bad a b len cap cap2 zs (by omega) hf w hI, hid fun w hI hV => (reff_bad a b len cap cap2 zs hl hf w hI).mono ?_⟩
      rintro e w' ⟨rfl, n, rfl⟩
      exact ⟨rfl, below_drewM _ _⟩
  · refine ⟨0, 3, hid fun w hI hV => fields_size a b len len2 cap cap2 h w, hid fun w hI hV => (reff_size a b len len2 cap cap2 h w).mono ?_⟩
    rintro e w' ⟨rfl, n, rfl⟩
    exact ⟨rfl, below_drewM _ _⟩

theorem split_pair (x : Nat) (hx : x < 18446744073709551616) (a : Option Addr) (len cap : Nat) (zs : List Int) (hl : len ≤ 100) :
    ∃ (E : Int) (n : Nat) (l : List Nat), n ≤ 100 ∧ Hid (∀ w : World, Wi w.heap.size w a len zs → Calls Try.prog 24 #[.int .u64 (x : Int), .slice a len cap] w fun e w' => ∃ a' cap', e = .returned (.tuple #[.slice a' n cap', .int .i64 E]) ∧ Hid (Wd w'.heap.size w' a' n cap' l) ∧ Below w.heap.size w w') ∧
      Hid (∀ w : World, Wi w.heap.size w a len zs → Calls Try.prog 25 #[.int .u64 (x : Int), .slice a len cap] w fun e w' => ∃ a' cap', e = .returned (.tuple #[.slice a' n cap', .int .i64 E]) ∧ Hid (Wd w'.heap.size w' a' n cap' l) ∧ Below w.heap.size w w') := by
  by_cases hf : ∀ j, j < len → fit zs j
  · exact ⟨0, len, _, hl, hid fun w hI => split_ok x hx a len cap zs hl hf w hI, hid fun w hI => rsplit_ok x hx a len cap zs hl hf w hI⟩
  · refine ⟨1, 0, [], by omega, hid fun w hI => (split_bad x a len cap zs (by omega) hf w hI).mono ?_, hid fun w hI => (rsplit_bad x a len cap zs hl hf w hI).mono ?_⟩
    · rintro e w' ⟨rfl, hb⟩
      exact ⟨none, 0, rfl, ⟨rfl, fun j hj => by omega, fun _ => ⟨rfl, rfl⟩, .inl rfl⟩, hb⟩
    · rintro e w' ⟨rfl, rfl⟩
      exact ⟨none, 0, rfl, ⟨rfl, fun j hj => by omega, fun _ => ⟨rfl, rfl⟩, .inl rfl⟩, Below.refl _ _⟩
end Go.Proofs.Ytflmfjfeeajkfaa
