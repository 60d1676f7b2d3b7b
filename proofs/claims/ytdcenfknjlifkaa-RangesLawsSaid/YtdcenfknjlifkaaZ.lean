/- A slice of ranges that came in. No condition. -/
import Derived.Test.YtdcenfknjlifkaaO
import Derived.Deep.SlicePairs
namespace Go.Proofs.Ytdcenfknjlifkaa
open Go.ChangeShapes Go.WideShapes Go.ChangeAt Go.RowKit Go.Deep
set_option linter.unusedVariables false

theorem addr_at (a : Addr) (j : Nat) : a.add j = if j = 0 then a else ⟨a.block, a.off + j, none⟩ := by
  by_cases e : j = 0
  · subst e; simp [Addr.add]
  · simp [Addr.add, e]
theorem open_ranges {H : Type} {enc : TypeId × Value → H} {W : World} {base : Nat} {v : Value} {d : DataW H} {p : List MemPlace} (ok : Value.okWide Try.prog W .any base 22 v) (k : DataW.Trod enc Try.prog W 0 (fun _ => true) true 22 v d p) :
    ∃ (a : Option Addr) (len cap : Nat) (rs : List Rn), v = .slice a len cap ∧ len ≤ 9223372036854775807 ∧ Rg W.heap.size W a len rs := by
  obtain ⟨a, len, cap, rfl⟩ := okWide_slice Try.underlying22 ok
  obtain ⟨fuel, hfu⟩ := k
  rcases open_slice_pairs Try.underlying22 Try.underlying42 (by kernel_rfl) rfl rfl (by kernel_rfl) (by kernel_rfl) hfu with ⟨hcs, _⟩ | ⟨x, l, c, m, n, V0, V1, D0, D1, P0, P1, hcs, _, hl, hm, hmm, _, hall⟩
  · simp [Value.cells] at hcs
    obtain ⟨rfl, rfl, rfl⟩ := hcs
    exact ⟨none, 0, 0, [], rfl, by omega, rfl, fun r hr => (by cases hr), .inl rfl⟩
  · simp [Value.cells] at hcs
    obtain ⟨rfl, rfl, rfl⟩ := hcs
    simp only [if_true] at hmm
    subst hmm
    have hv : ∀ i, i < len → ∃ r : Rn, V0 i = .int .i64 r.1 ∧ V1 i = .int .i64 r.2 ∧ I64 r.1 ∧ I64 r.2 := fun i hi => by
      obtain ⟨_, _, h0, h1⟩ := hall i (by omega)
      obtain ⟨z0, e0, _, f0⟩ := DataW.trod_int (Try.underlying3) h0
      obtain ⟨z1, e1, _, f1⟩ := DataW.trod_int (Try.underlying3) h1
      simp only [List.cons.injEq, and_true] at e0 e1
      refine ⟨(z0, z1), e0, e1, ?_, ?_⟩
      · simp [Lit.wf, IntKind.min, IntKind.max, IntKind.signed, IntKind.bits] at f0
        unfold I64; simpa using f0
      · simp [Lit.wf, IntKind.min, IntKind.max, IntKind.signed, IntKind.bits] at f1
        unfold I64; simpa using f1
    obtain ⟨f, hfv⟩ := choose_lt hv
    refine ⟨some x, len, _, (List.range len).map f, rfl, by unfold maxLen at hm; omega, by simp, fun r hr => ?_, ?_⟩
    · obtain ⟨i, hi, rfl⟩ := List.mem_map.1 hr
      exact (hfv i (List.mem_range.1 hi)).2.2
    · by_cases h0 : len = 0
      · exact .inl h0
      · obtain ⟨b, off, spot⟩ := x
        have hc := (hall 0 (by omega)).1
        have hspot : spot = none := by simpa [Addr.add] using World.cell?_spot hc
        subst hspot
        refine .inr ⟨b, off, rfl, ?_, fun j hj => ?_⟩
        · have hc' : W.cell? ⟨b, off, none⟩ = some (V0 0) := by simpa [Addr.add] using hc
          exact block_lt_of_cell hc'
        · obtain ⟨h0, h1, _⟩ := hall j (by omega)
          have e : ((List.range len).map f)[j]?.getD (0, 0) = f j := by simp [hj]
          rw [e, ← (hfv j hj).1, ← (hfv j hj).2.1, ← h0, ← h1, addr_at, addr_at]
          constructor
          · by_cases e : j * 2 = 0
            · rw [if_pos e, e]; rfl
            · rw [if_neg e]
          · rw [if_neg (by omega)]; rfl
end Go.Proofs.Ytdcenfknjlifkaa
