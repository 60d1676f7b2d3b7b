/- A label that came in. No conditions but those of each theorem. -/
import Derived.Test.YtbgbjgedjmhcaaaLC
import Derived.ChangeMaps5
import Derived.Below
import Derived.WalkKit
import Derived.OpenShut
namespace Go.Proofs.Ytbgbjgedjmhcaaa
open Go.ChangeShapes Go.WideShapes Go.ChangeAt Go.RowKit
set_option linter.unusedVariables false
set_option linter.unusedSimpArgs false
theorem cellsLab : Try.prog.cellsOf 24 = 5 := by kernel_rfl
theorem cellsI : Try.prog.cellsOf 3 = 1 := by kernel_rfl
theorem cellsU : Try.prog.cellsOf 22 = 1 := by kernel_rfl
theorem wd_of {z : Int} (h : (Lit.int .u64 z).wf = true) : Wd z := by
  simp [Lit.wf, IntKind.min, IntKind.max, IntKind.signed, IntKind.bits] at h
  unfold Wd
  omega
theorem i64_of {z : Int} (h : (Lit.int .i64 z).wf = true) : -9223372036854775808 ≤ z ∧ z ≤ 9223372036854775807 := by
  simp [Lit.wf, IntKind.min, IntKind.max, IntKind.signed, IntKind.bits] at h
  omega
set_option maxRecDepth 100000 in
theorem open_label {H : Type} {enc : TypeId × Value → H} {W : World} {base : Nat} {v : Value} {d : DataW H} {p : List MemPlace} (ok : Value.okWide Try.prog W .any base 24 v) (k : DataW.Trod enc Try.prog W 0 (fun _ => true) true 24 v d p) :
    ∃ i s t a g : Int, v = .agg #[.int .u64 i, .int .i64 s, .int .i64 t, .int .i64 a, .int .u64 g] ∧ Wd i ∧ Wd g ∧ (-9223372036854775808 ≤ s ∧ s ≤ 9223372036854775807) ∧ (-9223372036854775808 ≤ t ∧ t ≤ 9223372036854775807) ∧ (-9223372036854775808 ≤ a ∧ a ≤ 9223372036854775807) := by
  obtain ⟨cs, rfl, hsz⟩ := okWide_struct Try.underlying24 ok
  rw [cellsLab] at hsz
  obtain ⟨fuel, hfu⟩ := k
  obtain ⟨xs, n, hk, hxy, _, hxl, hf⟩ := DataW.trod_struct Try.underlying24 hfu
  obtain ⟨l, rfl⟩ : ∃ l : List Value, cs = l.toArray := ⟨cs.toList, by simp⟩
  have hl5 : l.length = 5 := by simpa using hsz
  match xs, hxl, l, hl5 with
  | [y0, y1, y2, y3, y4], _, [v0, v1, v2, v3, v4], _ =>
    have g0 := hf 0 _ rfl
    have g1 := hf 1 _ rfl
    have g2 := hf 2 _ rfl
    have g3 := hf 3 _ rfl
    have g4 := hf 4 _ rfl
    simp [cellsI, cellsU, Value.cells] at g0 g1 g2 g3 g4
    obtain ⟨z0, a0, _, b0⟩ := DataW.trod_int Try.underlying22 g0
    obtain ⟨z1, a1, _, b1⟩ := DataW.trod_int Try.underlying3 g1
    obtain ⟨z2, a2, _, b2⟩ := DataW.trod_int Try.underlying3 g2
    obtain ⟨z3, a3, _, b3⟩ := DataW.trod_int Try.underlying3 g3
    obtain ⟨z4, a4, _, b4⟩ := DataW.trod_int Try.underlying22 g4
    simp only [List.cons.injEq, and_true] at a0 a1 a2 a3 a4
    subst a0 a1 a2 a3 a4
    exact ⟨z0, z1, z2, z3, z4, rfl, wd_of b0, wd_of b4, i64_of b1, i64_of b2, i64_of b3⟩
end Go.Proofs.Ytbgbjgedjmhcaaa
