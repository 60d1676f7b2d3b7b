/- A slice of requests that came in. No condition. -/
import Derived.Test.YtfaeieeokelokaaO
import Derived.Deep.SlicePairs
namespace Go.Proofs.Ytfaeieeokelokaa
open Go.ChangeShapes Go.WideShapes Go.ChangeAt Go.RowKit Go.Deep
set_option linter.unusedVariables false

/-- a request -/
structure Stp where
  kind : Int
  at' : Int
  v : Int
  keep : Int
instance : Inhabited Stp := ⟨⟨0, 0, 0, 0⟩⟩
def I64 (x : Int) : Prop := -9223372036854775808 ≤ x ∧ x ≤ 9223372036854775807
/-- requests that came in -/
def St (W : World) (a : Option Addr) (n : Nat) (f : Nat → Stp) : Prop := (∀ i, i < n → I64 (f i).kind ∧ I64 (f i).at') ∧ (n = 0 ∨ ∃ b o, a = some ⟨b, o, none⟩ ∧ b < W.heap.size ∧ ∀ i, i < n →
  W.cell? ⟨b, o + i * 4, none⟩ = some (.int .i64 (f i).kind) ∧ W.cell? ⟨b, o + i * 4 + 1, none⟩ = some (.int .i64 (f i).at') ∧ W.cell? ⟨b, o + i * 4 + 2, none⟩ = some (.int .u64 (f i).v) ∧ W.cell? ⟨b, o + i * 4 + 3, none⟩ = some (.int .u64 (f i).keep))
theorem St.below {W W' : World} {a : Option Addr} {n : Nat} {f : Nat → Stp} (h : St W a n f) (hb : Below W.heap.size W W') : St W' a n f := by
  refine ⟨h.1, ?_⟩
  rcases h.2 with h | ⟨b, o, h1, h2, h3⟩
  · exact .inl h
  · refine .inr ⟨b, o, h1, Nat.lt_of_lt_of_le h2 hb.size, fun i hi => ?_⟩
    obtain ⟨c0, c1, c2, c3⟩ := h3 i hi
    exact ⟨(hb.cell (p := ⟨b, o + i * 4, none⟩) h2).trans c0, (hb.cell (p := ⟨b, o + i * 4 + 1, none⟩) h2).trans c1, (hb.cell (p := ⟨b, o + i * 4 + 2, none⟩) h2).trans c2, (hb.cell (p := ⟨b, o + i * 4 + 3, none⟩) h2).trans c3⟩
theorem addr_at (a : Addr) (j : Nat) : a.add j = if j = 0 then a else ⟨a.block, a.off + j, none⟩ := by
  by_cases e : j = 0
  · subst e; simp [Addr.add]
  · simp [Addr.add, e]
theorem cells38 : Try.prog.cellsOf 38 = 4 := by kernel_rfl
theorem cells26 : Try.prog.cellsOf 26 = 1 := by kernel_rfl
set_option maxRecDepth 100000 in
theorem open_steps {H : Type} {enc : TypeId × Value → H} {W : World} {base : Nat} {v : Value} {d : DataW H} {p : List MemPlace} (ok : Value.okWide Try.prog W .any base 30 v) (k : DataW.Trod enc Try.prog W 0 (fun _ => true) true 30 v d p) :
    ∃ (a : Option Addr) (len cap : Nat) (f : Nat → Stp), v = .slice a len cap ∧ len ≤ 9223372036854775807 ∧ St W a len f := by
  obtain ⟨a, len, cap, rfl⟩ := okWide_slice Try.underlying30 ok
  obtain ⟨fuel, hfu⟩ := k
  rcases open_slice Try.underlying30 hfu with ⟨hcs, _⟩ | ⟨x, l, c, m, n, D, Pl, hcs, hb, hl, hm, hmm, hx, hi⟩
  · simp [Value.cells] at hcs
    obtain ⟨rfl, rfl, rfl⟩ := hcs
    exact ⟨none, 0, 0, fun _ => ⟨0, 0, 0, 0⟩, rfl, by omega, fun i hi => by omega, .inl rfl⟩
  · simp [Value.cells] at hcs
    obtain ⟨rfl, rfl, rfl⟩ := hcs
    simp only [if_true] at hmm
    subst hmm
    have hv : ∀ i, i < len → ∃ s : Stp, (I64 s.kind ∧ I64 s.at') ∧ W.cell? (x.add (i * 4)) = some (.int .i64 s.kind) ∧ W.cell? (x.add (i * 4 + 1)) = some (.int .i64 s.at') ∧ W.cell? (x.add (i * 4 + 2)) = some (.int .u64 s.v) ∧ W.cell? (x.add (i * 4 + 3)) = some (.int .u64 s.keep) := fun i hil => by
      obtain ⟨cs', h1, h2⟩ := hi i (by omega)
      rw [cells38] at h1
      obtain ⟨_, hlen, hcell⟩ := World.cells?_some h1
      obtain ⟨xs, k, hk, hxy, _, hxl, hf⟩ := DataW.trod_struct Try.underlying38 h2
      match xs, hxl, cs', hlen with
      | [y0, y1, y2, y3], _, [v0, v1, v2, v3], _ =>
        have g0 := hf 0 _ rfl
        have g1 := hf 1 _ rfl
        have g2 := hf 2 _ rfl
        have g3 := hf 3 _ rfl
        simp [cells3, cells26] at g0 g1 g2 g3
        have e0 := hcell 0 (by omega)
        have e1 := hcell 1 (by omega)
        have e2 := hcell 2 (by omega)
        have e3 := hcell 3 (by omega)
        rw [add_add] at e0 e1 e2 e3
        obtain ⟨z0, a0, _, b0⟩ := DataW.trod_int Try.underlying3 g0
        obtain ⟨z1, a1, _, b1⟩ := DataW.trod_int Try.underlying3 g1
        obtain ⟨z2, a2, _, b2⟩ := DataW.trod_int Try.underlying26 g2
        obtain ⟨z3, a3, _, b3⟩ := DataW.trod_int Try.underlying26 g3
        simp only [List.cons.injEq, and_true] at a0 a1 a2 a3
        subst a0 a1 a2 a3
        refine ⟨⟨z0, z1, z2, z3⟩, ⟨?_, ?_⟩, by simpa using e0, by simpa using e1, by simpa using e2, by simpa using e3⟩
        · simp [Lit.wf, IntKind.min, IntKind.max, IntKind.signed, IntKind.bits] at b0
          unfold I64; simpa using b0
        · simp [Lit.wf, IntKind.min, IntKind.max, IntKind.signed, IntKind.bits] at b1
          unfold I64; simpa using b1
    obtain ⟨f, hfv⟩ := choose_lt hv
    refine ⟨some x, len, _, f, rfl, by unfold maxLen at hm; omega, fun i hi => (hfv i hi).1, ?_⟩
    by_cases h0 : len = 0
    · exact .inl h0
    · obtain ⟨b, off, spot⟩ := x
      have hc := (hfv 0 (by omega)).2.1
      have hspot : spot = none := by simpa [Addr.add] using World.cell?_spot hc
      subst hspot
      refine .inr ⟨b, off, rfl, ?_, fun j hj => ?_⟩
      · have hc' : W.cell? ⟨b, off, none⟩ = some (.int .i64 (f 0).kind) := by simpa [Addr.add] using hc
        exact block_lt_of_cell hc'
      · obtain ⟨_, q0, q1, q2, q3⟩ := hfv j hj
        rw [addr_at] at q0 q1 q2 q3
        rw [if_neg (by omega)] at q1 q2 q3
        refine ⟨?_, q1, q2, q3⟩
        by_cases e : j * 4 = 0
        · rw [if_pos e] at q0; rw [e]; exact q0
        · rw [if_neg e] at q0; exact q0
end Go.Proofs.Ytfaeieeokelokaa
