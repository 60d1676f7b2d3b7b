/- Requests that came in. No conditions but those of each theorem. -/
import Derived.Test.YtbgbjgedjmhcaaaSyZ
import Derived.Test.YtbgbjgedjmhcaaaD3
import Derived.KernelRfl
import Derived.Deep.SlicePairs
import Derived.ChangeMaps5
import Derived.Below
import Derived.WalkKit
import Derived.OpenShut
namespace Go.Proofs.Ytbgbjgedjmhcaaa
open Go.RowKit
/-- a step: its kind, its place, its value, what survives -/
structure Stp where
  k : Int
  a : Int
  v : Int
  w : Int
instance : Inhabited Stp := ⟨⟨0, 0, 0, 0⟩⟩
def encSt (x : Stp) : List AV := [I x.k, I x.a, U x.v, U x.w]
theorem tmods (a N : Int) (h : 0 < N) : (-N < a.tmod N ∧ a.tmod N < N) ∧ 0 ≤ (a.tmod N + N).tmod N ∧ (a.tmod N + N).tmod N < N := by
  have h2 := Int.tmod_lt_of_pos a h
  have h1 : -N < a.tmod N := by
    have := Int.tmod_lt_of_pos (-a) h
    rw [Int.neg_tmod] at this
    omega
  exact ⟨⟨h1, h2⟩, Int.tmod_nonneg _ (by omega), Int.tmod_lt_of_pos _ h⟩
end Go.Proofs.Ytbgbjgedjmhcaaa
namespace Go.Proofs.Ytbgbjgedjmhcaaa
open Go.ChangeShapes Go.WideShapes Go.ChangeAt Go.RowKit Go.Deep
set_option linter.unusedVariables false
set_option linter.unnecessarySimpa false
set_option linter.unusedSimpArgs false
theorem addr_at (a : Addr) (j : Nat) : a.add j = if j = 0 then a else ⟨a.block, a.off + j, none⟩ := by
  by_cases e : j = 0
  · subst e; simp [Addr.add]
  · simp [Addr.add, e]
theorem cells133 : Try.prog.cellsOf 133 = 4 := by kernel_rfl
theorem cells3 : Try.prog.cellsOf 3 = 1 := by kernel_rfl
theorem cells22 : Try.prog.cellsOf 22 = 1 := by kernel_rfl
def valsT (t : Stp) : List Value := [.int .i64 t.k, .int .i64 t.a, .int .u64 t.v, .int .u64 t.w]
theorem flat_rows {α β : Type} {n : Nat} {f : α → List β} (hf : ∀ x, (f x).length = n) : ∀ (L : List α), (L.flatMap f).length = L.length * n ∧ ∀ q (h : q < L.length), ((L.flatMap f).drop (q * n)).take n = f L[q]
  | [] => ⟨by simp, fun q h => by simp at h⟩
  | x :: L => by
    obtain ⟨h1, h2⟩ := flat_rows hf L
    refine ⟨by rw [List.flatMap_cons, List.length_append, h1, hf, List.length_cons, Nat.add_mul]; omega, fun q hq => ?_⟩
    rw [List.flatMap_cons]
    cases q with
    | zero => rw [Nat.zero_mul, List.drop_zero, List.take_append_of_le_length (by rw [hf]; exact Nat.le_refl _), List.take_of_length_le (by rw [hf]; exact Nat.le_refl _)]; rfl
    | succ q =>
      rw [show (q + 1) * n = (f x).length + q * n by rw [hf, Nat.add_mul]; omega, List.drop_append]
      simp only [List.drop_of_length_le (show (f x).length ≤ (f x).length + q * n by omega), Nat.add_sub_cancel_left, List.nil_append]
      exact h2 q (by simpa using hq)
/-- requests that came in -/
def Sts (W : World) (a : Option Addr) (cap : Nat) (L : List Stp) : Prop := L.length ≤ cap ∧ (cap = 0 ∨ ∃ b o, a = some ⟨b, o, none⟩ ∧ b < W.heap.size ∧ ∀ i, i < L.length → ∀ j, j < 4 → W.cell? ⟨b, o + (i * 4 + j), none⟩ = (valsT (L.getD i default))[j]?)
set_option maxRecDepth 100000 in
theorem open_steps {H : Type} {enc : TypeId × Value → H} {W : World} {base : Nat} {v : Value} {d : DataW H} {p : List MemPlace} (ok : Value.okWide Try.prog W .any base 61 v) (k : DataW.Trod enc Try.prog W 0 (fun _ => true) true 61 v d p) :
    ∃ (a : Option Addr) (cap : Nat) (L : List Stp), v = .slice a L.length cap ∧ L.length ≤ 9223372036854775807 ∧ Sts W a cap L := by
  obtain ⟨a, len, cap, rfl⟩ := okWide_slice Try.underlying61 ok
  obtain ⟨fuel, hfu⟩ := k
  rcases open_slice Try.underlying61 hfu with ⟨hcs, _⟩ | ⟨x, l, c, m, n, D, Pl, hcs, hb, hl, hm, hmm, hx, hi⟩
  · simp [Value.cells] at hcs
    obtain ⟨rfl, rfl, rfl⟩ := hcs
    exact ⟨none, 0, [], rfl, by simp, Nat.le_refl _, .inl rfl⟩
  · simp [Value.cells] at hcs
    obtain ⟨rfl, rfl, rfl⟩ := hcs
    simp only [if_true] at hmm
    subst hmm
    have hv : ∀ i, i < m → ∃ s : Stp, ∀ j, j < 4 → W.cell? (x.add (i * 4 + j)) = (valsT s)[j]? := fun i hil => by
      obtain ⟨cs', h1, h2⟩ := hi i (by omega)
      rw [cells133] at h1
      obtain ⟨_, hlen, hcell⟩ := World.cells?_some h1
      obtain ⟨xs, k, hk, hxy, _, hxl, hf⟩ := DataW.trod_struct Try.underlying133 h2
      match xs, hxl, cs', hlen with
      | [y0, y1, y2, y3], _, [v0, v1, v2, v3], _ =>
        have g0 := hf 0 _ rfl
        have g1 := hf 1 _ rfl
        have g2 := hf 2 _ rfl
        have g3 := hf 3 _ rfl
        simp [cells3, cells22] at g0 g1 g2 g3
        obtain ⟨z0, a0, _, b0⟩ := DataW.trod_int Try.underlying3 g0
        obtain ⟨z1, a1, _, b1⟩ := DataW.trod_int Try.underlying3 g1
        obtain ⟨z2, a2, _, b2⟩ := DataW.trod_int Try.underlying22 g2
        obtain ⟨z3, a3, _, b3⟩ := DataW.trod_int Try.underlying22 g3
        simp only [List.cons.injEq, and_true] at a0 a1 a2 a3
        subst a0 a1 a2 a3
        refine ⟨⟨z0, z1, z2, z3⟩, fun j hj => ?_⟩
        have e := hcell j (by omega)
        rw [add_add] at e
        rw [e]
        rfl
    obtain ⟨f, hfv⟩ := choose_lt hv
    refine ⟨some x, m, (List.range len).map f, by simp, by simp; unfold maxLen at hm; omega, by simpa using hl, ?_⟩
    by_cases h0 : m = 0
    · exact .inl h0
    · obtain ⟨b, off, spot⟩ := x
      have hc := hfv 0 (by omega) 0 (by omega)
      have hspot : spot = none := by simpa [Addr.add] using World.cell?_spot hc
      subst hspot
      refine .inr ⟨b, off, rfl, ?_, fun i hi j hj => ?_⟩
      · have hc' : W.cell? ⟨b, off, none⟩ = some (.int .i64 (f 0).k) := by simpa [Addr.add, valsT] using hc
        exact block_lt_of_cell hc'
      · have hil : i < len := by simpa using hi
        have e : ((List.range len).map f).getD i default = f i := by simp [List.getD_eq_getElem?_getD, hil]
        have q := hfv i (by omega) j hj
        rw [addr_at] at q
        rw [e]
        by_cases e0 : i * 4 + j = 0
        · rw [if_pos e0] at q; rw [e0]; exact q
        · rw [if_neg e0] at q; exact q
theorem valsT_len (t : Stp) : (valsT t).length = 4 := rfl
theorem Sts.ro {W : World} {a : Option Addr} {cap : Nat} {L : List Stp} {E : Env} {id : Nat} (h : Sts W a cap L) (hE : E id = if cap = 0 then some (none, 0) else some (a, cap)) : Holds E W id (.ro 4 L.length (rowG encSt L)) ∧ SlOK (if cap = 0 then none else a) (if cap = 0 then 0 else cap) 0 4 L.length none (.slice a L.length cap) := by
  obtain ⟨hl, h2⟩ := h
  obtain ⟨f1, f2⟩ := flat_rows valsT_len L
  by_cases h0 : cap = 0
  · subst h0
    have hL : L.length = 0 := by omega
    refine ⟨⟨none, 0, [], by rw [hE]; rfl, by simp [hL], .inl ⟨rfl, hL, rfl⟩, fun u hu => by simp at hu, fun q hq => by omega⟩, ?_⟩
    rw [hL]
    exact ⟨a, rfl, rfl, rfl⟩
  · rcases h2 with h2 | ⟨b, o, rfl, hb, hc⟩
    · exact absurd h2 h0
    · rw [if_neg h0] at hE
      rw [if_neg h0, if_neg h0]
      refine ⟨⟨some ⟨b, o, none⟩, cap, L.flatMap valsT, hE, f1, .inr ⟨_, rfl, hb, hl, fun j u hu => ?_⟩, fun u hu => ?_, fun q hq => ?_⟩, ⟨o, cap, rfl, hl, by omega, fun _ => by simp, by simp⟩⟩
      · have hj : j < L.length * 4 := by rw [← f1]; exact (List.getElem?_eq_some_iff.1 hu).1
        have hq : j / 4 < L.length := by omega
        have e := f2 (j / 4) hq
        have e1 : (L.flatMap valsT)[j]? = (valsT L[j / 4])[j % 4]? := by
          rw [← e, List.getElem?_take, if_pos (by omega), List.getElem?_drop]
          congr 1
          omega
        have e2 : L.getD (j / 4) default = L[j / 4] := by rw [List.getD_eq_getElem?_getD, List.getElem?_eq_getElem hq]; rfl
        have := hc (j / 4) hq (j % 4) (by omega)
        rw [e2, ← e1, hu, show j / 4 * 4 + j % 4 = j by omega] at this
        exact this
      · obtain ⟨t, _, ht⟩ := List.mem_flatMap.1 hu
        simp only [valsT, List.mem_cons, List.not_mem_nil, or_false] at ht
        rcases ht with rfl | rfl | rfl | rfl <;> rfl
      · unfold cellsAt
        rw [f2 q hq]
        have e2 : rowG encSt L q = encSt L[q] := by unfold rowG; rw [List.getD_eq_getElem?_getD, List.getElem?_eq_getElem hq]; rfl
        rw [e2]
        simp [encSt, valsT, RVs, RV, I, U]
set_option maxRecDepth 10000
theorem few_any (l : List Stp) : CallOK Try.prog 33 [.sl 2 0 4 l.length none] [(2, .ro 4 l.length (rowG encSt l))] (B (decide ((l.length : Int) ≤ 24))) [] := by
  refine CallOK.intro Try.call33 Try.func33 rfl rfl ⟨rfl, fun _ => rfl, trivial⟩ ?_
  refine Safe.ends mixed Try.func33 4 [⟨1100, []⟩, ⟨1200, []⟩] (r := B (decide ((↑l.length : Int) ≤ (24 : Int)))) (hp := [(2, .ro 4 l.length (rowG encSt l))]) (ob := []) rfl (by kernel_rfl) trivial rfl ⟨ObLe.refl _, trivial⟩ ⟨rfl, fun _ => rfl, trivial⟩ rfl
end Go.Proofs.Ytbgbjgedjmhcaaa
