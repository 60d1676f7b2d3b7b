/- Ranges that came in. No conditions but those of each theorem. -/
import Derived.Test.YtgfdmeaganhpiaaSyZ
import Derived.KernelRfl
import Derived.Test.YtgfdmeaganhpiaaYA
import Derived.Deep.SlicePairs
import Derived.ChangeMaps5
import Derived.Below
import Derived.WalkKit
import Derived.OpenShut
namespace Go.Proofs.Ytgfdmeaganhpiaa
open Go.ChangeShapes Go.WideShapes Go.ChangeAt Go.RowKit Go.Deep
set_option linter.unusedVariables false
theorem addr_at (a : Addr) (j : Nat) : a.add j = if j = 0 then a else ⟨a.block, a.off + j, none⟩ := by
  by_cases e : j = 0
  · subst e; simp [Addr.add]
  · simp [Addr.add, e]
theorem cells42 : Try.prog.cellsOf 42 = 2 := by kernel_rfl
theorem cells3 : Try.prog.cellsOf 3 = 1 := by kernel_rfl
def valsT (t : Rn) : List Value := [.int .i64 t.1, .int .i64 t.2]
theorem flat_rows {α β : Type} {n : Nat} {f : α → List β} (hf : ∀ x, (f x).length = n) : ∀ (L : List α), (L.flatMap f).length = L.length * n ∧ ∀ q (h : q < L.length), ((L.flatMap f).drop (q * n)).take n = f L[q]
  | [] => ⟨by simp, fun q h => by simp at h⟩
  | x :: L => by
    obtain ⟨h1, h2⟩ := flat_rows hf L
    refine ⟨by rw [List.flatMap_cons, List.length_append, h1, hf, List.length_cons, Nat.add_mul]; omega, fun q hq => ?_⟩
    rw [List.flatMap_cons]
    cases q with
    | zero => rw [Nat.zero_mul, List.drop_zero, List.take_append_of_le_length (by rw [hf]; exact Nat.le_refl _), List.take_of_length_le (by rw [hf]; exact Nat.le_refl _)]; rfl
    | succ q =>
      rw [show (q + 1) * n = (f x).length + q * n by rw [hf, Nat.add_mul]; omega, List.drop_append]
      simp only [List.drop_of_length_le (show (f x).length ≤ (f x).length + q * n by omega), Nat.add_sub_cancel_left, List.nil_append]
      exact h2 q (by simpa using hq)
/-- targets that came in -/
def Rgs (W : World) (a : Option Addr) (cap : Nat) (L : List Rn) : Prop := L.length ≤ cap ∧ (cap = 0 ∨ ∃ b o, a = some ⟨b, o, none⟩ ∧ b < W.heap.size ∧ ∀ i, i < L.length → ∀ j, j < 2 → W.cell? ⟨b, o + (i * 2 + j), none⟩ = (valsT (L.getD i default))[j]?)
set_option maxRecDepth 100000 in
theorem open_lists {H : Type} {enc : TypeId × Value → H} {W : World} {base : Nat} {v : Value} {d : DataW H} {p : List MemPlace} (ok : Value.okWide Try.prog W .any base 22 v) (k : DataW.Trod enc Try.prog W 0 (fun _ => true) true 22 v d p) :
    ∃ (a : Option Addr) (cap : Nat) (L : List Rn), v = .slice a L.length cap ∧ L.length ≤ 9223372036854775807 ∧ Rgs W a cap L := by
  obtain ⟨a, len, cap, rfl⟩ := okWide_slice Try.underlying22 ok
  obtain ⟨fuel, hfu⟩ := k
  rcases open_slice Try.underlying22 hfu with ⟨hcs, _⟩ | ⟨x, l, c, m, n, D, Pl, hcs, hb, hl, hm, hmm, hx, hi⟩
  · simp [Value.cells] at hcs
    obtain ⟨rfl, rfl, rfl⟩ := hcs
    exact ⟨none, 0, [], rfl, by simp, Nat.le_refl _, .inl rfl⟩
  · simp [Value.cells] at hcs
    obtain ⟨rfl, rfl, rfl⟩ := hcs
    simp only [if_true] at hmm
    subst hmm
    have hv : ∀ i, i < m → ∃ s : Rn, ∀ j, j < 2 → W.cell? (x.add (i * 2 + j)) = (valsT s)[j]? := fun i hil => by
      obtain ⟨cs', h1, h2⟩ := hi i (by omega)
      rw [cells42] at h1
      obtain ⟨_, hlen, hcell⟩ := World.cells?_some h1
      obtain ⟨xs, k, hk, hxy, _, hxl, hf⟩ := DataW.trod_struct Try.underlying42 h2
      match xs, hxl, cs', hlen with
      | [y0, y1], _, [v0, v1], _ =>
        have g0 := hf 0 _ rfl
        have g1 := hf 1 _ rfl
        simp [cells3] at g0 g1
        obtain ⟨z0, a0, _, b0⟩ := DataW.trod_int Try.underlying3 g0
        obtain ⟨z1, a1, _, b1⟩ := DataW.trod_int Try.underlying3 g1
        simp only [List.cons.injEq, and_true] at a0 a1
        subst a0 a1
        refine ⟨⟨z0, z1⟩, fun j hj => ?_⟩
        have e := hcell j (by omega)
        rw [add_add] at e
        rw [e]
        rfl
    obtain ⟨f, hfv⟩ := choose_lt hv
    refine ⟨some x, m, (List.range len).map f, by simp, by simp; unfold maxLen at hm; omega, by simpa using hl, ?_⟩
    by_cases h0 : m = 0
    · exact .inl h0
    · obtain ⟨b, off, spot⟩ := x
      have hc := hfv 0 (by omega) 0 (by omega)
      have hspot : spot = none := by simpa [Addr.add] using World.cell?_spot hc
      subst hspot
      refine .inr ⟨b, off, rfl, ?_, fun i hi j hj => ?_⟩
      · have hc' : W.cell? ⟨b, off, none⟩ = some (.int .i64 (f 0).1) := by simpa [Addr.add, valsT] using hc
        exact block_lt_of_cell hc'
      · have hil : i < len := by simpa using hi
        have e : ((List.range len).map f).getD i default = f i := by simp [List.getD_eq_getElem?_getD, hil]
        have q := hfv i (by omega) j hj
        rw [addr_at] at q
        rw [e]
        by_cases e0 : i * 2 + j = 0
        · rw [if_pos e0] at q; rw [e0]; exact q
        · rw [if_neg e0] at q; exact q
theorem valsT_len (t : Rn) : (valsT t).length = 2 := rfl
theorem Rgs.ro {W : World} {a : Option Addr} {cap : Nat} {L : List Rn} {E : Env} {id : Nat} (h : Rgs W a cap L) (hE : E id = if cap = 0 then some (none, 0) else some (a, cap)) : Holds E W id (.ro 2 L.length (rowG encR L)) ∧ SlOK (if cap = 0 then none else a) (if cap = 0 then 0 else cap) 0 2 L.length none (.slice a L.length cap) := by
  obtain ⟨hl, h2⟩ := h
  obtain ⟨f1, f2⟩ := flat_rows valsT_len L
  by_cases h0 : cap = 0
  · subst h0
    have hL : L.length = 0 := by omega
    refine ⟨⟨none, 0, [], by rw [hE]; rfl, by simp [hL], .inl ⟨rfl, hL, rfl⟩, fun u hu => by simp at hu, fun q hq => by omega⟩, ?_⟩
    rw [hL]
    exact ⟨a, rfl, rfl, rfl⟩
  · rcases h2 with h2 | ⟨b, o, rfl, hb, hc⟩
    · exact absurd h2 h0
    · rw [if_neg h0] at hE
      rw [if_neg h0, if_neg h0]
      refine ⟨⟨some ⟨b, o, none⟩, cap, L.flatMap valsT, hE, f1, .inr ⟨_, rfl, hb, hl, fun j u hu => ?_⟩, fun u hu => ?_, fun q hq => ?_⟩, ⟨o, cap, rfl, hl, by omega, fun _ => by simp, by simp⟩⟩
      · have hj : j < L.length * 2 := by rw [← f1]; exact (List.getElem?_eq_some_iff.1 hu).1
        have hq : j / 2 < L.length := by omega
        have e := f2 (j / 2) hq
        have e1 : (L.flatMap valsT)[j]? = (valsT L[j / 2])[j % 2]? := by
          rw [← e, List.getElem?_take, if_pos (by omega), List.getElem?_drop]
          congr 1
          omega
        have e2 : L.getD (j / 2) default = L[j / 2] := by rw [List.getD_eq_getElem?_getD, List.getElem?_eq_getElem hq]; rfl
        have := hc (j / 2) hq (j % 2) (by omega)
        rw [e2, ← e1, hu, show j / 2 * 2 + j % 2 = j by omega] at this
        exact this
      · obtain ⟨t, _, ht⟩ := List.mem_flatMap.1 hu
        simp only [valsT, List.mem_cons, List.not_mem_nil, or_false] at ht
        rcases ht with rfl | rfl <;> rfl
      · unfold cellsAt
        rw [f2 q hq]
        have e2 : rowG encR L q = encR L[q] := by unfold rowG; rw [List.getD_eq_getElem?_getD, List.getElem?_eq_getElem hq]; rfl
        rw [e2]
        simp [encR, valsT, RVs, RV]
theorem two_lists {W : World} {a0 a1 : Option Addr} {c0 c1 : Nat} {L M : List Rn} (h0 : Rgs W a0 c0 L) (h1 : Rgs W a1 c1 M) :
    ∃ E : Env, RH E [(0, .ro 2 L.length (rowG encR L)), (1, .ro 2 M.length (rowG encR M))] W ∧ RV E (.sl 0 0 2 L.length none) (.slice a0 L.length c0) ∧ RV E (.sl 1 0 2 M.length none) (.slice a1 M.length c1) := by
  refine ⟨fun id => if id = 0 then (if c0 = 0 then some (none, 0) else some (a0, c0)) else if id = 1 then (if c1 = 0 then some (none, 0) else some (a1, c1)) else none, ?_, ?_, ?_⟩
  · refine ⟨fun id o ho => ?_, fun i j o p hi hj hne hw => ?_⟩
    · simp only [find] at ho
      split at ho
      · rename_i e
        have e : id = 0 := by simpa using (beq_iff_eq.1 e).symm
        subst e
        obtain rfl := Option.some.inj ho
        exact (h0.ro (id := 0) (by simp)).1
      · split at ho
        · rename_i e
          have e : id = 1 := by simpa using (beq_iff_eq.1 e).symm
          subst e
          obtain rfl := Option.some.inj ho
          exact (h1.ro (id := 1) (by simp)).1
        · cases ho
    · exfalso
      simp only [find] at hi
      split at hi
      · obtain rfl := Option.some.inj hi; cases hw
      · split at hi
        · obtain rfl := Option.some.inj hi; cases hw
        · cases hi
  · have := (h0.ro (id := 0) (E := fun id => if c0 = 0 then some (none, 0) else some (a0, c0)) rfl).2
    refine ⟨_, _, ?_, this⟩
    by_cases e : c0 = 0 <;> simp [e]
  · have := (h1.ro (id := 1) (E := fun id => if c1 = 0 then some (none, 0) else some (a1, c1)) rfl).2
    refine ⟨_, _, ?_, this⟩
    by_cases e : c1 = 0 <;> simp [e]
theorem one_list {W : World} {a0 : Option Addr} {c0 : Nat} {L : List Rn} (h0 : Rgs W a0 c0 L) :
    ∃ E : Env, RH E [(0, .ro 2 L.length (rowG encR L))] W ∧ RV E (.sl 0 0 2 L.length none) (.slice a0 L.length c0) := by
  have key := h0.ro (id := 0) (E := fun id => if id = 0 then (if c0 = 0 then some (none, 0) else some (a0, c0)) else none) rfl
  refine ⟨fun id => if id = 0 then (if c0 = 0 then some (none, 0) else some (a0, c0)) else none, RH.ros (fun id o ho => ?_) (fun id o ho => ?_), _, _, ?_, key.2⟩
  · obtain ⟨rfl, rfl⟩ := find_one ho; exact key.1
  · obtain ⟨rfl, rfl⟩ := find_one ho; rfl
  · by_cases e : c0 = 0 <;> simp [e]
end Go.Proofs.Ytgfdmeaganhpiaa
