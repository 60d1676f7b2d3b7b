/- Targets that came in; the laws' ends. -/
import Derived.Test.YtcomimabihbfgaaSyU
import Derived.KernelRfl
import Derived.Test.YtcomimabihbfgaaTm
import Derived.Deep.SlicePairs
import Derived.ChangeMaps5
import Derived.Below
import Derived.WalkKit
import Derived.OpenShut
namespace Go.Proofs.Ytcomimabihbfgaa
open Go.ChangeShapes Go.WideShapes Go.ChangeAt Go.RowKit Go.Deep
set_option linter.unusedVariables false
theorem addr_at (a : Addr) (j : Nat) : a.add j = if j = 0 then a else ⟨a.block, a.off + j, none⟩ := by
  by_cases e : j = 0
  · subst e; simp [Addr.add]
  · simp [Addr.add, e]
theorem cells45 : Try.prog.cellsOf 45 = 5 := by kernel_rfl
theorem cells3 : Try.prog.cellsOf 3 = 1 := by kernel_rfl
theorem cells9 : Try.prog.cellsOf 9 = 1 := by kernel_rfl
theorem cells4 : Try.prog.cellsOf 4 = 1 := by kernel_rfl
def valsT (t : Tg) : List Value := [.int .i64 t.start, .int .i64 t.length, .string t.on, .int .i64 t.offset, .bool t.fail]
theorem flat_rows {α β : Type} {n : Nat} {f : α → List β} (hf : ∀ x, (f x).length = n) : ∀ (L : List α), (L.flatMap f).length = L.length * n ∧ ∀ q (h : q < L.length), ((L.flatMap f).drop (q * n)).take n = f L[q]
  | [] => ⟨by simp, fun q h => by simp at h⟩
  | x :: L => by
    obtain ⟨h1, h2⟩ := flat_rows hf L
    refine ⟨by rw [List.flatMap_cons, List.length_append, h1, hf, List.length_cons, Nat.add_mul]; omega, fun q hq => ?_⟩
    rw [List.flatMap_cons]
    cases q with
    | zero => rw [Nat.zero_mul, List.drop_zero, List.take_append_of_le_length (by rw [hf]; exact Nat.le_refl _), List.take_of_length_le (by rw [hf]; exact Nat.le_refl _)]; rfl
    | succ q =>
      rw [show (q + 1) * n = (f x).length + q * n by rw [hf, Nat.add_mul]; omega, List.drop_append]
      simp only [List.drop_of_length_le (show (f x).length ≤ (f x).length + q * n by omega), Nat.add_sub_cancel_left, List.nil_append]
      exact h2 q (by simpa using hq)
/-- targets that came in -/
def Tgs (W : World) (a : Option Addr) (cap : Nat) (L : List Tg) : Prop := L.length ≤ cap ∧ (cap = 0 ∨ ∃ b o, a = some ⟨b, o, none⟩ ∧ b < W.heap.size ∧ ∀ i, i < L.length → ∀ j, j < 5 → W.cell? ⟨b, o + (i * 5 + j), none⟩ = (valsT (getT L i))[j]?)
set_option maxRecDepth 100000 in
theorem open_targets {H : Type} {enc : TypeId × Value → H} {W : World} {base : Nat} {v : Value} {d : DataW H} {p : List MemPlace} (ok : Value.okWide Try.prog W .any base 22 v) (k : DataW.Trod enc Try.prog W 0 (fun _ => true) true 22 v d p) :
    ∃ (a : Option Addr) (cap : Nat) (L : List Tg), v = .slice a L.length cap ∧ L.length ≤ 9223372036854775807 ∧ Tgs W a cap L := by
  obtain ⟨a, len, cap, rfl⟩ := okWide_slice Try.underlying22 ok
  obtain ⟨fuel, hfu⟩ := k
  rcases open_slice Try.underlying22 hfu with ⟨hcs, _⟩ | ⟨x, l, c, m, n, D, Pl, hcs, hb, hl, hm, hmm, hx, hi⟩
  · simp [Value.cells] at hcs
    obtain ⟨rfl, rfl, rfl⟩ := hcs
    exact ⟨none, 0, [], rfl, by simp, Nat.le_refl _, .inl rfl⟩
  · simp [Value.cells] at hcs
    obtain ⟨rfl, rfl, rfl⟩ := hcs
    simp only [if_true] at hmm
    subst hmm
    have hv : ∀ i, i < m → ∃ s : Tg, ∀ j, j < 5 → W.cell? (x.add (i * 5 + j)) = (valsT s)[j]? := fun i hil => by
      obtain ⟨cs', h1, h2⟩ := hi i (by omega)
      rw [cells45] at h1
      obtain ⟨_, hlen, hcell⟩ := World.cells?_some h1
      obtain ⟨xs, k, hk, hxy, _, hxl, hf⟩ := DataW.trod_struct Try.underlying45 h2
      match xs, hxl, cs', hlen with
      | [y0, y1, y2, y3, y4], _, [v0, v1, v2, v3, v4], _ =>
        have g0 := hf 0 _ rfl
        have g1 := hf 1 _ rfl
        have g2 := hf 2 _ rfl
        have g3 := hf 3 _ rfl
        have g4 := hf 4 _ rfl
        simp [cells3, cells9, cells4] at g0 g1 g2 g3 g4
        obtain ⟨z0, a0, _, b0⟩ := DataW.trod_int Try.underlying3 g0
        obtain ⟨z1, a1, _, b1⟩ := DataW.trod_int Try.underlying3 g1
        obtain ⟨z2, a2, _⟩ := DataW.trod_string Try.underlying9 g2
        obtain ⟨z3, a3, _, b3⟩ := DataW.trod_int Try.underlying3 g3
        obtain ⟨z4, a4, _⟩ := DataW.trod_bool Try.underlying4 g4
        simp only [List.cons.injEq, and_true] at a0 a1 a2 a3 a4
        subst a0 a1 a2 a3 a4
        refine ⟨⟨z0, z1, z2, z3, z4⟩, fun j hj => ?_⟩
        have e := hcell j (by omega)
        rw [add_add] at e
        rw [e]
        rfl
    obtain ⟨f, hfv⟩ := choose_lt hv
    refine ⟨some x, m, (List.range len).map f, by simp, by simp; unfold maxLen at hm; omega, by simpa using hl, ?_⟩
    by_cases h0 : m = 0
    · exact .inl h0
    · obtain ⟨b, off, spot⟩ := x
      have hc := hfv 0 (by omega) 0 (by omega)
      have hspot : spot = none := by simpa [Addr.add] using World.cell?_spot hc
      subst hspot
      refine .inr ⟨b, off, rfl, ?_, fun i hi j hj => ?_⟩
      · have hc' : W.cell? ⟨b, off, none⟩ = some (.int .i64 (f 0).start) := by simpa [Addr.add, valsT] using hc
        exact block_lt_of_cell hc'
      · have hil : i < len := by simpa using hi
        have e : getT ((List.range len).map f) i = f i := by unfold getT; simp [hil]
        have q := hfv i (by omega) j hj
        rw [addr_at] at q
        rw [e]
        by_cases e0 : i * 5 + j = 0
        · rw [if_pos e0] at q; rw [e0]; exact q
        · rw [if_neg e0] at q; exact q
theorem valsT_len (t : Tg) : (valsT t).length = 5 := rfl
theorem Tgs.ro {W : World} {a : Option Addr} {cap : Nat} {L : List Tg} {E : Env} {id : Nat} (h : Tgs W a cap L) (hE : E id = if cap = 0 then some (none, 0) else some (a, cap)) : Holds E W id (.ro 5 L.length (rowT L)) ∧ SlOK (if cap = 0 then none else a) (if cap = 0 then 0 else cap) 0 5 L.length none (.slice a L.length cap) := by
  obtain ⟨hl, h2⟩ := h
  obtain ⟨f1, f2⟩ := flat_rows valsT_len L
  by_cases h0 : cap = 0
  · subst h0
    have hL : L.length = 0 := by omega
    refine ⟨⟨none, 0, [], by rw [hE]; rfl, by simp [hL], .inl ⟨rfl, hL, rfl⟩, fun u hu => by simp at hu, fun q hq => by omega⟩, ?_⟩
    rw [hL]
    exact ⟨a, rfl, rfl, rfl⟩
  · rcases h2 with h2 | ⟨b, o, rfl, hb, hc⟩
    · exact absurd h2 h0
    · rw [if_neg h0] at hE
      rw [if_neg h0, if_neg h0]
      refine ⟨⟨some ⟨b, o, none⟩, cap, L.flatMap valsT, hE, f1, .inr ⟨_, rfl, hb, hl, fun j u hu => ?_⟩, fun u hu => ?_, fun q hq => ?_⟩, ⟨o, cap, rfl, hl, by omega, fun _ => by simp, by simp⟩⟩
      · have hj : j < L.length * 5 := by rw [← f1]; exact (List.getElem?_eq_some_iff.1 hu).1
        have hq : j / 5 < L.length := by omega
        have e := f2 (j / 5) hq
        have e1 : (L.flatMap valsT)[j]? = (valsT L[j / 5])[j % 5]? := by
          rw [← e, List.getElem?_take, if_pos (by omega), List.getElem?_drop]
          congr 1
          omega
        have e2 : getT L (j / 5) = L[j / 5] := by unfold getT; rw [List.getD_eq_getElem?_getD, List.getElem?_eq_getElem hq]; rfl
        have := hc (j / 5) hq (j % 5) (by omega)
        rw [e2, ← e1, hu, show j / 5 * 5 + j % 5 = j by omega] at this
        exact this
      · obtain ⟨t, _, ht⟩ := List.mem_flatMap.1 hu
        simp only [valsT, List.mem_cons, List.not_mem_nil, or_false] at ht
        rcases ht with rfl | rfl | rfl | rfl | rfl <;> rfl
      · unfold cellsAt
        rw [f2 q hq]
        have e2 : rowT L q = encT L[q] := by unfold rowT getT; rw [List.getD_eq_getElem?_getD, List.getElem?_eq_getElem hq]; rfl
        rw [e2]
        simp [encT, valsT, RVs, RV]
/-- a law's end -/
theorem CallOK.law {P : Program} {g : FuncId} {args : List AV} {h : Hp} (c : CallOK P g args h (B true) []) (hro : ∀ id o, find h id = some o → o.owned = false) {E : Env} {W : World} {cargs : List Value} (hr : RVs E args cargs) (rh : RH E h W) :
    Calls P g cargs.toArray W fun e W' => e = .returned (.bool true) ∧ Below W.heap.size W W' := by
  refine (c.2 E W cargs hr rh (fun id hid => by simp [newIds] at hid)).mono fun e W' ⟨cv, E', he, hx, hv, hr', hm⟩ => ?_
  simp only [RV] at hv
  subst hv
  exact ⟨he, hm.os, hm.tape, hm.output, hm.size, fun b hb => hm.old b hb fun id o ho hw => by rw [hro id o ho] at hw; cases hw⟩
def envOf (a : Option Addr) (cap : Nat) : Option Addr × Nat := if cap = 0 then (none, 0) else (a, cap)
theorem two_tables {W : World} {a0 a1 : Option Addr} {c0 c1 : Nat} {L M : List Tg} (h0 : Tgs W a0 c0 L) (h1 : Tgs W a1 c1 M) :
    ∃ E : Env, RH E [(0, .ro 5 L.length (rowT L)), (1, .ro 5 M.length (rowT M))] W ∧ RV E (.sl 0 0 5 L.length none) (.slice a0 L.length c0) ∧ RV E (.sl 1 0 5 M.length none) (.slice a1 M.length c1) := by
  refine ⟨fun id => if id = 0 then (if c0 = 0 then some (none, 0) else some (a0, c0)) else if id = 1 then (if c1 = 0 then some (none, 0) else some (a1, c1)) else none, ?_, ?_, ?_⟩
  · refine ⟨fun id o ho => ?_, fun i j o p hi hj hne hw => ?_⟩
    · simp only [find] at ho
      split at ho
      · rename_i e
        have e : id = 0 := by simpa using (beq_iff_eq.1 e).symm
        subst e
        obtain rfl := Option.some.inj ho
        exact (h0.ro (id := 0) (by simp)).1
      · split at ho
        · rename_i e
          have e : id = 1 := by simpa using (beq_iff_eq.1 e).symm
          subst e
          obtain rfl := Option.some.inj ho
          exact (h1.ro (id := 1) (by simp)).1
        · cases ho
    · exfalso
      simp only [find] at hi
      split at hi
      · obtain rfl := Option.some.inj hi; cases hw
      · split at hi
        · obtain rfl := Option.some.inj hi; cases hw
        · cases hi
  · have := (h0.ro (id := 0) (E := fun id => if c0 = 0 then some (none, 0) else some (a0, c0)) rfl).2
    refine ⟨_, _, ?_, this⟩
    by_cases e : c0 = 0 <;> simp [e]
  · have := (h1.ro (id := 1) (E := fun id => if c1 = 0 then some (none, 0) else some (a1, c1)) rfl).2
    refine ⟨_, _, ?_, this⟩
    by_cases e : c1 = 0 <;> simp [e]
end Go.Proofs.Ytcomimabihbfgaa
