/- The engine, part W: a law's end: lists of integers that came in; texts that came in. No conditions but those of each theorem. -/
import Derived.Test.YtbgbjgedjmhcaaaSyV
import Derived.KernelRfl
import Derived.Below
import Derived.WalkKit
import Derived.OpenShut
namespace Go.Proofs.Ytbgbjgedjmhcaaa
open Go.ChangeShapes Go.WideShapes Go.ChangeAt Go.RowKit
set_option linter.unusedVariables false
def encI (x : Int) : List AV := [I x]
/-- a slice of integers that came in: it is nil, or it leads to a row of 'cap' cells, the numbers 'zs', each fitting its kind -/
def IsRow (k : IntKind) (w : World) (a : Option Addr) (len cap : Nat) (zs : List Int) : Prop :=
  (a = none ∧ len = 0 ∧ cap = 0 ∧ zs = []) ∨
  ∃ x, a = some x ∧ len ≤ cap ∧ cap ≤ maxLen ∧ zs.length = cap ∧ (∀ i, i < zs.length → w.cell? (x.add i) = some (.int k (zs.getD i 0))) ∧ ∀ n ∈ zs, (Lit.int k n).wf = true
def inE (a : Option Addr) (cap : Nat) : Option Addr × Nat := if cap = 0 then (none, 0) else (a, cap)
theorem addr_plus (a : Addr) (j : Nat) : a.add j = if j = 0 then a else ⟨a.block, a.off + j, none⟩ := by
  by_cases e : j = 0
  · subst e; simp [Addr.add]
  · simp [Addr.add, e]
theorem wf_bd {n : Int} (h : (Lit.int .i64 n).wf = true) : -9223372036854775808 ≤ n ∧ n ≤ 9223372036854775807 := by
  simp [Lit.wf, IntKind.min, IntKind.max, IntKind.signed, IntKind.bits] at h
  simpa using h
theorem IsRow.facts {W : World} {a : Option Addr} {len cap : Nat} {z : List Int} (h : IsRow .i64 W a len cap z) : len ≤ cap ∧ (z.take len).length = len ∧ len ≤ 9223372036854775807 ∧ ∀ n ∈ z, -9223372036854775808 ≤ n ∧ n ≤ 9223372036854775807 := by
  rcases h with ⟨rfl, rfl, rfl, rfl⟩ | ⟨x, rfl, hl, hm, hz, hcell, hwz⟩
  · exact ⟨Nat.le_refl _, rfl, by omega, fun n hn => by cases hn⟩
  · refine ⟨hl, ?_, ?_, fun n hn => wf_bd (hwz n hn)⟩
    · rw [List.length_take]; omega
    · unfold maxLen at hm; omega
theorem IsRow.ro {W : World} {a : Option Addr} {len cap : Nat} {z : List Int} {E : Env} {id : Nat} (h : IsRow .i64 W a len cap z) (hE : E id = some (inE a cap)) : Holds E W id (.ro 1 (z.take len).length (rowG encI (z.take len))) ∧ RV E (.sl id 0 1 (z.take len).length none) (.slice a len cap) := by
  obtain ⟨hlc, hlen, _, _⟩ := h.facts
  rcases h with ⟨rfl, rfl, rfl, rfl⟩ | ⟨x, rfl, hl, hm, hz, hcell, hwz⟩
  · refine ⟨⟨none, 0, [], hE, rfl, .inl ⟨rfl, rfl, rfl⟩, (fun u hu => by cases hu), fun q hq => by simp at hq⟩, none, 0, hE, ?_⟩
    exact ⟨none, rfl, rfl, rfl⟩
  · rw [hlen]
    by_cases h0 : cap = 0
    · subst h0
      obtain rfl : len = 0 := by omega
      have hE' : E id = some (none, 0) := hE
      refine ⟨⟨none, 0, [], hE', rfl, .inl ⟨rfl, rfl, rfl⟩, (fun u hu => by cases hu), fun q hq => by omega⟩, none, 0, hE', ?_⟩
      exact ⟨_, rfl, rfl, rfl⟩
    · have hE' : E id = some (some x, cap) := by rw [hE, inE, if_neg h0]
      have hspot : x.spot = none := by
        have hc := hcell 0 (by omega)
        obtain ⟨b, off, spot⟩ := x
        simpa [Addr.add] using World.cell?_spot hc
      have hb : x.block < W.heap.size := by
        have hc := hcell 0 (by omega)
        rw [addr_plus, if_pos rfl] at hc
        exact block_lt_of_cell hc
      obtain ⟨b, off, spot⟩ := x
      dsimp only at hspot hb
      subst hspot
      have ht : ∀ q, q < len → (z.take len).getD q default = z.getD q 0 := fun q hq => by
        rw [List.getD_eq_getElem?_getD, List.getElem?_take, if_pos hq, List.getD_eq_getElem?_getD]
        rfl
      refine ⟨⟨some ⟨b, off, none⟩, cap, (z.take len).map (fun n => Value.int .i64 n), hE', by rw [List.length_map, hlen, Nat.mul_one], .inr ⟨_, rfl, hb, hl, fun j u hu => ?_⟩, fun u hu => ?_, fun q hq => ?_⟩, some ⟨b, off, none⟩, cap, hE', ⟨off, cap, rfl, hl, by omega, fun _ => by simp, by simp⟩⟩
      · rw [List.getElem?_map] at hu
        cases hz' : (z.take len)[j]? with
        | none => rw [hz'] at hu; simp at hu
        | some n =>
          rw [hz'] at hu
          simp only [Option.map_some, Option.some.injEq] at hu
          subst hu
          have hj : j < len := by
            have := (List.getElem?_eq_some_iff.1 hz').1
            omega
          have hc := hcell j (by omega)
          have e : z.getD j 0 = n := by rw [← ht j hj, List.getD_eq_getElem?_getD, hz']; rfl
          rw [e, addr_plus] at hc
          by_cases e0 : j = 0
          · subst e0; simpa using hc
          · rw [if_neg e0] at hc; exact hc
      · obtain ⟨n, _, rfl⟩ := List.mem_map.1 hu
        rfl
      · unfold cellsAt rowG encI
        have hq' : q < (z.take len).length := by omega
        rw [Nat.mul_one, List.drop_eq_getElem_cons (by simpa using hq')]
        have : (z.take len).getD q default = (z.take len)[q] := by rw [List.getD_eq_getElem?_getD, List.getElem?_eq_getElem hq']; rfl
        rw [this]
        simp [RVs, RV]
/-- a law's end -/
theorem CallOK.lawB {P : Program} {g : FuncId} {args : List AV} {h : Hp} (c : CallOK P g args h (B true) []) (hro : ∀ id o, find h id = some o → o.owned = false) {E : Env} {W : World} {cargs : List Value} (hr : RVs E args cargs) (rh : RH E h W) :
    Calls P g cargs.toArray W fun e W' => e = .returned (.bool true) ∧ Below W.heap.size W W' := by
  refine (c.2 E W cargs hr rh (fun id hid => by simp [newIds] at hid)).mono fun e W' ⟨cv, E', he, hx, hv, hr', hm⟩ => ?_
  simp only [RV] at hv
  subst hv
  exact ⟨he, hm.os, hm.tape, hm.output, hm.size, fun b hb => hm.old b hb fun id o ho hw => by rw [hro id o ho] at hw; cases hw⟩
/-- a heap of slices that are only read -/
theorem RH.ros {E : Env} {W : World} {h : Hp} (hh : ∀ id o, find h id = some o → Holds E W id o) (hro : ∀ id o, find h id = some o → o.owned = false) : RH E h W :=
  ⟨hh, fun i j o p hi hj hne hw => by rw [hro i o hi] at hw; cases hw⟩
theorem find_one {k : Nat} {o : Ob} {id : Nat} {o' : Ob} (h : find [(k, o)] id = some o') : id = k ∧ o' = o := by
  simp only [find] at h
  split at h
  · rename_i e
    exact ⟨(beq_iff_eq.1 e).symm, (Option.some.inj h).symm⟩
  · cases h
/-- a law over one list of integers, with other arguments that name no memory -/
theorem one_row {W : World} {a : Option Addr} {len cap : Nat} {z : List Int} (h : IsRow .i64 W a len cap z) (k : Nat) :
    ∃ E : Env, RH E [(k, .ro 1 (z.take len).length (rowG encI (z.take len)))] W ∧ RV E (.sl k 0 1 (z.take len).length none) (.slice a len cap) := by
  have key := h.ro (E := fun id => if id = k then some (inE a cap) else none) (id := k) (by simp)
  refine ⟨_, RH.ros (fun id o ho => ?_) (fun id o ho => ?_), key.2⟩
  · obtain ⟨rfl, rfl⟩ := find_one ho; exact key.1
  · obtain ⟨rfl, rfl⟩ := find_one ho; rfl
end Go.Proofs.Ytbgbjgedjmhcaaa
