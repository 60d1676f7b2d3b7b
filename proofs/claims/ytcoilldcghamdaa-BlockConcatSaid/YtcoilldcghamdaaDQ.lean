/- Where the sectors of a window over a concatenation lie; flushes. No conditions but those of each theorem. -/
import Derived.Test.YtcoilldcghamdaaDK
import Derived.Test.YtcoilldcghamdaaDP
namespace Go.Proofs.Ytcoilldcghamdaa
open Go.RowKit
open OldD (Dk Un Wr Sc hs hd chk3 chk4 rdV wrE wrK flK reK up upto pFail pFlush)
set_option linter.unusedVariables false
set_option linter.unusedSimpArgs false
def prtF (L : List Spn) (a : Int) : Nat → Nat
  | 0 => 0
  | j + 1 => if a < upS L j then prtF L a j else j
theorem prtF_ok {L : List Spn} (hL : SpB L) (a : Int) (h : 0 ≤ a ∧ a < upS L L.length) : Prt L a (prtF L a L.length) := by
  have key : ∀ j, j ≤ L.length → a < upS L j → Prt L a (prtF L a j) := by
    intro j
    induction j with
    | zero => intro _ h2; simp [upS] at h2; omega
    | succ j ih =>
      intro hj h2
      unfold prtF
      by_cases h3 : a < upS L j
      · rw [if_pos h3]; exact ih (by omega) h3
      · rw [if_neg h3]; exact ⟨by omega, by omega, by simpa [upS] using h2⟩
  exact key L.length (Nat.le_refl _) h.2
/-- the part of a window's sector, and its place -/
def kW (L : List Spn) (lo : Int) (i : Nat) : Nat := prtF L (lo + i) L.length
def plW (L : List Spn) (lo : Int) (i : Nat) : Nat × Nat := ((L.getD (kW L lo i) default).d.toNat, ((L.getD (kW L lo i) default).s + ((lo + i) - upS L (kW L lo i))).toNat)
/-- spans that lie on n disks, those on one disk one behind the other -/
structure SpL (L : List Spn) (n : Nat) (sz : Nat → Nat) : Prop where
  b : SpB L
  r : ∀ i, i < L.length → 0 ≤ (L.getD i default).d ∧ (L.getD i default).d.toNat < n ∧ (L.getD i default).s + (L.getD i default).n ≤ sz (L.getD i default).d.toNat
  a : ∀ i j, i < j → j < L.length → (L.getD i default).d = (L.getD j default).d → (L.getD i default).s + (L.getD i default).n ≤ (L.getD j default).s
theorem plW_at {L : List Spn} {n : Nat} {sz : Nat → Nat} (h : SpL L n sz) (lo : Int) (N : Nat) (hw : 0 ≤ lo ∧ lo + N ≤ upS L L.length) (i : Nat) (hi : i < N) :
    Prt L (lo + i) (kW L lo i) ∧ ((plW L lo i).1 : Int) = (L.getD (kW L lo i) default).d ∧ ((plW L lo i).2 : Int) = (L.getD (kW L lo i) default).s + ((lo + i) - upS L (kW L lo i)) ∧ (plW L lo i).1 < n ∧ (plW L lo i).2 < sz (plW L lo i).1 := by
  have p := prtF_ok h.b (lo + i) ⟨by omega, by omega⟩
  have p : Prt L (lo + i) (kW L lo i) := p
  have r := h.r _ p.lt
  have b := (h.b.2 _ p.lt).2
  have p1 := p.lo
  have p2 := p.hi
  refine ⟨p, ?_, ?_, r.2.1, ?_⟩
  · show ((L.getD (kW L lo i) default).d.toNat : Int) = _
    omega
  · show ((((L.getD (kW L lo i) default).s + ((lo + i) - upS L (kW L lo i))).toNat : Nat) : Int) = _
    omega
  · show ((L.getD (kW L lo i) default).s + ((lo + i) - upS L (kW L lo i))).toNat < sz (L.getD (kW L lo i) default).d.toNat
    omega
theorem lay_w {L : List Spn} {n : Nat} {sz : Nat → Nat} (h : SpL L n sz) (lo : Int) (N : Nat) (hw : 0 ≤ lo ∧ lo + N ≤ upS L L.length) : Lay n sz N (plW L lo) := by
  refine ⟨fun i hi => ⟨(plW_at h lo N hw i hi).2.2.2.1, (plW_at h lo N hw i hi).2.2.2.2⟩, fun i j hi hj e1 e2 => ?_⟩
  obtain ⟨p, a1, a2, _, _⟩ := plW_at h lo N hw i hi
  obtain ⟨q, b1, b2, _, _⟩ := plW_at h lo N hw j hj
  have d1 : (L.getD (kW L lo i) default).d = (L.getD (kW L lo j) default).d := by omega
  have p1 := p.lo; have p2 := p.hi; have q1 := q.lo; have q2 := q.hi
  rcases Nat.lt_trichotomy (kW L lo i) (kW L lo j) with c | c | c
  · have := h.a _ _ c q.lt d1; omega
  · rw [c] at a2; omega
  · have := h.a _ _ c p.lt d1.symm; omega
/-- flushing the parts -/
theorem Rn.fl {L : List Spn} {n : Nat} {sz : Nat → Nat} (h : SpL L n sz) (lo : Int) (N : Nat) (hw : 0 ≤ lo ∧ lo + N ≤ upS L L.length) {k : Dk} {f : Nat → Sc} {c : Nat} (r : Rn k n sz N (plW L lo) f c) :
    feL k L L.length = 0 ∧ Rn (flL k L L.length) n sz N (plW L lo) (upto N pFlush f) c := by
  have Ly := lay_w h lo N hw
  have key : ∀ j, j ≤ L.length → feL k L j = 0 ∧ Rn (flL k L j) n sz N (plW L lo) f c ∧ Fd (flL k L j) sz ((List.range j).map fun i => (L.getD i default).d.toNat) := by
    intro j
    induction j with
    | zero => exact fun _ => ⟨rfl, r, fun d hd => by simp at hd⟩
    | succ j ih =>
      intro hj
      obtain ⟨i1, i2, i3⟩ := ih (by omega)
      have rr := h.r j (by omega)
      have bb := h.b.2 j (by omega)
      have e : ((L.getD j default).d.toNat : Int) = (L.getD j default).d := by omega
      obtain ⟨j1, j2, j3⟩ := i2.flush1 Ly _ (fun d hd => by
        simp only [List.mem_map, List.mem_range] at hd
        obtain ⟨x, hx, rfl⟩ := hd
        exact (h.r x (by omega)).2.1) i3 (d := (L.getD j default).d.toNat) rr.2.1 (by omega)
      rw [e] at j1 j2 j3
      refine ⟨by simp only [feL]; rw [if_pos i1]; exact j1, j2, ?_⟩
      rw [List.range_succ, List.map_append]
      exact j3
  obtain ⟨k1, k2, k3⟩ := key L.length (Nat.le_refl _)
  refine ⟨k1, k2.flushed Ly _ k3 fun i hi => ?_⟩
  simp only [List.mem_map, List.mem_range]
  exact ⟨kW L lo i, (plW_at h lo N hw i hi).1.lt, rfl⟩
end Go.Proofs.Ytcoilldcghamdaa
