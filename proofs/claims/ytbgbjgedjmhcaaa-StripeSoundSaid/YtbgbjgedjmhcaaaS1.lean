/- Where the sectors of a striped device lie; flushing its parts. No conditions but those of each theorem. -/
import Derived.Test.YtbgbjgedjmhcaaaDK
import Derived.Test.YtbgbjgedjmhcaaaDFl
import Derived.Test.YtbgbjgedjmhcaaaS2
namespace Go.Proofs.Ytbgbjgedjmhcaaa
open Go.RowKit
open OldD (Dk Un Wr Sc hs hd chk3 chk4 rdV wrE wrK flK reK up upto pFail pFlush)
set_option linter.unusedVariables false
set_option linter.unusedSimpArgs false
theorem lay_s {c K q : Nat} {sz : Nat → Nat} (hc : 1 ≤ c) (hK : 1 ≤ K) (hq : ∀ d, d < K → q * c ≤ sz d) : Lay K sz (K * (q * c)) (plS c K) := by
  refine ⟨fun i hi => ?_, fun i j hi hj e1 e2 => ?_⟩
  · have h1 : i / c % K < K := Nat.mod_lt _ hK
    refine ⟨h1, Nat.lt_of_lt_of_le ?_ (hq _ h1)⟩
    show i / c / K * c + i % c < q * c
    have h2 : i / c / K < q := by
      rw [Nat.div_lt_iff_lt_mul hK, Nat.div_lt_iff_lt_mul hc, Nat.mul_assoc, Nat.mul_comm K c, ← Nat.mul_assoc, Nat.mul_comm (q * c) K]; exact hi
    have h3 := Nat.mod_lt i hc
    have h4 : (i / c / K + 1) * c ≤ q * c := Nat.mul_le_mul_right _ h2
    rw [Nat.add_mul] at h4; omega
  · simp only [plS] at e1 e2
    have dm : ∀ x : Nat, (x / c / K * c + x % c) / c = x / c / K ∧ (x / c / K * c + x % c) % c = x % c := fun x => by
      refine ⟨?_, ?_⟩
      · rw [Nat.mul_comm, Nat.mul_add_div hc, Nat.div_eq_of_lt (Nat.mod_lt x hc), Nat.add_zero]
      · rw [Nat.mul_comm, Nat.mul_add_mod, Nat.mod_mod]
    have e3 : i / c / K = j / c / K := by rw [← (dm i).1, ← (dm j).1, e2]
    have e4 : i % c = j % c := by rw [← (dm i).2, ← (dm j).2, e2]
    have e5 : i / c = j / c := by rw [← Nat.div_add_mod (i / c) K, ← Nat.div_add_mod (j / c) K, e3, e1]
    rw [← Nat.div_add_mod i c, ← Nat.div_add_mod j c, e5, e4]
/-- flushing the parts of a device, each of which is a span -/
theorem Rn.flS {L : List Spn} {n : Nat} {sz : Nat → Nat} {N : Nat} {pl : Nat → Nat × Nat} (Ly : Lay n sz N pl) (hr : ∀ i, i < L.length → 0 ≤ (L.getD i default).d ∧ (L.getD i default).d.toNat < n ∧ 1 ≤ sz (L.getD i default).d.toNat)
    (cov : ∀ i, i < N → ∃ j, j < L.length ∧ (L.getD j default).d.toNat = (pl i).1) {k : Dk} {f : Nat → Sc} {c : Nat} (r : Rn k n sz N pl f c) :
    feL k L L.length = 0 ∧ Rn (flL k L L.length) n sz N pl (upto N pFlush f) c := by
  have key : ∀ j, j ≤ L.length → feL k L j = 0 ∧ Rn (flL k L j) n sz N pl f c ∧ Fd (flL k L j) sz ((List.range j).map fun i => (L.getD i default).d.toNat) := by
    intro j
    induction j with
    | zero => exact fun _ => ⟨rfl, r, fun d hd => by simp at hd⟩
    | succ j ih =>
      intro hj
      obtain ⟨i1, i2, i3⟩ := ih (by omega)
      have rr := hr j (by omega)
      have e : ((L.getD j default).d.toNat : Int) = (L.getD j default).d := by omega
      obtain ⟨j1, j2, j3⟩ := i2.flush1 Ly _ (fun d hd => by
        simp only [List.mem_map, List.mem_range] at hd
        obtain ⟨x, hx, rfl⟩ := hd
        exact (hr x (by omega)).2.1) i3 (d := (L.getD j default).d.toNat) rr.2.1 (by omega)
      rw [e] at j1 j2 j3
      refine ⟨by simp only [feL]; rw [if_pos i1]; exact j1, j2, ?_⟩
      rw [List.range_succ, List.map_append]
      exact j3
  obtain ⟨k1, k2, k3⟩ := key L.length (Nat.le_refl _)
  refine ⟨k1, k2.flushed Ly _ k3 fun i hi => ?_⟩
  simp only [List.mem_map, List.mem_range]
  obtain ⟨j, h1, h2⟩ := cov i hi
  exact ⟨j, h1, h2⟩
end Go.Proofs.Ytbgbjgedjmhcaaa
