/- Rows of layer 18: which leg has what, and how often. No conditions but those of each theorem. -/
import Derived.Test.YtahnmmichekamaaB
import Derived.Test.YtahnmmichekamaaE
import Derived.Laws.OwnMore
import Derived.Laws.AppendOwn
import Derived.OwnWalk
namespace Go.Proofs.Ytahnmmichekamaa
open Go.ChangeShapes Go.WideShapes Go.ChangeAt Go.RowKit
set_option linter.unusedVariables false

/-- the leg with the parity of a row R (mod k) of k legs, and the leg of its data chunk i -/
def pp (k R : Nat) : Nat := k - 1 - R
def lg (k R i : Nat) : Nat := (pp k R + 1 + i) % k
/-- how often a leg is used by the first i chunks of a row; how often one has the parity in the first m rows -/
def U (k R i j : Nat) : Nat := if i = 0 then 0 else if (j + k - pp k R) % k ≤ i then 1 else 0
def V (k R m j : Nat) : Nat := if (pp k R + k - j) % k < m then 1 else 0
theorem rows_leg : ∀ K, K < 4 → ∀ R, R < K + 3 → ∀ i, i < K + 2 → lg (K+3) R i < K + 3 ∧ pp (K+3) R < K + 3 ∧ lg (K+3) R i ≠ pp (K+3) R ∧ (lg (K+3) R i + (K+3) - pp (K+3) R - 1) % (K+3) = i ∧
  ∀ j, j < K + 3 → U (K+3) R (i+1) j = U (K+3) R i j + (if j = lg (K+3) R i then 1 else 0) + (if i = 0 ∧ j = pp (K+3) R then 1 else 0) := by decide +kernel
theorem rows_full : ∀ K, K < 4 → ∀ R, R < K + 3 → ∀ j, j < K + 3 → U (K+3) R (K+2) j = 1 ∧ V (K+3) R (K+3) j = 1 ∧ V (K+3) R 0 j = 0 ∧ U (K+3) R 0 j = 0 := by decide +kernel
theorem rows_seen : ∀ K, K < 4 → ∀ R, R < K + 3 → ∀ m, m < K + 3 → ∀ j, j < K + 3 → V (K+3) R (m+1) j = V (K+3) R m j + (if j = pp (K+3) ((R + m) % (K+3)) then 1 else 0) := by decide +kernel
theorem UV_le : (∀ k R i j, U k R i j ≤ 1) ∧ ∀ k R m j, V k R m j ≤ 1 := by
  constructor
  · intro k R i j; unfold U; split <;> (try split) <;> omega
  · intro k R m j; unfold V; split <;> omega

/-- a row of numbers -/
def rowf (k : Nat) (f : Nat → Nat) : List Value := (List.range k).map fun j => Value.int .i64 (f j : Nat)
theorem rowf_at (k : Nat) (f : Nat → Nat) (j : Nat) (hj : j < k) : (rowf k f)[j]? = some (.int .i64 (f j : Nat)) := by simp [rowf, hj]
theorem rowf_congr (k : Nat) (f g : Nat → Nat) (h : ∀ j, j < k → f j = g j) : rowf k f = rowf k g := by
  unfold rowf
  apply List.map_congr_left
  intro j hj
  rw [h j (List.mem_range.1 hj)]
theorem rowf_zero (k : Nat) (f : Nat → Nat) (h : ∀ j, j < k → f j = 0) : (madeCells (Value.int .i64 0).cells (k * 1)).toList = rowf k f := by
  rw [show (Value.int .i64 0).cells = #[Value.int .i64 0] from rfl, toList_madeCells_one]
  apply List.ext_getElem?
  intro j
  by_cases hj : j < k
  · rw [rowf_at _ _ _ hj, h j hj]; simp [hj]
  · simp [rowf, hj]
theorem rowf_set (k : Nat) (f g : Nat → Nat) (L : Nat) (x : Int) (hx : x = (f L : Int) + 1) (h : ∀ j, j < k → g j = f j + if j = L then 1 else 0) : (rowf k f).set L (.int .i64 x) = rowf k g := by
  apply List.ext_getElem?
  intro j
  rw [List.getElem?_set]
  by_cases hj : j < k
  · rw [rowf_at _ _ _ hj, rowf_at _ _ _ hj, h j hj]
    by_cases e : L = j
    · subst e; simp [hj, rowf, hx]
    · rw [if_neg e, if_neg (fun h => e h.symm)]; rfl
  · have hn : (rowf k f).length = k := by simp [rowf]
    have e1 : (rowf k f)[j]? = none := by rw [List.getElem?_eq_none_iff]; omega
    have e2 : (rowf k g)[j]? = none := by rw [List.getElem?_eq_none_iff]; simp [rowf]; omega
    rw [e1, e2]
    split
    · rw [if_neg (by omega)]
    · rfl

theorem own_at {w : World} {base g cap n k : Nat} {f : Nat → Nat} (h : w.ownsRow base 3 1 (.slice (some ⟨g, 0, none⟩) n cap) n (rowf k f)) (j : Nat) (hj : j < n) (hn : n = k) : w.cell? ⟨g, j, none⟩ = some (.int .i64 (f j : Nat)) := by
  rw [h.cellAt j (by omega), rowf_at _ _ _ (by omega)]
theorem own_kept {w w' : World} {base : Nat} {e : TypeId} {size : Nat} {v : Value} {n : Nat} {xs : List Value} (h : w.ownsRow base e size v n xs) (hb : Below w.heap.size w w') : w'.ownsRow base e size v n xs := by
  refine ⟨h.1, h.2.imp id fun ⟨g, cap, cur, hv, hg, hh, rest⟩ => ⟨g, cap, cur, hv, hg, ?_, rest⟩⟩
  rw [hb.block g (Array.getElem?_eq_some_iff.1 hh).1]; exact hh

theorem Try.info3 : (Try.prog.info? 3).map (fun i => (i.zero, i.size, i.bytes)) = some (some (.int .i64 0), 1, 8) := by kernel_rfl
theorem info_parts3 {o : Option TypeInfo} {z : Option Value} {s b : Nat} (h : o.map (fun i => (i.zero, i.size, i.bytes)) = some (z, s, b)) : ∃ i, o = some i ∧ i.zero = z ∧ i.size = s ∧ i.bytes = b := by
  cases o with
  | none => simp at h
  | some i => simp at h; exact ⟨i, rfl, h.1, h.2.1, h.2.2⟩

/-- the numbers of a sector -/
theorem sec_nat (C K r i T s : Nat) (hC : C < 8) (hK : K < 4) (hr : r < 9000) (hi : i < K + 2) (hs : s = (r * (K + 2) + i) * (C + 1) + T % (C + 1)) :
    s / (C + 1) = r * (K + 2) + i ∧ s % (C + 1) = T % (C + 1) ∧ (r * (K + 2) + i) / (K + 2) = r ∧ (r * (K + 2) + i) % (K + 2) = i ∧ s ≤ 1000000 ∧ r * (K + 2) ≤ 45000 ∧ r * (C + 1) ≤ 72000 := by
  have hT : T % (C + 1) < C + 1 := Nat.mod_lt _ (by omega)
  have b1 : r * (K + 2) ≤ 9000 * 5 := Nat.mul_le_mul (by omega) (by omega)
  have b2 : (r * (K + 2) + i) * (C + 1) ≤ 45010 * 8 := Nat.mul_le_mul (by omega) (by omega)
  have b3 : r * (C + 1) ≤ 9000 * 8 := Nat.mul_le_mul (by omega) (by omega)
  refine ⟨?_, ?_, ?_, ?_, by omega, by omega, by omega⟩
  · rw [hs, Nat.add_comm, Nat.add_mul_div_right _ _ (by omega), Nat.div_eq_of_lt hT, Nat.zero_add]
  · rw [hs, Nat.add_comm, Nat.add_mul_mod_self_right, Nat.mod_mod]
  · rw [Nat.add_comm, Nat.add_mul_div_right _ _ (by omega), Nat.div_eq_of_lt hi, Nat.zero_add]
  · rw [Nat.add_comm, Nat.add_mul_mod_self_right, Nat.mod_eq_of_lt hi]

theorem place_row (C K r i T s L O P : Nat) (hC : C < 8) (hK : K < 4) (hr : r < 9000) (hi : i < K + 2) (hs : s = (r * (K + 2) + i) * (C + 1) + T % (C + 1)) (hP : P = pp (K + 3) (r % (K + 3))) (hL : L = lg (K + 3) (r % (K + 3)) i) (hO : O = r * (C + 1) + T % (C + 1)) (w : World) :
    Calls Try.prog 8 #[.int .i64 (1 + (C : Int)), .int .i64 (3 + (K : Int)), .int .i64 (s : Int)] w fun e w' => e = .returned (.tuple #[.int .i64 (L : Int), .int .i64 (O : Int), .int .i64 (P : Int), .int .i64 0]) ∧ Below w.heap.size w w' := by
  obtain ⟨e1, e2, e3, e4, e5, e6, e7⟩ := sec_nat C K r i T s hC hK hr hi hs
  have h := place_ok (1 + (C : Int)) (2 + (K : Int)) (s : Int) (by omega) (by omega) (by omega) (by omega) (by omega) (by omega) w
  rw [show (2 + (K : Int)) + 1 = 3 + (K : Int) by omega] at h
  refine h.mono ?_
  rintro e w' ⟨x, y, z, rfl, hp, hb⟩
  have hm : r % (K + 3) < K + 3 := Nat.mod_lt _ (by omega)
  have i1 : (s : Int) / (1 + (C : Int)) = ((r * (K + 2) + i : Nat) : Int) := by rw [show 1 + (C : Int) = ((C + 1 : Nat) : Int) by omega, ← Int.natCast_ediv, e1]
  have i2 : (s : Int) % (1 + (C : Int)) = ((T % (C + 1) : Nat) : Int) := by rw [show 1 + (C : Int) = ((C + 1 : Nat) : Int) by omega, ← Int.natCast_emod, e2]
  have i3 : ((r * (K + 2) + i : Nat) : Int) / (2 + (K : Int)) = (r : Int) := by rw [show 2 + (K : Int) = ((K + 2 : Nat) : Int) by omega, ← Int.natCast_ediv, e3]
  have i4 : ((r * (K + 2) + i : Nat) : Int) % (2 + (K : Int)) = (i : Int) := by rw [show 2 + (K : Int) = ((K + 2 : Nat) : Int) by omega, ← Int.natCast_emod, e4]
  have i5 : (r : Int) % (2 + (K : Int) + 1) = ((r % (K + 3) : Nat) : Int) := by rw [show 2 + (K : Int) + 1 = ((K + 3 : Nat) : Int) by omega, ← Int.natCast_emod]
  have i6 : 2 + (K : Int) - ((r % (K + 3) : Nat) : Int) = (P : Int) := by rw [hP, pp]; omega
  have hp' := hp.out
  rw [plV, i1, i2, i3, i4, i5, i6] at hp'
  have i7 : ((P : Int) + 1 + (i : Int)) % (2 + (K : Int) + 1) = (L : Int) := by
    rw [hL, lg, ← hP, show 2 + (K : Int) + 1 = ((K + 3 : Nat) : Int) by omega, show (P : Int) + 1 + (i : Int) = ((P + 1 + i : Nat) : Int) by omega, ← Int.natCast_emod]
  have i8 : (r : Int) * (1 + (C : Int)) + ((T % (C + 1) : Nat) : Int) = (O : Int) := by
    rw [hO, Int.natCast_add, Int.natCast_mul, show ((C + 1 : Nat) : Int) = 1 + (C : Int) by omega]
  rw [i7, i8] at hp'
  cases hp'
  exact ⟨rfl, hb⟩

theorem back_row (C K r i T s L O P : Nat) (hC : C < 8) (hK : K < 4) (hr : r < 9000) (hi : i < K + 2) (hs : s = (r * (K + 2) + i) * (C + 1) + T % (C + 1)) (hP : P = pp (K + 3) (r % (K + 3))) (hL : L = lg (K + 3) (r % (K + 3)) i) (hO : O = r * (C + 1) + T % (C + 1)) (w : World) :
    Calls Try.prog 10 #[.int .i64 (1 + (C : Int)), .int .i64 (3 + (K : Int)), .int .i64 (L : Int), .int .i64 (O : Int)] w fun e w' => e = .returned (.tuple #[.int .i64 (s : Int), .bool true, .int .i64 0]) ∧ Below w.heap.size w w' := by
  obtain ⟨e1, e2, e3, e4, e5, e6, e7⟩ := sec_nat C K r i T s hC hK hr hi hs
  have hm : r % (K + 3) < K + 3 := Nat.mod_lt _ (by omega)
  obtain ⟨f1, f2, f3, f4, _⟩ := rows_leg K hK (r % (K + 3)) hm i hi
  rw [← hL] at f1 f3 f4
  rw [← hP] at f2 f3 f4
  have hT : T % (C + 1) < C + 1 := Nat.mod_lt _ (by omega)
  have o1 : O / (C + 1) = r := by rw [hO, Nat.add_comm, Nat.add_mul_div_right _ _ (by omega), Nat.div_eq_of_lt hT, Nat.zero_add]
  have o2 : O % (C + 1) = T % (C + 1) := by rw [hO, Nat.add_comm, Nat.add_mul_mod_self_right, Nat.mod_mod]
  have h := back_ok (1 + (C : Int)) (2 + (K : Int)) (L : Int) (O : Int) (by omega) (by omega) (by omega) (by omega) (by omega) (by omega) (by omega) (by omega) w
  rw [show (2 + (K : Int)) + 1 = 3 + (K : Int) by omega] at h
  refine h.mono ?_
  rintro e w' ⟨x, is, rfl, hp, hb⟩
  have i1 : (O : Int) / (1 + (C : Int)) = (r : Int) := by rw [show 1 + (C : Int) = ((C + 1 : Nat) : Int) by omega, ← Int.natCast_ediv, o1]
  have i2 : (O : Int) % (1 + (C : Int)) = ((T % (C + 1) : Nat) : Int) := by rw [show 1 + (C : Int) = ((C + 1 : Nat) : Int) by omega, ← Int.natCast_emod, o2]
  have i5 : (r : Int) % (2 + (K : Int) + 1) = ((r % (K + 3) : Nat) : Int) := by rw [show 2 + (K : Int) + 1 = ((K + 3 : Nat) : Int) by omega, ← Int.natCast_emod]
  have i6 : 2 + (K : Int) - ((r % (K + 3) : Nat) : Int) = (P : Int) := by rw [hP, pp]; omega
  have hp' := hp.out
  rw [bkV, i1, i2, i5, i6, if_neg (by omega)] at hp'
  have i7 : ((L : Int) - (P : Int) - 1 + (2 + (K : Int) + 1)) % (2 + (K : Int) + 1) = (i : Int) := by
    rw [show (L : Int) - (P : Int) - 1 + (2 + (K : Int) + 1) = ((L + (K + 3) - P - 1 : Nat) : Int) by omega, show 2 + (K : Int) + 1 = ((K + 3 : Nat) : Int) by omega, ← Int.natCast_emod, f4]
  have i8 : ((r : Int) * (2 + (K : Int)) + (i : Int)) * (1 + (C : Int)) + ((T % (C + 1) : Nat) : Int) = (s : Int) := by
    rw [hs, Int.natCast_add, Int.natCast_mul, Int.natCast_add, Int.natCast_mul, show ((C + 1 : Nat) : Int) = 1 + (C : Int) by omega, show ((K + 2 : Nat) : Int) = 2 + (K : Int) by omega]
  rw [i7, i8] at hp'
  cases hp'
  exact ⟨rfl, hb⟩
end Go.Proofs.Ytahnmmichekamaa
