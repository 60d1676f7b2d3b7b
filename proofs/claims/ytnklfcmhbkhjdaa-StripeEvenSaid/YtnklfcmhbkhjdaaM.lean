/- How many of the first sectors each leg has. No conditions but those of each theorem. -/
import Derived.Test.YtnklfcmhbkhjdaaD
import Derived.Laws.OwnMore
import Derived.Laws.AppendOwn
import Derived.OwnWalk
import Derived.Lib.SmallJoins
namespace Go.Proofs.Ytnklfcmhbkhjdaa
open Go.ChangeShapes Go.WideShapes Go.ChangeAt Go.RowKit
set_option linter.unusedVariables false

/-- how many of the first i sectors lie on leg l -/
def F (c k i l : Nat) : Nat := i / (c * k) * c + min c (i % (c * k) - l * c)
theorem F_all : ∀ c, c < 6 → ∀ k, k < 6 → ∀ i, i < 300 → (i / (c+1) / (k+1) * (c+1) + i % (c+1) = F (c+1) (k+1) i (i / (c+1) % (k+1))) ∧ ∀ l, l < k+1 → F (c+1) (k+1) (i + 1) l = F (c+1) (k+1) i l + (if l = i / (c+1) % (k+1) then 1 else 0) := by decide +kernel
theorem F_zero (c k l : Nat) : F c k 0 l = 0 := by simp [F]
theorem F_le (c k i l : Nat) : F c k i l ≤ i + c := by
  unfold F
  have h1 : i / (c * k) * c ≤ i := by
    by_cases hk : k = 0
    · subst hk; simp
    · have h2 : i / (c * k) * (c * k) ≤ i := Nat.div_mul_le_self _ _
      have h3 : i / (c * k) * c ≤ i / (c * k) * (c * k) := Nat.mul_le_mul_left _ (Nat.le_mul_of_pos_right _ (by omega))
      omega
  omega
theorem F_near (c k i a b : Nat) : F c k i a ≤ F c k i b + c := by
  unfold F
  generalize i / (c * k) * c = p
  omega

/-- the row of these numbers -/
def rowv (C K i : Nat) : List Value := (List.range (K + 1)).map fun l => Value.int .i64 (F (C + 1) (K + 1) i l : Nat)
theorem rowv_len (C K i : Nat) : (rowv C K i).length = K + 1 := by simp [rowv]
theorem rowv_at (C K i l : Nat) (hl : l < K + 1) : (rowv C K i)[l]? = some (.int .i64 (F (C + 1) (K + 1) i l : Nat)) := by simp [rowv, hl]
theorem rowv_zero (C K : Nat) : (madeCells (Value.int .i64 0).cells ((K + 1) * 1)).toList = rowv C K 0 := by
  rw [show (Value.int .i64 0).cells = #[Value.int .i64 0] from rfl, toList_madeCells_one]
  apply List.ext_getElem?
  intro j
  by_cases hj : j < K + 1
  · rw [rowv_at _ _ _ _ hj, F_zero]; simp [hj]
  · simp [rowv, hj]
theorem rowv_next (C K i : Nat) (hC : C < 6) (hK : K < 6) (hi : i < 300) (L : Nat) (hL : L = i / (C + 1) % (K + 1)) :
    (rowv C K i).set L (.int .i64 ((F (C + 1) (K + 1) i L + 1 : Nat) : Int)) = rowv C K (i + 1) := by
  apply List.ext_getElem?
  intro j
  rw [List.getElem?_set, rowv_len]
  by_cases hj : j < K + 1
  · have h := (F_all C hC K hK i hi).2 j hj
    rw [rowv_at _ _ _ _ hj, rowv_at _ _ _ _ hj, h, ← hL]
    by_cases e : L = j
    · subst e; simp [hj]
    · rw [if_neg e, if_neg (fun h => e h.symm)]; rfl
  · have hL2 : L < K + 1 := by rw [hL]; exact Nat.mod_lt _ (by omega)
    rw [if_neg (by omega)]
    simp [rowv, hj]

theorem Try.info3 : (Try.prog.info? 3).map (fun i => (i.zero, i.size, i.bytes)) = some (some (.int .i64 0), 1, 8) := by kernel_rfl
theorem info_parts {o : Option TypeInfo} {z : Option Value} {s b : Nat} (h : o.map (fun i => (i.zero, i.size, i.bytes)) = some (z, s, b)) : ∃ i, o = some i ∧ i.zero = z ∧ i.size = s ∧ i.bytes = b := by
  cases o with
  | none => simp at h
  | some i => simp at h; exact ⟨i, rfl, h.1, h.2.1, h.2.2⟩

theorem place_nat (C K i L A : Nat) (hC : C < 6) (hK : K < 6) (hi : i < 300) (hL : L = i / (C + 1) % (K + 1)) (hA : A = F (C + 1) (K + 1) i L) (w : World) :
    Calls Try.prog 8 #[.int .i64 (1 + (C : Int)), .int .i64 (1 + (K : Int)), .int .i64 (i : Int)] w fun e w' => e = .returned (.tuple #[.int .i64 (L : Int), .int .i64 (A : Int), .int .i64 0]) ∧ Below w.heap.size w w' := by
  have h := place_ok (1 + (C : Int)) (1 + (K : Int)) (i : Int) (by omega) (by omega) (by omega) (by omega) (by omega) (by omega) w
  have e1 : (i : Int) / (1 + (C : Int)) % (1 + (K : Int)) = (L : Int) := by
    rw [hL, Int.natCast_emod, Int.natCast_ediv]; congr 2 <;> omega
  have e2 : (i : Int) / (1 + (C : Int)) / (1 + (K : Int)) * (1 + (C : Int)) + (i : Int) % (1 + (C : Int)) = (A : Int) := by
    rw [hA, hL, ← (F_all C hC K hK i hi).1, Int.natCast_add, Int.natCast_mul, Int.natCast_emod, Int.natCast_ediv, Int.natCast_ediv]
    have e3 : ((C + 1 : Nat) : Int) = 1 + (C : Int) := by omega
    have e4 : ((K + 1 : Nat) : Int) = 1 + (K : Int) := by omega
    rw [e3, e4]
  rwa [e1, e2] at h
end Go.Proofs.Ytnklfcmhbkhjdaa
