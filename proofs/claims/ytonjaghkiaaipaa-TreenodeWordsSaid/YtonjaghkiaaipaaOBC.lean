/- Length, Text and Words of layer 2 and of the reference: the words of a text. No conditions but those of each theorem. -/
import Derived.Test.YtonjaghkiaaipaaRows
import Derived.WalkKit
import Derived.ProofKit
import Derived.OpenShut
import Derived.LoopTactic
import Derived.Outline
import Derived.Below
import Derived.WalkLawsBesides
import Derived.WalkSpells
import Derived.Deep.QuietTactic
import Derived.BigQuiet
import Derived.Laws.BitsAllLaws
import Derived.Laws.OwnMore
import Derived.Laws.AppendOwn
import Derived.OwnWalk
import Derived.Lib.SmallJoins
import Derived.StillTailTactics
namespace Go.Proofs.Ytonjaghkiaaipaa.OldB
open Go.ChangeShapes Go.WideShapes Go.ChangeAt Go.RowKit
set_option linter.unusedVariables false

theorem hid {p : Prop} (h : p) : Hid p := h
theorem bt {W a b : World} (h : Below W.heap.size W a) (k : Below a.heap.size a b) : Below W.heap.size W b := h.trans (k.mono h.size)
theorem info_parts {o : Option TypeInfo} {z : Option Value} {s b : Nat} (h : o.map (fun i => (i.zero, i.size, i.bytes)) = some (z, s, b)) : ∃ i, o = some i ∧ i.zero = z ∧ i.size = s ∧ i.bytes = b := by
  cases o with
  | none => simp at h
  | some i => simp at h; exact ⟨i, rfl, h.1, h.2.1, h.2.2⟩
theorem Try.info38 : (Try.prog.info? 38).map (fun i => (i.zero, i.size, i.bytes)) = some (some (.int .u64 0), 1, 8) := by kernel_rfl
theorem own_kept {w w' : World} {base : Nat} {e : TypeId} {size : Nat} {v : Value} {n : Nat} {xs : List Value} (h : w.ownsRow base e size v n xs) (hb : Below w.heap.size w w') : w'.ownsRow base e size v n xs := by
  refine ⟨h.1, h.2.imp id fun ⟨g, cap, cur, hv, hg, hh, rest⟩ => ⟨g, cap, cur, hv, hg, ?_, rest⟩⟩
  rw [hb.block g (Array.getElem?_eq_some_iff.1 hh).1]; exact hh
theorem own_base {w : World} {base : Nat} {e : TypeId} {size : Nat} {v : Value} {n : Nat} {xs : List Value} (h : w.ownsRow base e size v n xs) : ∀ k, v.ownBlock = some k → base ≤ k := by
  intro k hk
  rcases h.2 with ⟨rfl, _⟩ | ⟨g, cap, cur, rfl, hg, _⟩
  · simp [Value.ownBlock] at hk
  · simp [Value.ownBlock] at hk; omega

/-- the number of words of a text of n bytes -/
def ln (n : Nat) : Nat := 1 + n / 8 + (n % 8 + 7) / 8
/-- a row of words -/
def rowu (k : Nat) (f : Nat → Nat) : List Value := (List.range k).map fun j => Value.int .u64 (f j : Nat)
theorem rowu_at (k : Nat) (f : Nat → Nat) (j : Nat) (hj : j < k) : (rowu k f)[j]? = some (.int .u64 (f j : Nat)) := by simp [rowu, hj]
theorem rowu_zero (k : Nat) (f : Nat → Nat) (h : ∀ j, j < k → f j = 0) : (madeCells (Value.int .u64 0).cells (k * 1)).toList = rowu k f := by
  rw [show (Value.int .u64 0).cells = #[Value.int .u64 0] from rfl, toList_madeCells_one]
  apply List.ext_getElem?
  intro j
  by_cases hj : j < k
  · rw [rowu_at _ _ _ hj, h j hj]; simp [hj]
  · simp [rowu, hj]
theorem rowu_set (k : Nat) (f g : Nat → Nat) (L x : Nat) (h : ∀ j, j < k → g j = if j = L then x else f j) : (rowu k f).set L (.int .u64 (x : Int)) = rowu k g := by
  apply List.ext_getElem?
  intro j
  rw [List.getElem?_set]
  by_cases hj : j < k
  · rw [rowu_at _ _ _ hj, rowu_at _ _ _ hj, h j hj]
    by_cases e : L = j
    · subst e; simp [hj, rowu]
    · rw [if_neg e, if_neg (fun h => e h.symm)]
  · have e1 : (rowu k f)[j]? = none := by rw [List.getElem?_eq_none_iff]; simp [rowu]; omega
    have e2 : (rowu k g)[j]? = none := by rw [List.getElem?_eq_none_iff]; simp [rowu]; omega
    have e3 : (rowu k f).length = k := by simp [rowu]
    rw [e1, e2]
    split
    · rw [if_neg (by omega)]
    · rfl
theorem own_at {w : World} {base g cap n k : Nat} {f : Nat → Nat} (h : w.ownsRow base 38 1 (.slice (some ⟨g, 0, none⟩) n cap) n (rowu k f)) (j : Nat) (hj : j < n) (hn : n = k) : w.cell? ⟨g, j, none⟩ = some (.int .u64 (f j : Nat)) := by
  rw [h.cellAt j (by omega), rowu_at _ _ _ (by omega)]

/-- the bytes of a string -/
def byt (s : ByteArray) (i : Nat) : Nat := if h : i < s.size then s[i].toNat else 0
theorem byt_lt (s : ByteArray) (i : Nat) : byt s i < 256 := by
  unfold byt
  split
  · exact UInt8.toNat_lt _
  · omega
theorem or_byte (x b r : Nat) (hx : x < 2 ^ 64) (hb : b < 256) (hr : r < 8) : bits .or .u64 (x : Int) (IntKind.u64.wrap ((b : Int) * 2 ^ (8 * r))) = ((x ||| (b <<< (8 * r)) : Nat) : Int) := by
  have h1 : b <<< (8 * r) < 2 ^ 8 * 2 ^ (8 * r) := by rw [Nat.shiftLeft_eq]; exact Nat.mul_lt_mul_of_pos_right hb (Nat.two_pow_pos _)
  rw [← Nat.pow_add] at h1
  have h2 : b <<< (8 * r) < 2 ^ 64 := Nat.lt_of_lt_of_le h1 (Nat.pow_le_pow_right (by omega) (by omega))
  have e : (b : Int) * 2 ^ (8 * r) = ((b <<< (8 * r) : Nat) : Int) := by rw [Nat.shiftLeft_eq, Int.natCast_mul, Int.natCast_pow]; rfl
  rw [e]
  generalize b <<< (8 * r) = y at h2
  have e2 : IntKind.u64.wrap (y : Int) = (y : Int) := by simp [IntKind.wrap, IntKind.bits, IntKind.signed]; omega
  rw [e2, u64_or_nat _ _ hx h2]
/-- word j of the words of n bytes, behind the first k of them -/
def tw (b : Nat → Nat) (n : Nat) : Nat → Nat → Nat
  | 0, j => if j = 0 then n else 0
  | k + 1, j => if j = 1 + k / 8 then tw b n k j ||| (b k <<< (8 * (k % 8))) else tw b n k j
theorem tw_lt (b : Nat → Nat) (hb : ∀ i, b i < 256) (n : Nat) (hn : n < 2 ^ 64) (k j : Nat) : tw b n k j < 2 ^ 64 := by
  induction k with
  | zero => unfold tw; split <;> omega
  | succ k ih =>
    unfold tw
    split
    · refine Nat.or_lt_two_pow ih ?_
      have h1 : b k <<< (8 * (k % 8)) < 2 ^ 8 * 2 ^ (8 * (k % 8)) := by rw [Nat.shiftLeft_eq]; exact Nat.mul_lt_mul_of_pos_right (hb k) (Nat.two_pow_pos _)
      rw [← Nat.pow_add] at h1
      exact Nat.lt_of_lt_of_le h1 (Nat.pow_le_pow_right (by omega) (by omega))
    · exact ih

end Go.Proofs.Ytonjaghkiaaipaa.OldB
