/- Lists of words with bits set. No condition. -/
import Derived.Test.YtflmfjfeeajkfaaS
namespace Go.Proofs.Ytflmfjfeeajkfaa
open Go.RowKit
set_option linter.unusedVariables false

/-- the list with bit r of word q set or cleared -/
def st (ws : List Nat) (q r : Nat) (is : Bool) : List Nat := ws.set q (sb (ws[q]?.getD 0) r is)
theorem st_length (ws : List Nat) (q r : Nat) (is : Bool) : (st ws q r is).length = ws.length := by simp [st]
def Lt (ws : List Nat) : Prop := ∀ j, j < ws.length → ws[j]?.getD 0 < 18446744073709551616
theorem st_lt {ws : List Nat} {q r : Nat} {is : Bool} (h : Lt ws) (hq : q < ws.length) (hr : r < 64) : Lt (st ws q r is) := by
  intro j hj
  rw [st_length] at hj
  unfold st
  rw [set_getD _ _ _ _ hq]
  split
  · exact sb_lt _ _ (h q hq) hr
  · exact h j hj
theorem sb_comm {v r r' : Nat} {x y : Bool} (hv : v < 18446744073709551616) (hr : r < 64) (hr' : r' < 64) (h : r = r' → x = y) : sb (sb v r x) r' y = sb (sb v r' y) r x := by
  apply Nat.eq_of_testBit_eq
  intro i
  rw [sb_bit _ _ _ (sb_lt _ _ hv hr) hr', sb_bit _ _ _ hv hr, sb_bit _ _ _ (sb_lt _ _ hv hr') hr, sb_bit _ _ _ hv hr']
  by_cases e1 : i = r
  · by_cases e2 : i = r'
    · rw [if_pos e2, if_pos e1, h (e1.symm.trans e2)]
    · rw [if_neg e2, if_pos e1, if_pos e1]
  · by_cases e2 : i = r'
    · rw [if_pos e2, if_neg e1, if_pos e2]
    · rw [if_neg e2, if_neg e1, if_neg e1, if_neg e2]
theorem sb_twice {v r : Nat} {x y : Bool} (hv : v < 18446744073709551616) (hr : r < 64) : sb (sb v r x) r y = sb v r y := by
  apply Nat.eq_of_testBit_eq
  intro i
  rw [sb_bit _ _ _ (sb_lt _ _ hv hr) hr, sb_bit _ _ _ hv hr, sb_bit _ _ _ hv hr]
  split <;> rfl
theorem st_comm {ws : List Nat} {q r q' r' : Nat} {x y : Bool} (hw : Lt ws) (hq : q < ws.length) (hq' : q' < ws.length) (hr : r < 64) (hr' : r' < 64) (h : q = q' → r = r' → x = y) : st (st ws q r x) q' r' y = st (st ws q' r' y) q r x := by
  unfold st
  by_cases e : q = q'
  · subst e
    rw [set_getD _ _ _ _ hq, if_pos rfl, set_getD _ _ _ _ hq, if_pos rfl, List.set_set, List.set_set, sb_comm (hw q hq) hr hr' (h rfl)]
  · rw [set_getD _ _ _ _ hq, if_neg (fun h => e h.symm), set_getD _ _ _ _ hq', if_neg e, List.set_comm _ _ e]
theorem st_twice {ws : List Nat} {q r : Nat} {x y : Bool} (hw : Lt ws) (hq : q < ws.length) (hr : r < 64) : st (st ws q r x) q r y = st ws q r y := by
  unfold st
  rw [set_getD _ _ _ _ hq, if_pos rfl, List.set_set, sb_twice (hw q hq) hr]
theorem st_back {ws : List Nat} {q r q' r' : Nat} {x y : Bool} (hw : Lt ws) (hq : q < ws.length) (hq' : q' < ws.length) (hr : r < 64) (hr' : r' < 64) (h : q = q' → r = r' → x = y) : st (st (st ws q r x) q' r' y) q r x = st (st ws q r x) q' r' y := by
  rw [← st_comm (st_lt hw hq hr) (by rw [st_length]; exact hq) (by rw [st_length]; exact hq') hr hr' h, st_twice hw hq hr]
end Go.Proofs.Ytflmfjfeeajkfaa
