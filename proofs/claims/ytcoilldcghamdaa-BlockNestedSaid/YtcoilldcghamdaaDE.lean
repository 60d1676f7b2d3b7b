/- A disk with one word that was written. No conditions but those of each theorem. -/
import Derived.Test.YtcoilldcghamdaaSyZ
import Derived.KernelRfl
import Derived.Test.YtcoilldcghamdaaDC
namespace Go.Proofs.Ytcoilldcghamdaa
open Go.RowKit
open OldD (DA Dk Co fp Gr Row Fresh hid hd hs gu nk good ldK ge vu Ar un stF chk3 chk4 rdV wrE wrK flK)
set_option linter.unusedVariables false
set_option linter.unusedSimpArgs false
set_option maxRecDepth 10000
def d20 : Dk := disk1 (wordsL 3 20)
theorem d20_u : d20.U = [⟨wordsL 3 20, wordsL 3 20, false⟩] := by simp [d20, disk1, ldK, nk, gu, un]
theorem d20_hs {x : Int} (hx : 0 ≤ x ∧ x < 20) : hs d20 0 x = true := by
  simp only [hs, hd, d20_u]
  simp [gu, wordsL_len, hx.1, hx.2]
theorem d20_c3 {x : Int} (hx : 0 ≤ x ∧ x < 20) : chk3 d20 0 x = 0 := by
  have := d20_hs hx
  simp only [chk3, this]
  rfl
theorem d20_we {x : Int} (hx : 0 ≤ x ∧ x < 20) : wrE d20 0 x = 0 := by
  simp only [wrE, d20_c3 hx]
  rfl
theorem d20_wk {x : Int} (v : Int) (hx : 0 ≤ x ∧ x < 20) : (wrK d20 0 x v).U = [⟨(wordsL 3 20).set x.toNat v, wordsL 3 20, false⟩] ∧ (wrK d20 0 x v).down = false ∧ (wrK d20 0 x v).bad 0 x = false := by
  have h0 : wrK d20 0 x v = OldD.wrote { d20 with fuse := if 0 < d20.fuse then d20.fuse - 1 else d20.fuse } 0 x.toNat v := by
    unfold wrK
    rw [if_pos (d20_c3 hx), if_neg (by decide)]
    rfl
  have h1 : d20.U.set 0 { gu d20.U 0 with now := (gu d20.U 0).now.set x.toNat v } = [⟨(wordsL 3 20).set x.toNat v, wordsL 3 20, false⟩] := by
    rw [d20_u]; rfl
  rw [h0]
  refine ⟨h1, rfl, ?_⟩
  simp only [OldD.wrote]
  rw [if_pos ⟨rfl, by omega⟩]
theorem d20_rd {x y : Int} (v : Int) (hx : 0 ≤ x ∧ x < 20) (e : y = x) : rdV (wrK d20 0 x v) 0 y = v ∧ chk4 (wrK d20 0 x v) 0 y = 0 := by
  subst e
  obtain ⟨h1, h2, h3⟩ := d20_wk v hx
  have h4 : hs (wrK d20 0 y v) 0 y = true := by
    simp only [hs, hd, h1]
    simp [gu, wordsL_len, hx.1, hx.2]
  have h5 : chk4 (wrK d20 0 y v) 0 y = 0 := by
    simp only [chk4, h2, h4, h1, h3]
    simp [gu]
  refine ⟨?_, h5⟩
  unfold rdV
  rw [if_pos h5, h1]
  simp [gu, ge, List.getElem?_set, wordsL_len, hx.2]
theorem d20_now {x : Int} (v : Int) (hx : 0 ≤ x ∧ x < 20) : (gu (wrK d20 0 x v).U ((0 : Nat))).now = (wordsL 3 20).set x.toNat v ∧ 0 < (wrK d20 0 x v).U.length := by
  rw [(d20_wk v hx).1]
  exact ⟨rfl, by simp⟩
def V (z : Int) : AV := .val (.int .u8 z)
end Go.Proofs.Ytcoilldcghamdaa
