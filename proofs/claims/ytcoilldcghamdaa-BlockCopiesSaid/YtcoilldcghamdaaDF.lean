/- Two disks that are whole: what reads and writes do, what a copy leaves. No conditions but those of each theorem. -/
import Derived.Test.YtcoilldcghamdaaSyZ
import Derived.KernelRfl
import Derived.Test.YtcoilldcghamdaaDC
namespace Go.Proofs.Ytcoilldcghamdaa
open Go.RowKit
open OldD (DA Dk Co Un fp Gr Row Fresh hid hd hs gu nk good ldK ge vu Ar un stF chk3 chk4 rdV wrE wrK flK)
set_option linter.unusedVariables false
set_option linter.unusedSimpArgs false
set_option maxRecDepth 10000
/-- two disks that are whole, and what they hold -/
structure Gd (k : Dk) (P Q : List Int) (c : Nat) : Prop where
  u : ∃ d e, k.U = [⟨P, d, false⟩, ⟨Q, e, false⟩]
  down : k.down = false
  fuse : k.fuse = 0
  bad : ∀ x y, k.bad x y = false
  F : k.F.length ≤ c
  wr : 0 ≤ k.wr ∧ k.wr ≤ c
theorem Gd.bd {k : Dk} {P Q : List Int} {c : Nat} (h : Gd k P Q c) (hc : c ≤ 2 ^ 32) : Bd k := by
  unfold Bd
  have := h.F; have := h.wr; have := h.fuse
  omega
def pick (P Q : List Int) (d : Int) : List Int := if d = 0 then P else Q
theorem Gd.hs {k : Dk} {P Q : List Int} {c : Nat} (h : Gd k P Q c) {d x : Int} (hd' : d = 0 ∨ d = 1) (hx : 0 ≤ x ∧ x < (pick P Q d).length) : OldD.hs k d x = true ∧ (gu k.U d.toNat).mis = false ∧ (gu k.U d.toNat).now = pick P Q d := by
  obtain ⟨a, b, hu⟩ := h.u
  rcases hd' with rfl | rfl
  · simp only [pick, if_true] at hx ⊢
    simp only [OldD.hs, hd, hu]
    simp [gu, hx.1, hx.2]
  · have e : pick P Q 1 = Q := rfl
    rw [e] at hx ⊢
    simp only [OldD.hs, hd, hu]
    simp [gu, hx.1, hx.2]
theorem Gd.rd {k : Dk} {P Q : List Int} {c : Nat} (h : Gd k P Q c) {d x : Int} (hd' : d = 0 ∨ d = 1) (hx : 0 ≤ x ∧ x < (pick P Q d).length) : chk4 k d x = 0 ∧ chk3 k d x = 0 ∧ wrE k d x = 0 ∧ rdV k d x = (pick P Q d).getD x.toNat default := by
  obtain ⟨h1, h2, h3⟩ := h.hs hd' hx
  have e4 : chk4 k d x = 0 := by simp [chk4, h.down, h1, h2, h.bad]
  have e3 : chk3 k d x = 0 := by simp [chk3, h.down, h1, h2]
  refine ⟨e4, e3, by simp [wrE, e3, h.fuse], ?_⟩
  unfold rdV
  rw [if_pos e4, h3]
  unfold ge
  rw [List.getD_eq_getElem?_getD]
  rfl
theorem Gd.w1 {k : Dk} {P Q : List Int} {c : Nat} (h : Gd k P Q c) {x : Int} (v : Int) (hx : 0 ≤ x ∧ x < Q.length) : Gd (wrK k 1 x v) P (Q.set x.toNat v) (c + 1) := by
  obtain ⟨_, e3, _, _⟩ := h.rd (d := 1) (.inr rfl) hx
  obtain ⟨a, b, hu⟩ := h.u
  have hf := h.fuse
  have hw : wrK k 1 x v = OldD.wrote k 1 x.toNat v := by
    unfold wrK
    rw [if_pos e3, if_neg (by omega), if_neg (by omega)]
    rfl
  rw [hw]
  refine ⟨⟨a, b, ?_⟩, h.down, h.fuse, fun y z => ?_, ?_, ?_⟩
  · simp [OldD.wrote, hu, gu]
  · simp only [OldD.wrote]
    split
    · rfl
    · exact h.bad y z
  · have := h.F
    simp [OldD.wrote]; omega
  · have := h.wr
    simp [OldD.wrote]; omega
/-- what a copy of i sectors from s on leaves -/
def cpK (k : Dk) (s : Int) : Nat → Dk
  | 0 => k
  | i + 1 => wrK (cpK k s i) 1 (s + i) (rdV (cpK k s i) 0 (s + i))
def cpL (P Q : List Int) (s : Nat) : Nat → List Int
  | 0 => Q
  | i + 1 => (cpL P Q s i).set (s + i) (P.getD (s + i) default)
theorem cpL_len (P Q : List Int) (s : Nat) : ∀ i, (cpL P Q s i).length = Q.length
  | 0 => rfl
  | i + 1 => by rw [cpL, List.length_set]; exact cpL_len P Q s i
theorem cpL_at (P Q : List Int) (s : Nat) : ∀ (i j : Nat), j < Q.length → (cpL P Q s i).getD j default = if s ≤ j ∧ j < s + i then P.getD j default else Q.getD j default
  | 0, j, hj => by rw [if_neg (by omega)]; rfl
  | i + 1, j, hj => by
    have ih := cpL_at P Q s i j hj
    rw [cpL, List.getD_eq_getElem?_getD, List.getElem?_set]
    by_cases e : s + i = j
    · subst e
      rw [if_pos rfl, if_pos (by rw [cpL_len]; exact hj), if_pos (by omega)]; rfl
    · rw [if_neg e, ← List.getD_eq_getElem?_getD, ih]
      by_cases h : s ≤ j ∧ j < s + i
      · rw [if_pos h, if_pos (by omega)]
      · rw [if_neg h, if_neg (by omega)]
theorem cp_gd {k : Dk} {P Q : List Int} {c : Nat} (h : Gd k P Q c) (hl : P.length = Q.length) (s : Nat) : ∀ i, s + i ≤ Q.length → Gd (cpK k (s : Int) i) P (cpL P Q s i) (c + i)
  | 0, _ => h
  | i + 1, hi => by
    have ih := cp_gd h hl s i (by omega)
    have hr := ih.rd (d := 0) (x := (s : Int) + i) (.inl rfl) ⟨by omega, by show _ < (P.length : Int); omega⟩
    have e : ((s : Int) + i).toNat = s + i := by omega
    rw [cpK, hr.2.2.2]
    have := ih.w1 (x := (s : Int) + i) (P.getD (s + i) default) ⟨by omega, by rw [cpL_len]; omega⟩
    rw [e] at this
    rw [e, cpL]
    exact this
end Go.Proofs.Ytcoilldcghamdaa
