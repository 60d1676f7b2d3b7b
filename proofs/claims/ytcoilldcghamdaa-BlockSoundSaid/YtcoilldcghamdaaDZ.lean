/- The stack of devices that numbers tell: what it is. No conditions but those of each theorem. -/
import Derived.Test.YtcoilldcghamdaaDX
import Derived.Test.YtcoilldcghamdaaDY
import Derived.Test.YtcoilldcghamdaaDV
namespace Go.Proofs.Ytcoilldcghamdaa
open Go.RowKit
open OldD (Dk Un Wr Sc hs hd chk3 chk4 rdV wrE wrK flK reK up upto pFail pFlush ge)
set_option linter.unusedVariables false
set_option linter.unnecessarySimpa false
set_option linter.unusedSimpArgs false
structure Sk where
  p : Nat
  A : List Int
  L : List Spn
  X : List Int
def skD (z : List Int) (m p : Nat) : Int := nV z m p 3
def skB (z : List Int) (m : Nat) (s : Sk) : Int := s.A.getD (skD z m s.p).toNat default + nV z m (nA m s.p 3) 2
def skC (z : List Int) (m p : Nat) : Int := 1 + nV z m (nA m (nA m p 3) 2) (3 - 1 + 1)
def skP (m p : Nat) : Nat := nA m (nA m (nA m p 3) 2) (3 - 1 + 1)
def imD (I3 : List (List Int)) (d : Int) : List Int := I3.getD d.toNat []
def segL (I3 : List (List Int)) (d b c : Int) : List Int := ((imD I3 d).drop b.toNat).take c.toNat
def skStep (z : List Int) (m : Nat) (I3 : List (List Int)) (s : Sk) : Sk :=
  if skB z m s + skC z m s.p > ((imD I3 (skD z m s.p)).length : Int) then { s with p := skP m s.p }
  else ⟨skP m s.p, s.A.set (skD z m s.p).toNat (skB z m s + skC z m s.p), s.L ++ [⟨skD z m s.p, skB z m s, skC z m s.p⟩], s.X ++ segL I3 (skD z m s.p) (skB z m s) (skC z m s.p)⟩
def skRun (z : List Int) (m : Nat) (I3 : List (List Int)) : Nat → Sk → Sk
  | 0, s => s
  | i + 1, s => skRun z m I3 i (skStep z m I3 s)
structure SkI (m : Nat) (I3 : List (List Int)) (i : Nat) (s : Sk) : Prop where
  p : s.p ≤ m
  A : s.A.length = 3 ∧ ∀ d, d < 3 → 0 ≤ s.A.getD d default ∧ s.A.getD d default ≤ (I3.getD d []).length
  l : s.L.length + i ≤ 4
  sp : ∀ j, j < s.L.length → (0 ≤ (s.L.getD j default).d ∧ (s.L.getD j default).d ≤ 2) ∧ (1 ≤ (s.L.getD j default).n ∧ (s.L.getD j default).n ≤ 3) ∧ 0 ≤ (s.L.getD j default).s ∧ (s.L.getD j default).s + (s.L.getD j default).n ≤ s.A.getD (s.L.getD j default).d.toNat default
  o : ∀ a b, a < b → b < s.L.length → (s.L.getD a default).d = (s.L.getD b default).d → (s.L.getD a default).s + (s.L.getD a default).n ≤ (s.L.getD b default).s
  x : (s.X.length : Int) = upS s.L s.L.length
  v : ∀ j, j < s.L.length → ∀ t : Nat, (t : Int) < (s.L.getD j default).n → ge s.X ((upS s.L j).toNat + t) = ge (imD I3 (s.L.getD j default).d) ((s.L.getD j default).s.toNat + t)
theorem getD_app (L : List Spn) (x : Spn) (j : Nat) : (L ++ [x]).getD j default = if j < L.length then L.getD j default else if j = L.length then x else default := by
  simp only [List.getD_eq_getElem?_getD]
  by_cases h : j < L.length
  · rw [if_pos h, List.getElem?_append_left h]
  · rw [if_neg h, List.getElem?_append_right (by omega)]
    by_cases e : j = L.length
    · rw [if_pos e, e]; simp
    · rw [if_neg e, List.getElem?_eq_none (by simp; omega)]; rfl
theorem upS_app (L : List Spn) (x : Spn) : ∀ j, j ≤ L.length → upS (L ++ [x]) j = upS L j
  | 0, _ => rfl
  | j + 1, h => by
    simp only [upS]
    rw [upS_app L x j (by omega), getD_app, if_pos (by omega)]
theorem ge_app (X Y : List Int) (t : Nat) : ge (X ++ Y) t = if t < X.length then ge X t else ge Y (t - X.length) := by
  unfold ge
  by_cases h : t < X.length
  · rw [if_pos h, List.getElem?_append_left h]
  · rw [if_neg h, List.getElem?_append_right (by omega)]
theorem ge_seg (X : List Int) (b c t : Nat) (h : t < c) : ge ((X.drop b).take c) t = ge X (b + t) := by
  unfold ge
  rw [List.getElem?_take_of_lt h, List.getElem?_drop]
theorem SkI.step {z : List Int} {m : Nat} {I3 : List (List Int)} {i : Nat} {s : Sk} (h : SkI m I3 (i + 1) s) : SkI m I3 i (skStep z m I3 s) := by
  have hd := nV_bd z m s.p 3 (by omega)
  have hb := nV_bd z m (nA m s.p 3) 2 (by omega)
  have hc := nV_bd z m (nA m (nA m s.p 3) 2) (3 - 1 + 1) (by omega)
  have p1 := nA_bd m s.p 3 h.p
  have p2 := nA_bd m (nA m s.p 3) 2 p1.2
  have p3 := nA_bd m (nA m (nA m s.p 3) 2) (3 - 1 + 1) p2.2
  have hl := h.l
  unfold skStep
  split
  · exact { h with p := p3.2, l := (by show s.L.length + i ≤ 4; omega) }
  · rename_i hn
    have hd : 0 ≤ skD z m s.p ∧ skD z m s.p < 3 := hd
    have hc : 1 ≤ skC z m s.p ∧ skC z m s.p ≤ 3 := by unfold skC; omega
    have hA := h.A.2 (skD z m s.p).toNat (by omega)
    have hB : s.A.getD (skD z m s.p).toNat default ≤ skB z m s := by unfold skB; omega
    have hp3 : skP m s.p ≤ m := p3.2
    generalize skD z m s.p = d at *
    generalize skB z m s = b at *
    generalize skC z m s.p = c at *
    generalize skP m s.p = q at *
    have hset : ∀ e : Nat, e < 3 → (s.A.set d.toNat (b + c)).getD e default = if e = d.toNat then b + c else s.A.getD e default := fun e he => by
      simp only [List.getD_eq_getElem?_getD, List.getElem?_set]
      by_cases c : d.toNat = e
      · subst c; rw [if_pos rfl, if_pos (by rw [h.A.1]; exact he), if_pos rfl]; rfl
      · rw [if_neg c, if_neg (fun h => c h.symm)]
    have hsl : (segL I3 d b c).length = c.toNat := by
      unfold segL
      rw [List.length_take, List.length_drop]
      omega
    have hAd : ∀ j, j < s.L.length → s.A.getD (s.L.getD j default).d.toNat default ≤ (s.A.set d.toNat (b + c)).getD (s.L.getD j default).d.toNat default := fun j hj => by
      have := (h.sp j hj).1
      rw [hset _ (by omega)]
      split
      · rename_i e; rw [e]; omega
      · exact Int.le_refl _
    refine ⟨hp3, ⟨by rw [List.length_set]; exact h.A.1, fun e he => ?_⟩, by simp; omega, fun j hj => ?_, fun j k hjk hk => ?_, ?_, fun j hj t ht => ?_⟩
    · dsimp only
      rw [hset e he]
      split
      · rename_i ee
        rw [ee]
        have : (imD I3 d) = I3.getD d.toNat [] := rfl
        rw [this] at hn
        omega
      · exact h.A.2 e he
    · dsimp only at hj ⊢
      rw [getD_app]
      rw [List.length_append, List.length_singleton] at hj
      by_cases c1 : j < s.L.length
      · rw [if_pos c1]
        have := h.sp j c1
        have := hAd j c1
        omega
      · rw [if_neg c1, if_pos (show j = s.L.length by omega)]
        dsimp only
        rw [hset _ (by omega), if_pos rfl]
        omega
    · dsimp only at hk ⊢
      rw [List.length_append, List.length_singleton] at hk
      rw [getD_app, getD_app, if_pos (show j < s.L.length by omega)]
      by_cases c1 : k < s.L.length
      · rw [if_pos c1]; exact h.o j k hjk c1
      · rw [if_neg c1, if_pos (show k = s.L.length by omega)]
        dsimp only
        intro e
        have h1 := h.sp j (by omega)
        rw [e] at h1
        omega
    · dsimp only
      rw [List.length_append, List.length_append, hsl, List.length_singleton, upS, upS_app _ _ _ (Nat.le_refl _), getD_app, if_neg (by omega), if_pos rfl]
      dsimp only
      have := h.x
      omega
    · dsimp only at hj ht ⊢
      rw [getD_app] at ht ⊢
      rw [List.length_append, List.length_singleton] at hj
      have hx := h.x
      have mono : ∀ j, j ≤ s.L.length → 0 ≤ upS s.L j := by
        intro j
        induction j with
        | zero => intro _; simp [upS]
        | succ j ih =>
          intro hj
          have := ih (by omega)
          have := (h.sp j (by omega)).2.1
          simp only [upS]; omega
      by_cases c1 : j < s.L.length
      · rw [if_pos c1] at ht ⊢
        rw [upS_app _ _ _ (by omega), ge_app, if_pos]
        · exact h.v j c1 t ht
        · have key : ∀ k, j + 1 + k ≤ s.L.length → upS s.L (j + 1) ≤ upS s.L (j + 1 + k) := by
            intro k
            induction k with
            | zero => intro _; exact Int.le_refl _
            | succ k ih =>
              intro hk
              have := ih (by omega)
              have := (h.sp (j + 1 + k) (by omega)).2.1
              have e5 : upS s.L (j + 1 + (k + 1)) = upS s.L (j + 1 + k) + (s.L.getD (j + 1 + k) default).n := rfl
              omega
          have := key (s.L.length - (j + 1)) (by omega)
          rw [show j + 1 + (s.L.length - (j + 1)) = s.L.length by omega, upS] at this
          have := mono j (by omega)
          omega
      · have e : j = s.L.length := by omega
        subst e
        rw [if_neg c1, if_pos rfl] at ht ⊢
        dsimp only at ht ⊢
        have := mono s.L.length (Nat.le_refl _)
        rw [upS_app _ _ _ (Nat.le_refl _), ge_app, if_neg (by omega)]
        unfold segL
        rw [show (upS s.L s.L.length).toNat + t - s.X.length = t by omega, ge_seg _ _ _ _ (by omega)]
theorem SkI.run {z : List Int} {m : Nat} {I3 : List (List Int)} : ∀ (i : Nat) (s : Sk), SkI m I3 i s → SkI m I3 0 (skRun z m I3 i s)
  | 0, _, h => h
  | i + 1, s, h => SkI.run i _ h.step
theorem SkI.xlen {m : Nat} {I3 : List (List Int)} {s : Sk} {i : Nat} (h : SkI m I3 i s) : upS s.L s.L.length ≤ 12 ∧ s.X.length ≤ 12 := by
  have hl := h.l
  have key : ∀ j, j ≤ s.L.length → upS s.L j ≤ 3 * j := by
    intro j
    induction j with
    | zero => intro _; simp [upS]
    | succ j ih =>
      intro hj
      have := ih (by omega)
      have := (h.sp j (by omega)).2.1
      simp only [upS]; omega
  have := key s.L.length (Nat.le_refl _)
  have := h.x
  omega
theorem SkI.spl {m : Nat} {I3 : List (List Int)} {s : Sk} {i : Nat} (h : SkI m I3 i s) (h3 : I3.length = 3) (hb : ∀ d, d < 3 → (I3.getD d []).length ≤ 1000) : SpL s.L 3 (szL I3) := by
  have hl := h.l
  have key : ∀ j, j < s.L.length → s.A.getD (s.L.getD j default).d.toNat default ≤ (I3.getD (s.L.getD j default).d.toNat []).length ∧ (I3.getD (s.L.getD j default).d.toNat []).length ≤ 1000 := fun j hj => by
    have := (h.sp j hj).1
    exact ⟨(h.A.2 _ (by omega)).2, hb _ (by omega)⟩
  refine ⟨⟨by omega, fun j hj => ?_⟩, fun j hj => ?_, h.o⟩
  · have := h.sp j hj; have := key j hj; omega
  · have := h.sp j hj
    have := key j hj
    unfold szL
    omega
/-- the track at the start knows what the disks hold -/
theorem SkI.rn {m : Nat} {I3 : List (List Int)} {s : Sk} {i : Nat} (h : SkI m I3 i s) (h3 : I3.length = 3) (hb : ∀ d, d < 3 → (I3.getD d []).length ≤ 1000) (lo : Nat) (N : Nat) (hw : ((lo : Nat) : Int) + N ≤ upS s.L s.L.length) :
    Rn (dkN I3) 3 (szL I3) N (plW s.L lo) (tr0 ((s.X.drop lo).take N)) 0 := by
  have sp := h.spl h3 hb
  obtain ⟨g, hv⟩ := dkN_gk I3
  rw [h3] at g
  obtain ⟨_, a2, _, _, a5, _⟩ := dkN_all I3
  have key : ∀ j, j < N → ge ((s.X.drop lo).take N) j = ge (I3.getD (plW s.L lo j).1 []) (plW s.L lo j).2 := fun j hj => by
    obtain ⟨p, b1, b2, b3, b4⟩ := plW_at sp lo N ⟨by omega, hw⟩ j hj
    have hp := p.lo
    have hi := p.hi
    have hub := upS_bd sp.b (kW s.L lo j) (by have := p.lt; omega)
    rw [ge_seg _ _ _ _ hj]
    have := h.v _ p.lt (((lo : Int) + j - upS s.L (kW s.L lo j)).toNat) (by omega)
    rw [show (upS s.L (kW s.L lo j)).toNat + ((lo : Int) + j - upS s.L (kW s.L lo j)).toNat = lo + j by omega] at this
    rw [this]
    have hs := (h.sp _ p.lt).2.2.1
    unfold imD
    rw [show (s.L.getD (kW s.L lo j) default).d.toNat = (plW s.L lo j).1 by rfl]
    rw [show (s.L.getD (kW s.L lo j) default).s.toNat + ((lo : Int) + j - upS s.L (kW s.L lo j)).toNat = (plW s.L lo j).2 by omega]
  refine ⟨⟨g, fun j hj => ?_, fun j hj w hw => (by rw [a2] at hw; cases hw), fun j hj => (by simp [tr0])⟩, a5, fun j hj => ⟨rfl, ?_⟩⟩
  · obtain ⟨_, _, _, b3, _⟩ := plW_at sp lo N ⟨by omega, hw⟩ j hj
    rw [(hv _ _ (by omega)).2]
    simp only [tr0, List.mem_singleton]
    exact (key j hj).symm
  · obtain ⟨_, _, _, b3, _⟩ := plW_at sp lo N ⟨by omega, hw⟩ j hj
    rw [(hv _ _ (by omega)).1]
    exact key j hj
end Go.Proofs.Ytcoilldcghamdaa
