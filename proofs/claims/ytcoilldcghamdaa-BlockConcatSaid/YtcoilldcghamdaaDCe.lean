/- BlockConcat: what the array holds from step to step: pure facts. No conditions but those of each theorem. -/
import Derived.Test.YtcoilldcghamdaaDCd
namespace Go.Proofs.Ytcoilldcghamdaa
open Go.RowKit
open OldD (Dk Un Wr Sc gu gf ge gu_set hs hd hs_iff chk3 chk4 rdV wrE wrK flK reK wrote stF stU rs1 rs2 rs1_keep rs2_keep stU_keep)
set_option linter.unusedVariables false
set_option linter.unnecessarySimpa false
set_option linter.unusedSimpArgs false
/-- behind the first i sectors: x where written, else what was loaded -/
structure Jn (LL : List (List Int)) (xr : Int → Int) (i : Nat) (k : Dk) : Prop where
  g : Gk k LL.length (szL LL) i
  dn : k.down = false
  fz : k.fuse = 0
  du : ∀ d t, d < LL.length → t < szL LL d → du k d t = ge (LL.getD d []) t
  nw : ∀ d t, d < LL.length → t < szL LL d → nw k d t = if offs LL d + t < i then xr (ge (LL.getD d []) t) else ge (LL.getD d []) t
theorem Jn.zero (LL : List (List Int)) (xr : Int → Int) : Jn LL xr 0 (dkN LL) := by
  obtain ⟨g, h⟩ := dkN_gk LL
  obtain ⟨a1, a2, a3, a4, a5, a6, a7⟩ := dkN_all LL
  exact ⟨g, a5, a4, fun d t hd ht => (h d t hd).2, fun d t hd ht => by rw [if_neg (by omega)]; exact (h d t hd).1⟩
theorem offs_inj (LL : List (List Int)) {d t e u : Nat} (hd : d < LL.length) (ht : t < szL LL d) (he : e < LL.length) (hu : u < szL LL e) (h : offs LL d + t = offs LL e + u) : d = e ∧ t = u := by
  rcases Nat.lt_trichotomy d e with c | c | c
  · have := offs_mono LL d e c (by omega); omega
  · subst c; exact ⟨rfl, by omega⟩
  · have := offs_mono LL e d c (by omega); omega
theorem Jn.step {LL : List (List Int)} {xr : Int → Int} {i : Nat} {k : Dk} (h : Jn LL xr i k) {d t : Nat} (hd : d < LL.length) (ht : t < szL LL d) (hi : offs LL d + t = i) :
    rdV k (d : Int) (t : Int) = ge (LL.getD d []) t ∧ chk4 k (d : Int) (t : Int) = 0 ∧ wrE k (d : Int) (t : Int) = 0 ∧ Jn LL xr (i + 1) (wrK k (d : Int) (t : Int) (xr (ge (LL.getD d []) t))) := by
  have hf : k.fuse ≠ 1 := by rw [h.fz]; omega
  obtain ⟨w1, w2, w3, w4, w5, w6⟩ := h.g.wr_ok h.dn hf hd ht (xr (ge (LL.getD d []) t))
  refine ⟨?_, (h.g.chk h.dn hd ht).2, w1, w2, w3, ?_, fun e u he hu => by rw [w6]; exact h.du e u he hu, fun e u he hu => ?_⟩
  · rw [h.g.rd h.dn hd ht, h.nw d t hd ht, if_neg (by omega)]
  · have hc := (h.g.chk h.dn hd ht).1
    unfold wrK
    rw [if_pos hc, if_neg hf]
    simp only [wrote]
    rw [if_neg (by rw [h.fz]; omega)]
    exact h.fz
  · rw [w5, h.nw e u he hu]
    by_cases c : e = d ∧ u = t
    · obtain ⟨rfl, rfl⟩ := c
      rw [if_pos ⟨rfl, rfl⟩, if_pos (by omega)]
    · rw [if_neg c]
      have : offs LL e + u ≠ i := fun q => c (offs_inj LL he hu hd ht (by omega))
      by_cases c2 : offs LL e + u < i
      · rw [if_pos c2, if_pos (by omega)]
      · rw [if_neg c2, if_neg (by omega)]
/-- disks that are told as missing -/
structure Mn (LL : List (List Int)) (bit : Nat → Bool) (k2 : Dk) (i : Nat) (k : Dk) : Prop where
  ul : k.U.length = LL.length
  eq : ∀ d, (gu k.U d).now = (gu k2.U d).now ∧ (gu k.U d).dur = (gu k2.U d).dur
  ms : ∀ d, d < LL.length → (gu k.U d).mis = (decide (d < i) && bit d)
  F : k.F = k2.F
  dn : k.down = false
theorem Mn.zero {LL : List (List Int)} {xr : Int → Int} {N : Nat} {k : Dk} (h : Jn LL xr N k) (bit : Nat → Bool) : Mn LL bit k 0 k :=
  ⟨h.g.ul, fun d => ⟨rfl, rfl⟩, fun d hd => by rw [h.g.ms d hd]; simp, rfl, h.dn⟩
theorem Mn.set {LL : List (List Int)} {bit : Nat → Bool} {k2 k : Dk} {i : Nat} (h : Mn LL bit k2 i k) (hi : i < LL.length) (hb : bit i = true) : Mn LL bit k2 (i + 1) { k with U := k.U.set i { gu k.U i with mis := true } } := by
  refine ⟨by simp [h.ul], fun d => ?_, fun d hd => ?_, h.F, h.dn⟩
  · show (gu (k.U.set i _) d).now = _ ∧ (gu (k.U.set i _) d).dur = _
    rw [gu_set]
    by_cases e : d = i ∧ i < k.U.length
    · rw [if_pos e, e.1]; exact h.eq i
    · rw [if_neg e]; exact h.eq d
  · show (gu (k.U.set i _) d).mis = _
    rw [gu_set]
    by_cases e : d = i
    · subst e
      rw [if_pos ⟨rfl, by rw [h.ul]; exact hi⟩, hb]
      simp
    · rw [if_neg (fun c => e c.1), h.ms d hd]
      congr 1
      exact decide_eq_decide.2 (by omega)
theorem Mn.skip {LL : List (List Int)} {bit : Nat → Bool} {k2 k : Dk} {i : Nat} (h : Mn LL bit k2 i k) (hb : bit i = false) : Mn LL bit k2 (i + 1) k := by
  refine ⟨h.ul, h.eq, fun d hd => ?_, h.F, h.dn⟩
  rw [h.ms d hd]
  by_cases e : d = i
  · subst e; rw [hb]; simp
  · congr 1
    exact decide_eq_decide.2 (by omega)
/-- the answer of a flush that some disks miss -/
def wantV (bit : Nat → Bool) : Nat → Int
  | 0 => 0
  | i + 1 => if bit i = true then 6 else wantV bit i
theorem wantV_or (bit : Nat → Bool) : ∀ i, wantV bit i = 0 ∨ wantV bit i = 6
  | 0 => .inl rfl
  | i + 1 => by
    unfold wantV
    split
    · exact .inr rfl
    · exact wantV_or bit i
/-- behind the flush of the first i disks -/
structure Fn (LL : List (List Int)) (bit : Nat → Bool) (k2 : Dk) (i : Nat) (k : Dk) : Prop where
  ul : k.U.length = LL.length
  nw : ∀ d, (gu k.U d).now = (gu k2.U d).now
  dl : ∀ d, (gu k.U d).dur.length = (gu k2.U d).dur.length
  du : ∀ d, bit d = true → (gu k.U d).dur = (gu k2.U d).dur
  ms : ∀ d, d < LL.length → (gu k.U d).mis = bit d
  F1 : ∀ w ∈ k.F, w ∈ k2.F ∧ ¬ (w.d < i ∧ bit w.d = false)
  F2 : ∀ w ∈ k2.F, bit w.d = true → w ∈ k.F
  dn : k.down = false
theorem Mn.fn {LL : List (List Int)} {bit : Nat → Bool} {k2 k : Dk} (h : Mn LL bit k2 LL.length k) : Fn LL bit k2 0 k :=
  ⟨h.ul, fun d => (h.eq d).1, fun d => by rw [(h.eq d).2], fun d _ => (h.eq d).2, fun d hd => by rw [h.ms d hd]; simp [hd], fun w hw => ⟨by rw [← h.F]; exact hw, by omega⟩, fun w hw _ => by rw [h.F]; exact hw, h.dn⟩
theorem stU_other (d e : Nat) (b : Bool) (hne : e ≠ d) : ∀ (F : List Wr) (V : List Un), gu (stU d b V F) e = gu V e
  | [], V => rfl
  | w :: F, V => by
    show gu (stU d b (if w.d = d ∧ b = true then V.set d { gu V d with dur := (gu V d).dur.set w.at' w.v } else V) F) e = _
    rw [stU_other d e b hne F]
    split
    · rw [gu_set, if_neg (fun c => hne c.1)]
    · rfl
theorem Fn.step {LL : List (List Int)} {bit : Nat → Bool} {k2 k : Dk} {i : Nat} (h : Fn LL bit k2 i k) (hi : i < LL.length) (h0 : 0 < (gu k2.U i).now.length) :
    chk3 k (i : Int) 0 = (if bit i = true then 6 else 0) ∧ Fn LL bit k2 (i + 1) (flK k (i : Int)) := by
  have hh : hs k (i : Int) 0 = true := hs_iff.2 ⟨i, 0, rfl, rfl, by rw [h.ul]; exact hi, by rw [h.nw]; exact h0⟩
  have hc : chk3 k (i : Int) 0 = (if bit i = true then 6 else 0) := by
    unfold chk3
    rw [h.dn, hh, if_neg (by simp), if_neg (by simp), Int.toNat_natCast, h.ms i hi]
  refine ⟨hc, ?_⟩
  by_cases hb : bit i = true
  · have e : flK k (i : Int) = k := by unfold flK; rw [hc, if_pos hb, if_neg (by omega)]
    rw [e]
    refine ⟨h.ul, h.nw, h.dl, h.du, h.ms, fun w hw => ⟨(h.F1 w hw).1, fun c => (h.F1 w hw).2 ⟨?_, c.2⟩⟩, h.F2, h.dn⟩
    by_cases q : w.d = i
    · rw [q, hb] at c; cases c.2
    · omega
  · have e : flK k (i : Int) = { k with U := stU i true k.U k.F, F := stF k.F i } := by unfold flK; rw [hc, if_neg hb, if_pos rfl]; rfl
    rw [e]
    obtain ⟨s1, s2⟩ := stU_keep i true k.U k.F
    have hbf : bit i = false := by simpa using hb
    refine ⟨s1.trans h.ul, fun d => (s2 d).1.trans (h.nw d), fun d => (stU_len i k.F k.U d).trans (h.dl d), fun d hd => ?_, fun d hd => (s2 d).2.trans (h.ms d hd), fun w hw => ?_, fun w hw hwb => ?_, h.dn⟩
    · have : d ≠ i := fun c => by rw [c, hbf] at hd; cases hd
      show (gu (stU i true k.U k.F) d).dur = _
      rw [stU_other i d true this]
      exact h.du d hd
    · obtain ⟨w1, w2⟩ := List.mem_filter.1 hw
      have w2 : w.d ≠ i := by simpa using w2
      exact ⟨(h.F1 w w1).1, fun c => (h.F1 w w1).2 ⟨by omega, c.2⟩⟩
    · refine List.mem_filter.2 ⟨h.F2 w hw hwb, ?_⟩
      simpa using fun c : w.d = i => by rw [c, hbf] at hwb; cases hwb
theorem flush_all {LL : List (List Int)} (hL : LB LL) {bit : Nat → Bool} {k2 k : Dk} (h : Fn LL bit k2 0 k) (hz : ∀ d, d < LL.length → (gu k2.U d).now.length = szL LL d) :
    ∀ i, i ≤ LL.length → feL k (spA LL) i = wantV bit i ∧ Fn LL bit k2 i (flL k (spA LL) i)
  | 0, _ => ⟨rfl, h⟩
  | i + 1, hi => by
    obtain ⟨a1, a2⟩ := flush_all hL h hz i (by omega)
    have hsz := hL.2 i (by omega)
    obtain ⟨b1, b2⟩ := a2.step (i := i) (by omega) (by rw [hz i (by omega)]; omega)
    simp only [feL, flL, wantV, spA_at LL i (by omega)]
    refine ⟨?_, b2⟩
    rw [a1, b1]
    rcases wantV_or bit i with e | e
    · rw [e, if_pos rfl]
    · rw [e, if_neg (by omega)]
      split <;> rfl
theorem rs1_none (F : List Wr) (U : List Un) : ∀ j, rs1 F (fun _ => false) U j = U
  | 0 => rfl
  | j + 1 => by
    unfold rs1
    rw [if_neg (by simp)]
    exact rs1_none F U j
theorem back_all {LL : List (List Int)} {xr : Int → Int} {bit : Nat → Bool} {k2 k : Dk} (hJ : Jn LL xr LL.flatten.length k2) (h : Fn LL bit k2 LL.length k) :
    (reK k (fun _ => false)).U.length = LL.length ∧ ∀ d, d < LL.length → (gu (reK k (fun _ => false)).U d).now.length = szL LL d ∧ ∀ t, t < szL LL d → ge (gu (reK k (fun _ => false)).U d).now t = if bit d = true then ge (LL.getD d []) t else xr (ge (LL.getD d []) t) := by
  have e : (reK k (fun _ => false)).U = rs2 k.F k.U k.F.length := by show rs2 k.F (rs1 k.F _ k.U k.F.length) k.F.length = _; rw [rs1_none]
  obtain ⟨r1, r2⟩ := rs2_keep k.F k.U k.F.length
  rw [e]
  refine ⟨r1.trans h.ul, fun d hd => ⟨(r2 d).2.2.trans ?_, fun t ht => ?_⟩⟩
  · rw [h.nw]; exact (hJ.g.ln d hd).1
  · have hln := hJ.g.ln d hd
    rw [rs2_at2 k.F k.U (fun x hx => by rw [h.dl, h.nw, (hJ.g.ln x (by rw [← h.ul]; exact hx)).1, (hJ.g.ln x (by rw [← h.ul]; exact hx)).2]) d t (by rw [h.ul]; exact hd) (by rw [h.nw, hln.1]; exact ht) k.F.length (Nat.le_refl _)]
    have hnw : ge (gu k.U d).now t = xr (ge (LL.getD d []) t) := by
      rw [h.nw]
      have := hJ.nw d t hd ht
      have hm := offs_mono LL d LL.length hd (Nat.le_refl _)
      rw [offs_all] at hm
      rw [if_pos (by omega)] at this
      exact this
    by_cases hb : bit d = true
    · rw [if_pos hb]
      have hdu : ge (gu k.U d).dur t = ge (LL.getD d []) t := by rw [h.du d hb]; exact hJ.du d t hd ht
      by_cases c : ∃ w ∈ k.F.take k.F.length, w.d = d ∧ w.at' = t
      · rw [if_pos c]; exact hdu
      · rw [if_neg c, hnw]
        have hap := hJ.g.ap d t hd ht
        rw [lastW_none k2.F d t _ (fun w hw q => c ⟨w, by rw [List.take_length]; exact h.F2 w hw (by rw [q.1]; exact hb), q⟩)] at hap
        have e1 := hJ.nw d t hd ht
        have hm := offs_mono LL d LL.length hd (Nat.le_refl _)
        rw [offs_all] at hm
        rw [if_pos (by omega)] at e1
        rw [← e1, hap]
        exact hJ.du d t hd ht
    · rw [if_neg hb, if_neg ?_]
      · exact hnw
      · rintro ⟨w, hw, q1, q2⟩
        rw [List.take_length] at hw
        exact (h.F1 w hw).2 ⟨by rw [q1]; exact hd, by rw [q1]; simpa using hb⟩
end Go.Proofs.Ytcoilldcghamdaa
