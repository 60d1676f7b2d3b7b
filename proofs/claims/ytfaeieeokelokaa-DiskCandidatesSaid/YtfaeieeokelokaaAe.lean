/- What the track knows of the sectors: the invariant of the walk of DiskCandidates. No conditions but those of each theorem. -/
import Derived.Test.YtfaeieeokelokaaAd
namespace Go.Proofs.Ytfaeieeokelokaa
open Go.ChangeShapes Go.WideShapes Go.ChangeAt Go.RowKit
set_option linter.unusedVariables false
set_option linter.unusedSimpArgs false
/-- one disk of five sectors: what is durable, and what was written since, is among the candidates -/
structure Wk (k : Dk) (f : Nat → Sc) (n : Nat) : Prop where
  ul : k.U.length = 1
  l0 : (gu k.U 0).now.length = 5
  d0 : (gu k.U 0).dur.length = 5
  m0 : (gu k.U 0).mis = false
  bd : ∀ x y, k.bad x y = false
  fz : 0 ≤ k.fuse ∧ k.fuse ≤ 5
  F0 : ∀ w ∈ k.F, w.d = 0
  fl : k.F.length ≤ n
  wr : 0 ≤ k.wr ∧ k.wr ≤ n
  ap : (gu k.U 0).now = ap k.F (gu k.U 0).dur
  sl : ∀ j, j < 5 → (f j).S.length ≤ n + 1
  dS : ∀ j, j < 5 → ge (gu k.U 0).dur j ∈ (f j).S
  FS : ∀ w ∈ k.F, w.v ∈ (f w.at').S ∧ w.at' < 5
structure Fl (k : Dk) (f : Nat → Sc) (n : Nat) : Prop where
  wk : Wk k f n
  down : k.down = false
  kn : ∀ j, j < 5 → (f j).kn = true ∧ (f j).v = ge (gu k.U 0).now j
theorem Wk.bnd {k : Dk} {f : Nat → Sc} {n : Nat} (h : Wk k f n) (hn : n ≤ 100) : Bnd k (2 ^ 32) := ⟨h.fz.1, by have := h.fz.2; omega, by have := h.fl; omega, h.wr.1, by have := h.wr.2; omega⟩
theorem hs5 {k : Dk} {d t : Nat} (h1 : d < k.U.length) (h2 : t < (gu k.U d).now.length) : hs k (d : Int) (t : Int) = true := hs_iff.2 ⟨d, t, rfl, rfl, h1, h2⟩
theorem Wk.chk {k : Dk} {f : Nat → Sc} {n : Nat} (h : Wk k f n) (hd : k.down = false) {t : Nat} (ht : t < 5) : chk3 k ((0 : Nat) : Int) (t : Int) = 0 ∧ chk4 k ((0 : Nat) : Int) (t : Int) = 0 := by
  have h1 : hs k ((0 : Nat) : Int) (t : Int) = true := hs5 (by rw [h.ul]; omega) (by rw [h.l0]; exact ht)
  have h2 : (gu k.U (((0 : Nat) : Int)).toNat).mis = false := h.m0
  unfold chk3 chk4
  rw [hd, h1, h2, h.bd]
  exact ⟨rfl, rfl⟩
theorem Wk.rd {k : Dk} {f : Nat → Sc} {n : Nat} (h : Wk k f n) (hd : k.down = false) {t : Nat} (ht : t < 5) : rdV k ((0 : Nat) : Int) (t : Int) = ge (gu k.U 0).now t := by
  unfold rdV
  rw [if_pos (h.chk hd ht).2]
  rfl
/-- what a write adds to the candidates -/
def wrS (f : Nat → Sc) (t : Nat) (v : Int) (d : Bool) : Nat → Sc := up f t ⟨(f t).S ++ [v], d, v⟩
theorem wrS_at (f : Nat → Sc) (t : Nat) (v : Int) (d : Bool) (j : Nat) : (wrS f t v d j).S = (f j).S ∨ (wrS f t v d j).S = (f j).S ++ [v] := by
  unfold wrS
  by_cases e : j = t
  · subst e; rw [up_eq]; exact .inr rfl
  · rw [up_ne _ e]; exact .inl rfl
theorem wrS_mem (f : Nat → Sc) (t : Nat) (v : Int) (d : Bool) (j : Nat) {x : Int} (h : x ∈ (f j).S) : x ∈ (wrS f t v d j).S := by
  rcases wrS_at f t v d j with e | e
  · rw [e]; exact h
  · rw [e]; exact List.mem_append_left _ h
theorem wrS_len (f : Nat → Sc) (t : Nat) (v : Int) (d : Bool) (j : Nat) : (wrS f t v d j).S.length ≤ (f j).S.length + 1 := by
  rcases wrS_at f t v d j with e | e
  · rw [e]; omega
  · rw [e]; simp
/-- a write while the fuse burns down -/
theorem Fl.wr_ok {k : Dk} {f : Nat → Sc} {n : Nat} (h : Fl k f n) {t : Nat} (ht : t < 5) (v : Int) (hf : k.fuse ≠ 1) :
    wrE k ((0 : Nat) : Int) (t : Int) = 0 ∧ Fl (wrK k ((0 : Nat) : Int) (t : Int) v) (wrS f t v true) (n + 1) := by
  have hc := (h.wk.chk h.down ht).1
  obtain ⟨z, hz⟩ : ∃ z, z = (if 0 < k.fuse then k.fuse - 1 else k.fuse) := ⟨_, rfl⟩
  have hz2 : 0 ≤ z ∧ z ≤ 5 := by have := h.wk.fz; rw [hz]; split <;> omega
  have e : wrK k ((0 : Nat) : Int) (t : Int) v = wrote { k with fuse := z } 0 t v := by unfold wrK; rw [if_pos hc, if_neg hf, hz]; rfl
  refine ⟨by unfold wrE; rw [if_pos hc, if_neg hf], ?_⟩
  rw [e]
  have e0 : gu (wrote { k with fuse := z } 0 t v).U 0 = { gu k.U 0 with now := (gu k.U 0).now.set t v } := by show gu (k.U.set 0 _) 0 = _; rw [gu_set, if_pos ⟨rfl, by rw [h.wk.ul]; omega⟩]
  exact {
    down := h.down
    kn := fun j hj => by
      rw [e0]
      show _ ∧ _ = ge ((gu k.U 0).now.set t v) j
      rw [ge_set]
      unfold wrS
      by_cases ej : j = t
      · subst ej; rw [up_eq, if_pos ⟨rfl, by rw [h.wk.l0]; exact hj⟩]; exact ⟨rfl, rfl⟩
      · rw [up_ne _ ej, if_neg (fun h => ej h.1.symm)]; exact h.kn j hj
    wk := {
      ul := by show (k.U.set 0 _).length = 1; rw [List.length_set]; exact h.wk.ul
      l0 := by rw [e0]; simpa using h.wk.l0
      d0 := by rw [e0]; exact h.wk.d0
      m0 := by rw [e0]; exact h.wk.m0
      bd := fun x y => by show (if _ then false else k.bad x y) = false; split; rfl; exact h.wk.bd x y
      fz := hz2
      F0 := fun w hw => by
        rcases List.mem_append.1 (show w ∈ k.F ++ [(⟨0, t, v⟩ : Wr)] from hw) with hw | hw
        · exact h.wk.F0 w hw
        · rw [List.mem_singleton.1 hw]
      fl := by show (k.F ++ [_]).length ≤ n + 1; have := h.wk.fl; simp; exact this
      wr := by show 0 ≤ k.wr + 1 ∧ k.wr + 1 ≤ ((n + 1 : Nat) : Int); have := h.wk.wr; omega
      ap := by
        rw [e0]
        show (gu k.U 0).now.set t v = Ytfaeieeokelokaa.ap (k.F ++ [(⟨0, t, v⟩ : Wr)]) (gu k.U 0).dur
        rw [ap_app, ← h.wk.ap]
      sl := fun j hj => by have := h.wk.sl j hj; have := wrS_len f t v true j; omega
      dS := fun j hj => by rw [e0]; exact wrS_mem _ _ _ _ _ (h.wk.dS j hj)
      FS := fun w hw => by
        rcases List.mem_append.1 (show w ∈ k.F ++ [(⟨0, t, v⟩ : Wr)] from hw) with hw | hw
        · exact ⟨wrS_mem _ _ _ _ _ (h.wk.FS w hw).1, (h.wk.FS w hw).2⟩
        · rw [List.mem_singleton.1 hw]
          exact ⟨by unfold wrS; rw [up_eq]; simp, ht⟩ } }
/-- a write that the power fails at -/
theorem Fl.wr_no {k : Dk} {f : Nat → Sc} {n : Nat} (h : Fl k f n) {t : Nat} (ht : t < 5) (v : Int) (hf : k.fuse = 1) :
    wrE k ((0 : Nat) : Int) (t : Int) = 5 ∧ (wrK k ((0 : Nat) : Int) (t : Int) v).down = true ∧ Wk (wrK k ((0 : Nat) : Int) (t : Int) v) (wrS f t v false) (n + 1) := by
  have hc := (h.wk.chk h.down ht).1
  have e : wrK k ((0 : Nat) : Int) (t : Int) v = { k with fuse := 0, down := true } := by unfold wrK; rw [if_pos hc, if_pos hf]
  refine ⟨by unfold wrE; rw [if_pos hc, if_pos hf], by rw [e], ?_⟩
  rw [e]
  exact { h.wk with
    fz := by show (0 : Int) ≤ 0 ∧ (0 : Int) ≤ 5; omega
    fl := by have := h.wk.fl; show k.F.length ≤ n + 1; omega
    wr := by have := h.wk.wr; show 0 ≤ k.wr ∧ k.wr ≤ ((n + 1 : Nat) : Int); omega
    sl := fun j hj => by have := h.wk.sl j hj; have := wrS_len f t v false j; omega
    dS := fun j hj => wrS_mem _ _ _ _ _ (h.wk.dS j hj)
    FS := fun w hw => ⟨wrS_mem _ _ _ _ _ (h.wk.FS w hw).1, (h.wk.FS w hw).2⟩ }
theorem Fl.flushed {k : Dk} {f : Nat → Sc} {n : Nat} (h : Fl k f n) : chk3 k ((0 : Nat) : Int) 0 = 0 ∧ Fl (flK k ((0 : Nat) : Int)) (upto 5 pFlush f) (n + 1) := by
  have hc : chk3 k ((0 : Nat) : Int) 0 = 0 := (h.wk.chk h.down (t := 0) (by omega)).1
  have e : flK k ((0 : Nat) : Int) = { k with U := stU 0 true k.U k.F, F := stF k.F 0 } := by unfold flK; rw [if_pos hc]; rfl
  refine ⟨hc, ?_⟩
  rw [e]
  have hk := stU_keep 0 true k.U k.F
  have hd := stU_ap k.U (by rw [h.wk.ul]; omega) k.F h.wk.F0
  have hF : stF k.F 0 = [] := by
    unfold stF
    rw [List.filter_eq_nil_iff]
    intro w hw
    rw [h.wk.F0 w hw]; simp
  have e1 : (gu (stU 0 true k.U k.F) 0).now = (gu k.U 0).now := (hk.2 0).1
  have e2 : (gu (stU 0 true k.U k.F) 0).dur = (gu k.U 0).now := by rw [hd, ← h.wk.ap]
  have ef : ∀ j, j < 5 → upto 5 pFlush f j = ⟨[(f j).v], (f j).kn, (f j).v⟩ := fun j hj => by
    unfold upto pFlush
    rw [if_pos hj, if_pos (h.kn j hj).1]
  have hF' : ({ k with U := stU 0 true k.U k.F, F := stF k.F 0 } : Dk).F = [] := hF
  exact {
    down := h.down
    kn := fun j hj => by rw [ef j hj]; show _ ∧ _ = ge (gu (stU 0 true k.U k.F) 0).now j; rw [e1]; exact h.kn j hj
    wk := {
      ul := by show (stU 0 true k.U k.F).length = 1; rw [hk.1]; exact h.wk.ul
      l0 := by show (gu (stU 0 true k.U k.F) 0).now.length = 5; rw [e1]; exact h.wk.l0
      d0 := by show (gu (stU 0 true k.U k.F) 0).dur.length = 5; rw [e2]; exact h.wk.l0
      m0 := by show (gu (stU 0 true k.U k.F) 0).mis = false; rw [(hk.2 0).2]; exact h.wk.m0
      bd := h.wk.bd
      fz := h.wk.fz
      F0 := fun w hw => by rw [hF'] at hw; cases hw
      fl := by rw [hF']; simp
      wr := by have := h.wk.wr; show 0 ≤ k.wr ∧ k.wr ≤ ((n + 1 : Nat) : Int); omega
      ap := by
        rw [hF']
        show (gu (stU 0 true k.U k.F) 0).now = (gu (stU 0 true k.U k.F) 0).dur
        rw [e1, e2]
      sl := fun j hj => by rw [ef j hj]; simp
      dS := fun j hj => by rw [ef j hj]; show ge (gu (stU 0 true k.U k.F) 0).dur j ∈ [(f j).v]; rw [e2, (h.kn j hj).2]; simp
      FS := fun w hw => by rw [hF'] at hw; cases hw } }
theorem Fl.fused {k : Dk} {f : Nat → Sc} {n : Nat} (h : Fl k f n) {t : Nat} (ht : t < 5) : Fl { k with fuse := max (1 + (t : Int)) 0 } f (n + 1) :=
  ⟨{ h.wk with
    fz := by show 0 ≤ max (1 + (t : Int)) 0 ∧ max (1 + (t : Int)) 0 ≤ 5; omega
    fl := by have := h.wk.fl; show k.F.length ≤ n + 1; omega
    wr := by have := h.wk.wr; show 0 ≤ k.wr ∧ k.wr ≤ ((n + 1 : Nat) : Int); omega
    sl := fun j hj => by have := h.wk.sl j hj; omega }, h.down, h.kn⟩
theorem Wk.more {k : Dk} {f : Nat → Sc} {n : Nat} (h : Wk k f n) : Wk k f (n + 1) := { h with
    fl := by have := h.fl; omega
    wr := by have := h.wr; omega
    sl := fun j hj => by have := h.sl j hj; omega }
theorem Fl.more {k : Dk} {f : Nat → Sc} {n : Nat} (h : Fl k f n) : Fl k f (n + 1) := ⟨h.wk.more, h.down, h.kn⟩
/-- what is durable behind a restart is among the candidates -/
theorem rs1_in (F : List Wr) (kp : Nat → Bool) (U : List Un) (f : Nat → Sc) (hU : 0 < U.length) (hF : ∀ w ∈ F, w.d = 0) (hd : ∀ j, j < 5 → ge (gu U 0).dur j ∈ (f j).S) (hS : ∀ w ∈ F, w.v ∈ (f w.at').S ∧ w.at' < 5) :
    ∀ m, m ≤ F.length → ∀ j, j < 5 → ge (gu (rs1 F kp U m) 0).dur j ∈ (f j).S ∧ ((∀ w ∈ F, w.at' ≠ j) → ge (gu (rs1 F kp U m) 0).dur j = ge (gu U 0).dur j) := by
  intro m
  induction m with
  | zero => exact fun _ j hj => ⟨hd j hj, fun _ => rfl⟩
  | succ m ih =>
    intro hm j hj
    have hg := gf_mem (F := F) (k := m) hm
    have hd0 : (gf F m).d = 0 := hF _ hg
    have hk1 := rs1_keep F kp U m
    have ih := ih (by omega) j hj
    unfold rs1
    split
    · rw [hd0, gu_set, if_pos ⟨rfl, by rw [hk1.1]; exact hU⟩]
      show ge ((gu (rs1 F kp U m) 0).dur.set _ _) j ∈ _ ∧ (_ → ge ((gu (rs1 F kp U m) 0).dur.set _ _) j = _)
      rw [ge_set]
      split
      · rename_i e
        refine ⟨?_, fun hn => absurd e.1 (hn _ hg)⟩
        have := (hS _ hg).1
        rw [e.1] at this
        exact this
      · exact ih
    · exact ih
/-- the candidates behind a failure, the first i sectors read -/
def rdS (k : Dk) (f : Nat → Sc) (i : Nat) : Nat → Sc := fun j => if j < i then ⟨[ge (gu k.U 0).now j], true, ge (gu k.U 0).now j⟩ else f j
theorem rdS_zero (k : Dk) (f : Nat → Sc) : rdS k f 0 = f := by funext j; unfold rdS; rw [if_neg (by omega)]
theorem rdS_at (k : Dk) (f : Nat → Sc) (i : Nat) : rdS k f i i = f i := if_neg (by omega)
theorem rdS_succ (k : Dk) (f : Nat → Sc) (i : Nat) : up (rdS k f i) i ⟨[ge (gu k.U 0).now i], true, ge (gu k.U 0).now i⟩ = rdS k f (i + 1) := by
  funext a
  unfold up rdS
  by_cases e : a = i
  · subst e; rw [if_pos rfl, if_pos (by omega)]
  · rw [if_neg e]
    by_cases e2 : a < i
    · rw [if_pos e2, if_pos (by omega)]
    · rw [if_neg e2, if_neg (by omega)]
theorem Wk.back {k : Dk} {f : Nat → Sc} {n : Nat} (h : Wk k f n) (kp : Nat → Bool) :
    Wk (reK k kp) (upto 5 pFail f) n ∧ (reK k kp).down = false ∧ (reK k kp).F = [] ∧ (∀ j, j < 5 → ge (gu (reK k kp).U 0).now j ∈ (upto 5 pFail f j).S ∧ (upto 5 pFail f j).kn = false) ∧ Fl (reK k kp) (rdS (reK k kp) (upto 5 pFail f) 5) n := by
  have hU : 0 < k.U.length := by rw [h.ul]; omega
  have hk1 := rs1_keep k.F kp k.U k.F.length
  have hin := rs1_in k.F kp k.U f hU h.F0 h.dS h.FS k.F.length (Nat.le_refl _)
  have hk2 := rs2_keep k.F (rs1 k.F kp k.U k.F.length) k.F.length
  have hl : (gu (rs1 k.F kp k.U k.F.length) 0).dur.length = (gu (rs1 k.F kp k.U k.F.length) 0).now.length := by rw [(hk1.2 0).2.2, (hk1.2 0).1, h.d0, h.l0]
  have hnow : (gu (reK k kp).U 0).now = (gu (rs1 k.F kp k.U k.F.length) 0).dur := by
    show (gu (rs2 k.F (rs1 k.F kp k.U k.F.length) k.F.length) 0).now = _
    refine list_eq (by rw [(hk2.2 0).2.2, hl]) (fun x hx => ?_)
    rw [(hk2.2 0).2.2] at hx
    have hx5 : x < 5 := by rw [(hk1.2 0).1, h.l0] at hx; exact hx
    rw [rs2_at k.F _ (by rw [hk1.1]; exact hU) h.F0 hl x hx k.F.length (Nat.le_refl _), List.take_length]
    by_cases hw : ∃ w ∈ k.F, w.at' = x
    · rw [if_pos hw]
    · have hn : ∀ w ∈ k.F, w.at' ≠ x := fun w hw2 e => hw ⟨w, hw2, e⟩
      rw [if_neg hw, (hin x hx5).2 hn, (hk1.2 0).1, h.ap, ap_at _ _ _ hn]
  have hdur : (gu (reK k kp).U 0).dur = (gu (rs1 k.F kp k.U k.F.length) 0).dur := (hk2.2 0).1
  have hS : ∀ j, j < 5 → (upto 5 pFail f j).S = (f j).S ∧ (upto 5 pFail f j).kn = false := fun j hj => by unfold upto; rw [if_pos hj]; exact ⟨rfl, rfl⟩
  have hcand : ∀ j, j < 5 → ge (gu (reK k kp).U 0).now j ∈ (upto 5 pFail f j).S ∧ (upto 5 pFail f j).kn = false := fun j hj => ⟨by rw [(hS j hj).1, hnow]; exact (hin j hj).1, (hS j hj).2⟩
  have ul : (reK k kp).U.length = 1 := by show (rs2 k.F (rs1 k.F kp k.U k.F.length) k.F.length).length = 1; rw [hk2.1, hk1.1]; exact h.ul
  have l0 : (gu (reK k kp).U 0).now.length = 5 := by rw [hnow, (hk1.2 0).2.2]; exact h.d0
  have d0 : (gu (reK k kp).U 0).dur.length = 5 := by rw [hdur, (hk1.2 0).2.2]; exact h.d0
  have m0 : (gu (reK k kp).U 0).mis = false := by show (gu (rs2 k.F (rs1 k.F kp k.U k.F.length) k.F.length) 0).mis = false; rw [(hk2.2 0).2.1, (hk1.2 0).2.1]; exact h.m0
  have wr : 0 ≤ (reK k kp).wr ∧ (reK k kp).wr ≤ n := h.wr
  have ap0 : (gu (reK k kp).U 0).now = Ytfaeieeokelokaa.ap (reK k kp).F (gu (reK k kp).U 0).dur := by
    show _ = (gu (reK k kp).U 0).dur
    rw [hnow, hdur]
  have e5 : ∀ j, j < 5 → rdS (reK k kp) (upto 5 pFail f) 5 j = ⟨[ge (gu (reK k kp).U 0).now j], true, ge (gu (reK k kp).U 0).now j⟩ := fun j hj => if_pos hj
  exact ⟨{ ul := ul, l0 := l0, d0 := d0, m0 := m0, bd := h.bd, fz := (by show (0 : Int) ≤ 0 ∧ (0 : Int) ≤ 5; omega), F0 := fun w hw => (by cases hw), fl := (by show 0 ≤ n; omega), wr := wr, ap := ap0
           sl := fun j hj => by rw [(hS j hj).1]; exact h.sl j hj
           dS := fun j hj => by rw [hdur, ← hnow]; exact (hcand j hj).1
           FS := fun w hw => (by cases hw) }, rfl, rfl, hcand,
    ⟨{ ul := ul, l0 := l0, d0 := d0, m0 := m0, bd := h.bd, fz := (by show (0 : Int) ≤ 0 ∧ (0 : Int) ≤ 5; omega), F0 := fun w hw => (by cases hw), fl := (by show 0 ≤ n; omega), wr := wr, ap := ap0
       sl := fun j hj => by rw [e5 j hj]; simp
       dS := fun j hj => by rw [e5 j hj, hdur, ← hnow]; simp
       FS := fun w hw => (by cases hw) }, rfl, fun j hj => by rw [e5 j hj]; exact ⟨rfl, rfl⟩⟩⟩
end Go.Proofs.Ytfaeieeokelokaa
