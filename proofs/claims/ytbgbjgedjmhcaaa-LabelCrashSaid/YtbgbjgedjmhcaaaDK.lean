/- Disks that are whole, sector by sector: what calls leave; what is known of a device's sectors. No conditions but those of each theorem. -/
import Derived.Test.YtbgbjgedjmhcaaaOE
import Derived.Test.YtbgbjgedjmhcaaaD2
namespace Go.Proofs.Ytbgbjgedjmhcaaa
open OldD (Dk Un Wr Sc gu gf ge hs hd hd_iff chk3 chk4 rdV wrE wrK flK reK stF stU rs1 rs2 rs1_keep rs2_keep stU_keep wrote up up_eq up_ne upto pFail pFlush gf_mem gu_set ge_set)
set_option linter.unusedVariables false
set_option linter.unusedSimpArgs false
def nw (k : Dk) (d t : Nat) : Int := ge (gu k.U d).now t
def du (k : Dk) (d t : Nat) : Int := ge (gu k.U d).dur t
/-- what the last of the writes to a sector leaves -/
def lastW (F : List Wr) (d t : Nat) (x : Int) : Int := F.foldl (fun x w => if w.d = d ∧ w.at' = t then w.v else x) x
theorem lastW_app (F : List Wr) (w : Wr) (d t : Nat) (x : Int) : lastW (F ++ [w]) d t x = if w.d = d ∧ w.at' = t then w.v else lastW F d t x := by
  unfold lastW; rw [List.foldl_append]; rfl
theorem lastW_cons (F : List Wr) (w : Wr) (d t : Nat) (x : Int) : lastW (w :: F) d t x = lastW F d t (if w.d = d ∧ w.at' = t then w.v else x) := rfl
theorem lastW_none : ∀ (F : List Wr) (d t : Nat) (x : Int), (∀ w ∈ F, ¬ (w.d = d ∧ w.at' = t)) → lastW F d t x = x
  | [], _, _, _, _ => rfl
  | w :: F, d, t, x, h => by
    rw [lastW_cons, if_neg (h w (List.mem_cons_self ..))]
    exact lastW_none F d t x fun w' hw => h w' (List.mem_cons_of_mem _ hw)
theorem lastW_mem : ∀ (F : List Wr) (d t : Nat) (x : Int), lastW F d t x = x ∨ ∃ w ∈ F, w.d = d ∧ w.at' = t ∧ lastW F d t x = w.v
  | [], _, _, _ => .inl rfl
  | w :: F, d, t, x => by
    rw [lastW_cons]
    rcases lastW_mem F d t (if w.d = d ∧ w.at' = t then w.v else x) with h | ⟨w', h1, h2⟩
    · rw [h]
      by_cases e : w.d = d ∧ w.at' = t
      · rw [if_pos e]; exact .inr ⟨w, List.mem_cons_self .., e.1, e.2, rfl⟩
      · rw [if_neg e]; exact .inl rfl
    · exact .inr ⟨w', List.mem_cons_of_mem _ h1, h2⟩
theorem lastW_filter (e : Nat) : ∀ (F : List Wr) (d t : Nat) (x : Int), d ≠ e → lastW (stF F e) d t x = lastW F d t x
  | [], _, _, _, _ => rfl
  | w :: F, d, t, x, h => by
    have ih := lastW_filter e F d t
    unfold stF at ih ⊢
    by_cases hw : w.d = e
    · rw [List.filter_cons_of_neg (by simpa using hw), ih _ h, lastW_cons, if_neg (fun (c : w.d = d ∧ w.at' = t) => h (c.1.symm.trans hw))]
    · rw [List.filter_cons_of_pos (by simpa using hw), lastW_cons, lastW_cons, ih _ h]
/-- an array of n whole disks with these sizes -/
structure Gk (k : Dk) (n : Nat) (sz : Nat → Nat) (c : Nat) : Prop where
  ul : k.U.length = n
  ln : ∀ d, d < n → (gu k.U d).now.length = sz d ∧ (gu k.U d).dur.length = sz d
  ms : ∀ d, d < n → (gu k.U d).mis = false
  bd : ∀ x y, k.bad x y = false
  fz : 0 ≤ k.fuse ∧ k.fuse ≤ 1000000
  FI : ∀ w ∈ k.F, w.d < n ∧ w.at' < sz w.d
  fl : k.F.length ≤ c
  wr : 0 ≤ k.wr ∧ k.wr ≤ c
  ap : ∀ d t, d < n → t < sz d → nw k d t = lastW k.F d t (du k d t)
theorem Gk.mono {k : Dk} {n : Nat} {sz : Nat → Nat} {c c' : Nat} (h : Gk k n sz c) (hc : c ≤ c') : Gk k n sz c' :=
  { h with fl := Nat.le_trans h.fl hc, wr := ⟨h.wr.1, by have := h.wr.2; omega⟩ }
theorem Gk.bdd {k : Dk} {n : Nat} {sz : Nat → Nat} {c : Nat} (h : Gk k n sz c) (hc : c ≤ 100000) : Bd k := by
  unfold Bd
  have := h.fz; have := h.fl; have := h.wr
  omega
theorem Gk.hs {k : Dk} {n : Nat} {sz : Nat → Nat} {c : Nat} (h : Gk k n sz c) {d t : Nat} (hd' : d < n) (ht : t < sz d) : OldD.hs k (d : Int) (t : Int) = true := by
  have := h.ul; have := (h.ln d hd').1
  simp only [OldD.hs, hd]
  simp
  omega
theorem Gk.chk {k : Dk} {n : Nat} {sz : Nat → Nat} {c : Nat} (h : Gk k n sz c) (hdn : k.down = false) {d t : Nat} (hd' : d < n) (ht : t < sz d) : chk3 k (d : Int) (t : Int) = 0 ∧ chk4 k (d : Int) (t : Int) = 0 := by
  have h1 := h.hs hd' ht
  have h2 : (gu k.U (d : Int).toNat).mis = false := h.ms d hd'
  unfold chk3 chk4
  rw [hdn, h1, h2, h.bd]
  exact ⟨rfl, rfl⟩
theorem Gk.rd {k : Dk} {n : Nat} {sz : Nat → Nat} {c : Nat} (h : Gk k n sz c) (hdn : k.down = false) {d t : Nat} (hd' : d < n) (ht : t < sz d) : rdV k (d : Int) (t : Int) = nw k d t := by
  unfold rdV
  rw [if_pos (h.chk hdn hd' ht).2]
  rfl
theorem Gk.sz {k : Dk} {n : Nat} {sz : Nat → Nat} {c : Nat} (h : Gk k n sz c) {d : Nat} (hd' : d < n) : szV k (d : Int) = (sz d : Int) := by
  have := h.ul
  unfold szV
  rw [if_pos (by simp [hd]; omega)]
  exact congrArg _ (h.ln d hd').1
/-- a write -/
theorem Gk.wr_ok {k : Dk} {n : Nat} {sz : Nat → Nat} {c : Nat} (h : Gk k n sz c) (hdn : k.down = false) (hf : k.fuse ≠ 1) {d t : Nat} (hd' : d < n) (ht : t < sz d) (v : Int) :
    wrE k (d : Int) (t : Int) = 0 ∧ Gk (wrK k (d : Int) (t : Int) v) n sz (c + 1) ∧ (wrK k (d : Int) (t : Int) v).down = false ∧ (wrK k (d : Int) (t : Int) v).F = k.F ++ [⟨d, t, v⟩] ∧
    (∀ e u, nw (wrK k (d : Int) (t : Int) v) e u = if e = d ∧ u = t then v else nw k e u) ∧ ∀ e u, du (wrK k (d : Int) (t : Int) v) e u = du k e u := by
  have hc := (h.chk hdn hd' ht).1
  obtain ⟨z, hz⟩ : ∃ z, z = (if 0 < k.fuse then k.fuse - 1 else k.fuse) := ⟨_, rfl⟩
  have hz2 : 0 ≤ z ∧ z ≤ 1000000 := by have := h.fz; rw [hz]; split <;> omega
  have e : wrK k (d : Int) (t : Int) v = wrote { k with fuse := z } d t v := by unfold wrK; rw [if_pos hc, if_neg hf, hz]; rfl
  have hln := h.ln d hd'
  have hul := h.ul
  have eg : ∀ x, gu (wrote { k with fuse := z } d t v).U x = if x = d ∧ d < k.U.length then { gu k.U d with now := (gu k.U d).now.set t v } else gu k.U x := fun x => by
    show gu (k.U.set d _) x = _
    rw [gu_set]
  have en : ∀ e u, nw (wrote { k with fuse := z } d t v) e u = if e = d ∧ u = t then v else nw k e u := fun e u => by
    unfold nw
    rw [eg]
    by_cases h1 : d = e
    · subst h1
      rw [if_pos ⟨rfl, by omega⟩]
      show ge ((gu k.U d).now.set t v) u = _
      rw [ge_set]
      by_cases h2 : t = u
      · subst h2; rw [if_pos ⟨rfl, by omega⟩, if_pos ⟨rfl, rfl⟩]
      · rw [if_neg (fun c => h2 c.1), if_neg (fun c => h2 c.2.symm)]
    · rw [if_neg (fun c => h1 c.1.symm), if_neg (fun c => h1 c.1.symm)]
  have ed : ∀ e u, du (wrote { k with fuse := z } d t v) e u = du k e u := fun e u => by
    unfold du
    rw [eg]
    split
    · rename_i h1; rw [h1.1]
    · rfl
  refine ⟨by unfold wrE; rw [if_pos hc, if_neg hf], ?_⟩
  rw [e]
  refine ⟨?_, hdn, rfl, en, ed⟩
  exact {
    ul := by show (k.U.set d _).length = n; rw [List.length_set]; exact hul
    ln := fun x hx => by
      rw [eg]
      split
      · rename_i h1; rw [h1.1]; exact ⟨by rw [List.length_set]; exact hln.1, hln.2⟩
      · exact h.ln x hx
    ms := fun x hx => by
      rw [eg]
      split
      · rename_i h1; exact h.ms d hd'
      · exact h.ms x hx
    bd := fun x y => by show (if _ then false else k.bad x y) = false; split; rfl; exact h.bd x y
    fz := hz2
    FI := fun w hw => by
      rcases List.mem_append.1 (show w ∈ k.F ++ [(⟨d, t, v⟩ : Wr)] from hw) with hw | hw
      · exact h.FI w hw
      · rw [List.mem_singleton.1 hw]; exact ⟨hd', ht⟩
    fl := by show (k.F ++ [_]).length ≤ c + 1; have := h.fl; simp; exact this
    wr := by show 0 ≤ k.wr + 1 ∧ k.wr + 1 ≤ ((c + 1 : Nat) : Int); have := h.wr; omega
    ap := fun x u hx hu => by
      rw [en, ed]
      show _ = lastW (k.F ++ [(⟨d, t, v⟩ : Wr)]) x u (du k x u)
      rw [lastW_app, ← h.ap x u hx hu]
      by_cases h1 : x = d ∧ u = t
      · rw [if_pos h1, if_pos ⟨h1.1.symm, h1.2.symm⟩]
      · rw [if_neg h1, if_neg (fun c => h1 ⟨c.1.symm, c.2.symm⟩)] }
/-- a write that the power fails at -/
theorem Gk.wr_no {k : Dk} {n : Nat} {sz : Nat → Nat} {c : Nat} (h : Gk k n sz c) (hdn : k.down = false) (hf : k.fuse = 1) {d t : Nat} (hd' : d < n) (ht : t < sz d) (v : Int) :
    wrE k (d : Int) (t : Int) = 5 ∧ Gk (wrK k (d : Int) (t : Int) v) n sz c ∧ (wrK k (d : Int) (t : Int) v).F = k.F ∧ ∀ e u, du (wrK k (d : Int) (t : Int) v) e u = du k e u := by
  have hc := (h.chk hdn hd' ht).1
  have e : wrK k (d : Int) (t : Int) v = { k with fuse := 0, down := true } := by unfold wrK; rw [if_pos hc, if_pos hf]
  refine ⟨by unfold wrE; rw [if_pos hc, if_pos hf], ?_⟩
  rw [e]
  exact ⟨{ h with fz := by show (0 : Int) ≤ 0 ∧ (0 : Int) ≤ 1000000; omega }, rfl, fun _ _ => rfl⟩
theorem stU_at (d : Nat) : ∀ (F : List Wr) (V : List Un) (e u : Nat), ge (gu (stU d true V F) e).dur u = if e = d ∧ d < V.length ∧ u < (gu V d).dur.length then lastW F d u (ge (gu V d).dur u) else ge (gu V e).dur u
  | [], V, e, u => by
    split
    · rename_i h; rw [h.1]; rfl
    · rfl
  | w :: F, V, e, u => by
    show ge (gu (stU d true (if w.d = d ∧ true = true then V.set d { gu V d with dur := (gu V d).dur.set w.at' w.v } else V) F) e).dur u = _
    rw [stU_at d F]
    by_cases hw : w.d = d
    · rw [if_pos (⟨hw, rfl⟩ : w.d = d ∧ true = true)]
      by_cases hl : d < V.length
      · have e1 : gu (V.set d { gu V d with dur := (gu V d).dur.set w.at' w.v }) d = { gu V d with dur := (gu V d).dur.set w.at' w.v } := by rw [gu_set, if_pos ⟨rfl, hl⟩]
        rw [e1, List.length_set]
        dsimp only
        rw [List.length_set]
        by_cases hc : e = d ∧ d < V.length ∧ u < (gu V d).dur.length
        · rw [if_pos hc, if_pos hc, lastW_cons, ge_set]
          by_cases hu : w.at' = u
          · rw [if_pos ⟨hu, by rw [hu]; exact hc.2.2⟩, if_pos ⟨hw, hu⟩]
          · rw [if_neg (fun c => hu c.1), if_neg (fun c => hu c.2)]
        · rw [if_neg hc, if_neg hc, gu_set]
          by_cases he : e = d
          · subst he
            rw [if_pos ⟨rfl, hl⟩]
            show ge ((gu V e).dur.set w.at' w.v) u = _
            rw [ge_set, if_neg (fun c => hc ⟨rfl, hl, by rw [← c.1]; exact c.2⟩)]
          · rw [if_neg (fun c => he c.1)]
      · have e1 : V.set d { gu V d with dur := (gu V d).dur.set w.at' w.v } = V := by rw [List.set_eq_of_length_le (by omega)]
        rw [e1, if_neg (fun c => hl c.2.1), if_neg (fun c => hl c.2.1)]
    · rw [if_neg (fun (c : w.d = d ∧ true = true) => hw c.1)]
      by_cases hc : e = d ∧ d < V.length ∧ u < (gu V d).dur.length
      · rw [if_pos hc, if_pos hc, lastW_cons, if_neg (fun c => hw c.1)]
      · rw [if_neg hc, if_neg hc]
theorem stU_len (d : Nat) : ∀ (F : List Wr) (V : List Un) (e : Nat), (gu (stU d true V F) e).dur.length = (gu V e).dur.length
  | [], _, _ => rfl
  | w :: F, V, e => by
    show (gu (stU d true (if w.d = d ∧ true = true then V.set d { gu V d with dur := (gu V d).dur.set w.at' w.v } else V) F) e).dur.length = _
    rw [stU_len d F]
    split
    · rw [gu_set]
      split
      · rename_i h; rw [h.1]; exact List.length_set
      · rfl
    · rfl
/-- a flush -/
theorem Gk.flush {k : Dk} {n : Nat} {sz : Nat → Nat} {c : Nat} (h : Gk k n sz c) (hdn : k.down = false) {d : Nat} (hd' : d < n) (h0 : 0 < sz d) :
    chk3 k (d : Int) 0 = 0 ∧ Gk (flK k (d : Int)) n sz c ∧ (flK k (d : Int)).down = false ∧ (flK k (d : Int)).fuse = k.fuse ∧ (flK k (d : Int)).F = stF k.F d ∧
    (∀ e u, nw (flK k (d : Int)) e u = nw k e u) ∧ ∀ e u, e < n → u < sz e → du (flK k (d : Int)) e u = if e = d then nw k e u else du k e u := by
  have hc : chk3 k (d : Int) 0 = 0 := (h.chk hdn hd' (t := 0) h0).1
  have e : flK k (d : Int) = { k with U := stU d true k.U k.F, F := stF k.F d } := by unfold flK; rw [if_pos hc]; rfl
  have hk := stU_keep d true k.U k.F
  have hul := h.ul
  have hsub : ∀ w ∈ stF k.F d, w ∈ k.F ∧ w.d ≠ d := fun w hw => by
    unfold stF at hw
    rw [List.mem_filter] at hw
    exact ⟨hw.1, by simpa using hw.2⟩
  have en : ∀ e u, nw ({ k with U := stU d true k.U k.F, F := stF k.F d } : Dk) e u = nw k e u := fun e u => by
    show ge (gu (stU d true k.U k.F) e).now u = _
    rw [(hk.2 e).1]; rfl
  have ed : ∀ e u, e < n → u < sz e → du ({ k with U := stU d true k.U k.F, F := stF k.F d } : Dk) e u = if e = d then nw k e u else du k e u := fun x u he hu => by
    show ge (gu (stU d true k.U k.F) x).dur u = _
    rw [stU_at]
    by_cases h1 : x = d
    · subst h1
      rw [if_pos ⟨rfl, by omega, by rw [(h.ln x he).2]; exact hu⟩, if_pos rfl, h.ap x u he hu]; rfl
    · rw [if_neg (fun c => h1 c.1), if_neg h1]; rfl
  refine ⟨hc, ?_⟩
  rw [e]
  refine ⟨?_, hdn, rfl, rfl, en, ed⟩
  exact {
    ul := by show (stU d true k.U k.F).length = n; rw [hk.1]; exact hul
    ln := fun x hx => ⟨by show (gu (stU d true k.U k.F) x).now.length = _; rw [(hk.2 x).1]; exact (h.ln x hx).1, by show (gu (stU d true k.U k.F) x).dur.length = _; rw [stU_len]; exact (h.ln x hx).2⟩
    ms := fun x hx => by show (gu (stU d true k.U k.F) x).mis = false; rw [(hk.2 x).2]; exact h.ms x hx
    bd := h.bd
    fz := h.fz
    FI := fun w hw => h.FI w (hsub w hw).1
    fl := Nat.le_trans (List.length_filter_le ..) h.fl
    wr := h.wr
    ap := fun x u hx hu => by
      rw [en, ed x u hx hu]
      show _ = lastW (stF k.F d) x u _
      by_cases h1 : x = d
      · rw [if_pos h1, lastW_none]
        exact fun w hw c => (hsub w hw).2 (c.1.trans h1)
      · rw [if_neg h1, lastW_filter d _ _ _ _ h1]; exact h.ap x u hx hu }
/-- the fuse is set -/
theorem Gk.fused {k : Dk} {n : Nat} {sz : Nat → Nat} {c : Nat} (h : Gk k n sz c) (x : Int) (hx : x ≤ 1000000) : Gk { k with fuse := max x 0 } n sz c :=
  { h with fz := by show 0 ≤ max x 0 ∧ max x 0 ≤ 1000000; omega }
theorem rs1_cand (F : List Wr) (kp : Nat → Bool) (U : List Un) : ∀ j, j ≤ F.length → ∀ d t, ge (gu (rs1 F kp U j) d).dur t = ge (gu U d).dur t ∨ ∃ w ∈ F, w.d = d ∧ w.at' = t ∧ ge (gu (rs1 F kp U j) d).dur t = w.v := by
  intro j
  induction j with
  | zero => exact fun _ d t => .inl rfl
  | succ j ih =>
    intro hj d t
    have ih := ih (by omega) d t
    have hg := gf_mem (F := F) (k := j) hj
    unfold rs1
    split
    · rw [gu_set]
      split
      · rename_i h1
        show ge ((gu (rs1 F kp U j) (gf F j).d).dur.set (gf F j).at' (gf F j).v) t = _ ∨ _
        rw [ge_set]
        split
        · rename_i h2
          exact .inr ⟨gf F j, hg, h1.1.symm, h2.1, rfl⟩
        · rename_i h2
          rw [← h1.1]
          rcases ih with ih | ⟨w, w1, w2, w3, w4⟩
          · exact .inl ih
          · exact .inr ⟨w, w1, w2, w3, w4⟩
      · exact ih
    · exact ih
theorem rs2_at2 (F : List Wr) (U : List Un) (hl : ∀ d, d < U.length → (gu U d).dur.length = (gu U d).now.length) (d x : Nat) (hd : d < U.length) (hx : x < (gu U d).now.length) : ∀ j, j ≤ F.length → ge (gu (rs2 F U j) d).now x = if ∃ w ∈ F.take j, w.d = d ∧ w.at' = x then ge (gu U d).dur x else ge (gu U d).now x := by
  intro j
  induction j with
  | zero => intro _; rw [if_neg (by rintro ⟨w, hw, _⟩; simp at hw)]; rfl
  | succ j ih =>
    intro hj
    have ih := ih (by omega)
    have hk := rs2_keep F U j
    have htk : ∀ w, w ∈ F.take (j + 1) ↔ w ∈ F.take j ∨ w = gf F j := fun w => by
      rw [List.take_succ_eq_append_getElem hj, List.mem_append, List.mem_singleton]
      unfold gf
      rw [List.getElem?_eq_getElem hj]
      exact Iff.rfl
    unfold rs2
    rw [gu_set]
    by_cases h1 : (gf F j).d = d
    · rw [h1, if_pos ⟨rfl, by rw [hk.1]; exact hd⟩]
      show ge ((gu (rs2 F U j) d).now.set (gf F j).at' (ge (gu (rs2 F U j) d).dur (gf F j).at')) x = _
      rw [ge_set]
      by_cases h2 : (gf F j).at' = x
      · rw [if_pos ⟨h2, by rw [h2, (hk.2 d).2.2]; exact hx⟩, if_pos ⟨gf F j, (htk _).2 (.inr rfl), h1, h2⟩, (hk.2 d).1, h2]
      · rw [if_neg (fun c => h2 c.1), ih]
        by_cases h3 : ∃ w ∈ F.take j, w.d = d ∧ w.at' = x
        · rw [if_pos h3, if_pos (by obtain ⟨w, w1, w2⟩ := h3; exact ⟨w, (htk w).2 (.inl w1), w2⟩)]
        · rw [if_neg h3, if_neg]
          rintro ⟨w, w1, w2⟩
          rcases (htk w).1 w1 with w1 | w1
          · exact h3 ⟨w, w1, w2⟩
          · rw [w1] at w2; exact h2 w2.2
    · rw [if_neg (fun c => h1 c.1.symm), ih]
      by_cases h3 : ∃ w ∈ F.take j, w.d = d ∧ w.at' = x
      · rw [if_pos h3, if_pos (by obtain ⟨w, w1, w2⟩ := h3; exact ⟨w, (htk w).2 (.inl w1), w2⟩)]
      · rw [if_neg h3, if_neg]
        rintro ⟨w, w1, w2⟩
        rcases (htk w).1 w1 with w1 | w1
        · exact h3 ⟨w, w1, w2⟩
        · rw [w1] at w2; exact h1 w2.1
/-- the power comes back -/
theorem Gk.back {k : Dk} {n : Nat} {sz : Nat → Nat} {c : Nat} (h : Gk k n sz c) (kp : Nat → Bool) :
    Gk (reK k kp) n sz c ∧ (reK k kp).down = false ∧ (reK k kp).F = [] ∧ (∀ d t, d < n → t < sz d → nw (reK k kp) d t = du (reK k kp) d t) ∧
    ∀ d t, d < n → t < sz d → nw (reK k kp) d t = du k d t ∨ ∃ w ∈ k.F, w.d = d ∧ w.at' = t ∧ nw (reK k kp) d t = w.v := by
  have hk1 := rs1_keep k.F kp k.U k.F.length
  have hk2 := rs2_keep k.F (rs1 k.F kp k.U k.F.length) k.F.length
  have hul := h.ul
  have hl : ∀ d, d < (rs1 k.F kp k.U k.F.length).length → (gu (rs1 k.F kp k.U k.F.length) d).dur.length = (gu (rs1 k.F kp k.U k.F.length) d).now.length := fun d hd => by
    rw [hk1.1] at hd
    rw [(hk1.2 d).2.2, (hk1.2 d).1, (h.ln d (by omega)).1, (h.ln d (by omega)).2]
  have hdu : ∀ d t, du (reK k kp) d t = ge (gu (rs1 k.F kp k.U k.F.length) d).dur t := fun d t => by
    show ge (gu (rs2 k.F (rs1 k.F kp k.U k.F.length) k.F.length) d).dur t = _
    rw [(hk2.2 d).1]
  have key : ∀ d t, d < n → t < sz d → nw (reK k kp) d t = du (reK k kp) d t := fun d t hd ht => by
    show ge (gu (rs2 k.F (rs1 k.F kp k.U k.F.length) k.F.length) d).now t = _
    rw [rs2_at2 _ _ hl d t (by rw [hk1.1]; omega) (by rw [(hk1.2 d).1, (h.ln d hd).1]; exact ht) _ (Nat.le_refl _), List.take_length, hdu]
    split
    · rfl
    · rename_i h1
      have hn : ∀ w ∈ k.F, ¬ (w.d = d ∧ w.at' = t) := fun w hw c => h1 ⟨w, hw, c⟩
      rw [(hk1.2 d).1]
      rcases rs1_cand k.F kp k.U k.F.length (Nat.le_refl _) d t with h2 | ⟨w, w1, w2, w3, _⟩
      · rw [h2]
        have := h.ap d t hd ht
        rw [lastW_none _ _ _ _ hn] at this
        exact this
      · exact absurd ⟨w2, w3⟩ (hn w w1)
  refine ⟨?_, rfl, rfl, key, fun d t hd ht => ?_⟩
  · exact {
      ul := by show (rs2 k.F (rs1 k.F kp k.U k.F.length) k.F.length).length = n; rw [hk2.1, hk1.1]; exact hul
      ln := fun d hd => ⟨by show (gu (rs2 k.F (rs1 k.F kp k.U k.F.length) k.F.length) d).now.length = _; rw [(hk2.2 d).2.2, (hk1.2 d).1]; exact (h.ln d hd).1, by show (gu (rs2 k.F (rs1 k.F kp k.U k.F.length) k.F.length) d).dur.length = _; rw [(hk2.2 d).1, (hk1.2 d).2.2]; exact (h.ln d hd).2⟩
      ms := fun d hd => by show (gu (rs2 k.F (rs1 k.F kp k.U k.F.length) k.F.length) d).mis = false; rw [(hk2.2 d).2.1, (hk1.2 d).2.1]; exact h.ms d hd
      bd := h.bd
      fz := by show (0 : Int) ≤ 0 ∧ (0 : Int) ≤ 1000000; omega
      FI := fun w hw => by cases hw
      fl := Nat.zero_le _
      wr := h.wr
      ap := fun d t hd ht => key d t hd ht }
  · rw [key d t hd ht, hdu]
    exact rs1_cand k.F kp k.U k.F.length (Nat.le_refl _) d t
/-- where a device's sectors lie: among the sectors of n disks, apart from one another -/
structure Lay (n : Nat) (sz : Nat → Nat) (N : Nat) (pl : Nat → Nat × Nat) : Prop where
  inr : ∀ i, i < N → (pl i).1 < n ∧ (pl i).2 < sz (pl i).1
  inj : ∀ i j, i < N → j < N → (pl i).1 = (pl j).1 → (pl i).2 = (pl j).2 → i = j
/-- what is durable, and what was written since, is among the candidates -/
structure Sp (k : Dk) (n : Nat) (sz : Nat → Nat) (N : Nat) (pl : Nat → Nat × Nat) (f : Nat → Sc) (c : Nat) : Prop where
  g : Gk k n sz c
  dS : ∀ i, i < N → du k (pl i).1 (pl i).2 ∈ (f i).S
  FS : ∀ i, i < N → ∀ w ∈ k.F, w.d = (pl i).1 → w.at' = (pl i).2 → w.v ∈ (f i).S
  sl : ∀ i, i < N → (f i).S.length ≤ c + 1
/-- the device runs: all values are known -/
structure Rn (k : Dk) (n : Nat) (sz : Nat → Nat) (N : Nat) (pl : Nat → Nat × Nat) (f : Nat → Sc) (c : Nat) : Prop where
  s : Sp k n sz N pl f c
  down : k.down = false
  kn : ∀ i, i < N → (f i).kn = true ∧ (f i).v = nw k (pl i).1 (pl i).2
theorem Sp.mono {k : Dk} {n : Nat} {sz : Nat → Nat} {N : Nat} {pl : Nat → Nat × Nat} {f : Nat → Sc} {c c' : Nat} (h : Sp k n sz N pl f c) (hc : c ≤ c') : Sp k n sz N pl f c' :=
  ⟨h.g.mono hc, h.dS, h.FS, fun i hi => by have := h.sl i hi; omega⟩
theorem Rn.mono {k : Dk} {n : Nat} {sz : Nat → Nat} {N : Nat} {pl : Nat → Nat × Nat} {f : Nat → Sc} {c c' : Nat} (h : Rn k n sz N pl f c) (hc : c ≤ c') : Rn k n sz N pl f c' := ⟨h.s.mono hc, h.down, h.kn⟩
theorem Sp.nwS {k : Dk} {n : Nat} {sz : Nat → Nat} {N : Nat} {pl : Nat → Nat × Nat} {f : Nat → Sc} {c : Nat} (h : Sp k n sz N pl f c) (L : Lay n sz N pl) {i : Nat} (hi : i < N) : nw k (pl i).1 (pl i).2 ∈ (f i).S := by
  obtain ⟨h1, h2⟩ := L.inr i hi
  rw [h.g.ap _ _ h1 h2]
  rcases lastW_mem k.F (pl i).1 (pl i).2 (du k (pl i).1 (pl i).2) with e | ⟨w, w1, w2, w3, w4⟩
  · rw [e]; exact h.dS i hi
  · rw [w4]; exact h.FS i hi w w1 w2 w3
/-- what a write adds to the candidates -/
def wrS (f : Nat → Sc) (t : Nat) (v : Int) (d : Bool) : Nat → Sc := up f t ⟨(f t).S ++ [v], d, v⟩
theorem wrS_at (f : Nat → Sc) (t : Nat) (v : Int) (d : Bool) (j : Nat) : (wrS f t v d j).S = (f j).S ∨ (wrS f t v d j).S = (f j).S ++ [v] := by
  unfold wrS
  by_cases e : j = t
  · subst e; rw [up_eq]; exact .inr rfl
  · rw [up_ne _ e]; exact .inl rfl
theorem wrS_mem (f : Nat → Sc) (t : Nat) (v : Int) (d : Bool) (j : Nat) {x : Int} (h : x ∈ (f j).S) : x ∈ (wrS f t v d j).S := by
  rcases wrS_at f t v d j with e | e
  · rw [e]; exact h
  · rw [e]; exact List.mem_append_left _ h
theorem wrS_len (f : Nat → Sc) (t : Nat) (v : Int) (d : Bool) (j : Nat) : (wrS f t v d j).S.length ≤ (f j).S.length + 1 := by
  rcases wrS_at f t v d j with e | e
  · rw [e]; omega
  · rw [e]; simp
theorem Rn.wr_ok {k : Dk} {n : Nat} {sz : Nat → Nat} {N : Nat} {pl : Nat → Nat × Nat} {f : Nat → Sc} {c : Nat} (h : Rn k n sz N pl f c) (L : Lay n sz N pl) {i : Nat} (hi : i < N) (v : Int) (hf : k.fuse ≠ 1) :
    wrE k ((pl i).1 : Int) ((pl i).2 : Int) = 0 ∧ Rn (wrK k ((pl i).1 : Int) ((pl i).2 : Int) v) n sz N pl (wrS f i v true) (c + 1) := by
  obtain ⟨h1, h2⟩ := L.inr i hi
  obtain ⟨e0, g, dn, eF, en, ed⟩ := h.s.g.wr_ok h.down hf h1 h2 v
  refine ⟨e0, ⟨g, fun j hj => ?_, fun j hj w hw w1 w2 => ?_, fun j hj => ?_⟩, dn, fun j hj => ?_⟩
  · rw [ed]; exact wrS_mem _ _ _ _ _ (h.s.dS j hj)
  · rw [eF] at hw
    rcases List.mem_append.1 hw with hw | hw
    · exact wrS_mem _ _ _ _ _ (h.s.FS j hj w hw w1 w2)
    · obtain rfl := List.mem_singleton.1 hw
      obtain rfl := L.inj i j hi hj w1 w2
      unfold wrS; rw [up_eq]; simp
  · have := h.s.sl j hj; have := wrS_len f i v true j; omega
  · rw [en]
    unfold wrS
    by_cases e : j = i
    · subst e; rw [up_eq, if_pos ⟨rfl, rfl⟩]; exact ⟨rfl, rfl⟩
    · rw [up_ne _ e, if_neg (fun c => e (L.inj j i hj hi c.1 c.2))]; exact h.kn j hj
theorem Rn.wr_no {k : Dk} {n : Nat} {sz : Nat → Nat} {N : Nat} {pl : Nat → Nat × Nat} {f : Nat → Sc} {c : Nat} (h : Rn k n sz N pl f c) (L : Lay n sz N pl) {i : Nat} (hi : i < N) (v : Int) (hf : k.fuse = 1) :
    wrE k ((pl i).1 : Int) ((pl i).2 : Int) = 5 ∧ Sp (wrK k ((pl i).1 : Int) ((pl i).2 : Int) v) n sz N pl (wrS f i v false) (c + 1) := by
  obtain ⟨h1, h2⟩ := L.inr i hi
  obtain ⟨e0, g, eF, ed⟩ := h.s.g.wr_no h.down hf h1 h2 v
  refine ⟨e0, g.mono (by omega), fun j hj => ?_, fun j hj w hw w1 w2 => ?_, fun j hj => ?_⟩
  · rw [ed]; exact wrS_mem _ _ _ _ _ (h.s.dS j hj)
  · rw [eF] at hw; exact wrS_mem _ _ _ _ _ (h.s.FS j hj w hw w1 w2)
  · have := h.s.sl j hj; have := wrS_len f i v false j; omega
theorem Rn.rd {k : Dk} {n : Nat} {sz : Nat → Nat} {N : Nat} {pl : Nat → Nat × Nat} {f : Nat → Sc} {c : Nat} (h : Rn k n sz N pl f c) (L : Lay n sz N pl) {i : Nat} (hi : i < N) :
    chk4 k ((pl i).1 : Int) ((pl i).2 : Int) = 0 ∧ rdV k ((pl i).1 : Int) ((pl i).2 : Int) = (f i).v := by
  obtain ⟨h1, h2⟩ := L.inr i hi
  exact ⟨(h.s.g.chk h.down h1 h2).2, by rw [h.s.g.rd h.down h1 h2, (h.kn i hi).2]⟩
/-- disks that are flushed -/
def Fd (k : Dk) (sz : Nat → Nat) (D : List Nat) : Prop := ∀ d ∈ D, (∀ w ∈ k.F, w.d ≠ d) ∧ ∀ t, t < sz d → du k d t = nw k d t
theorem Rn.flush1 {k : Dk} {n : Nat} {sz : Nat → Nat} {N : Nat} {pl : Nat → Nat × Nat} {f : Nat → Sc} {c : Nat} (h : Rn k n sz N pl f c) (L : Lay n sz N pl) (D : List Nat) (hD : ∀ d ∈ D, d < n) (hF : Fd k sz D) {d : Nat} (hd' : d < n) (h0 : 0 < sz d) :
    chk3 k (d : Int) 0 = 0 ∧ Rn (flK k (d : Int)) n sz N pl f c ∧ Fd (flK k (d : Int)) sz (D ++ [d]) := by
  obtain ⟨e0, g, dn, ef, eF, en, ed⟩ := h.s.g.flush h.down hd' h0
  have hsub : ∀ w ∈ stF k.F d, w ∈ k.F ∧ w.d ≠ d := fun w hw => by
    unfold stF at hw
    rw [List.mem_filter] at hw
    exact ⟨hw.1, by simpa using hw.2⟩
  refine ⟨e0, ⟨⟨g, fun j hj => ?_, fun j hj w hw w1 w2 => ?_, h.s.sl⟩, dn, fun j hj => ?_⟩, fun e he => ?_⟩
  · obtain ⟨h1, h2⟩ := L.inr j hj
    rw [ed _ _ h1 h2]
    split
    · exact h.s.nwS L hj
    · exact h.s.dS j hj
  · rw [eF] at hw; exact h.s.FS j hj w (hsub w hw).1 w1 w2
  · rw [en]; exact h.kn j hj
  · rw [eF]
    rcases List.mem_append.1 he with he | he
    · have := hF e he
      refine ⟨fun w hw => this.1 w (hsub w hw).1, fun t ht => ?_⟩
      rw [ed e t (hD e he) ht, en]
      split
      · rfl
      · exact this.2 t ht
    · obtain rfl := List.mem_singleton.1 he
      exact ⟨fun w hw => (hsub w hw).2, fun t ht => by rw [ed e t hd' ht, en, if_pos rfl]⟩
/-- all disks are flushed -/
theorem Rn.flushed {k : Dk} {n : Nat} {sz : Nat → Nat} {N : Nat} {pl : Nat → Nat × Nat} {f : Nat → Sc} {c : Nat} (h : Rn k n sz N pl f c) (L : Lay n sz N pl) (D : List Nat) (hF : Fd k sz D) (hp : ∀ i, i < N → (pl i).1 ∈ D) : Rn k n sz N pl (upto N pFlush f) c := by
  have ef : ∀ j, j < N → upto N pFlush f j = ⟨[(f j).v], (f j).kn, (f j).v⟩ := fun j hj => by
    unfold upto pFlush
    rw [if_pos hj, if_pos (h.kn j hj).1]
  refine ⟨⟨h.s.g, fun j hj => ?_, fun j hj w hw w1 w2 => ?_, fun j hj => ?_⟩, h.down, fun j hj => ?_⟩
  · rw [ef j hj]
    show du k (pl j).1 (pl j).2 ∈ [(f j).v]
    rw [(hF _ (hp j hj)).2 _ (L.inr j hj).2, (h.kn j hj).2]; simp
  · exact absurd w1 ((hF _ (hp j hj)).1 w hw)
  · rw [ef j hj]; simp
  · rw [ef j hj]; exact h.kn j hj
theorem Rn.fused {k : Dk} {n : Nat} {sz : Nat → Nat} {N : Nat} {pl : Nat → Nat × Nat} {f : Nat → Sc} {c : Nat} (h : Rn k n sz N pl f c) (x : Int) (hx : x ≤ 1000000) : Rn { k with fuse := max x 0 } n sz N pl f c :=
  ⟨⟨h.s.g.fused x hx, h.s.dS, h.s.FS, h.s.sl⟩, h.down, h.kn⟩
/-- the candidates behind a failure, the first i sectors read -/
def rdS (k : Dk) (pl : Nat → Nat × Nat) (f : Nat → Sc) (i : Nat) : Nat → Sc := fun j => if j < i then ⟨[nw k (pl j).1 (pl j).2], true, nw k (pl j).1 (pl j).2⟩ else f j
theorem rdS_zero (k : Dk) (pl : Nat → Nat × Nat) (f : Nat → Sc) : rdS k pl f 0 = f := by funext j; unfold rdS; rw [if_neg (by omega)]
theorem rdS_at (k : Dk) (pl : Nat → Nat × Nat) (f : Nat → Sc) (i : Nat) : rdS k pl f i i = f i := if_neg (by omega)
theorem rdS_succ (k : Dk) (pl : Nat → Nat × Nat) (f : Nat → Sc) (i : Nat) : up (rdS k pl f i) i ⟨[nw k (pl i).1 (pl i).2], true, nw k (pl i).1 (pl i).2⟩ = rdS k pl f (i + 1) := by
  funext a
  unfold up rdS
  by_cases e : a = i
  · subst e; rw [if_pos rfl, if_pos (by omega)]
  · rw [if_neg e]
    by_cases e2 : a < i
    · rw [if_pos e2, if_pos (by omega)]
    · rw [if_neg e2, if_neg (by omega)]
/-- the power comes back, and all sectors are read -/
theorem Sp.back {k : Dk} {n : Nat} {sz : Nat → Nat} {N : Nat} {pl : Nat → Nat × Nat} {f : Nat → Sc} {c : Nat} (h : Sp k n sz N pl f c) (L : Lay n sz N pl) (kp : Nat → Bool) :
    (reK k kp).down = false ∧ Gk (reK k kp) n sz c ∧ (∀ j, j < N → nw (reK k kp) (pl j).1 (pl j).2 ∈ (upto N pFail f j).S ∧ (upto N pFail f j).kn = false ∧ (upto N pFail f j).S.length ≤ c + 1) ∧ Rn (reK k kp) n sz N pl (rdS (reK k kp) pl (upto N pFail f) N) c := by
  obtain ⟨g, dn, eF, e1, e2⟩ := h.g.back kp
  have hS : ∀ j, j < N → upto N pFail f j = { f j with kn := false } := fun j hj => by unfold upto; rw [if_pos hj]; rfl
  have e5 : ∀ j, j < N → rdS (reK k kp) pl (upto N pFail f) N j = ⟨[nw (reK k kp) (pl j).1 (pl j).2], true, nw (reK k kp) (pl j).1 (pl j).2⟩ := fun j hj => if_pos hj
  refine ⟨dn, g, fun j hj => ?_, ⟨g, fun j hj => ?_, fun j hj w hw => ?_, fun j hj => ?_⟩, dn, fun j hj => ?_⟩
  · rw [hS j hj]
    refine ⟨?_, rfl, h.sl j hj⟩
    obtain ⟨h1, h2⟩ := L.inr j hj
    rcases e2 _ _ h1 h2 with e | ⟨w, w1, w2, w3, w4⟩
    · rw [e]; exact h.dS j hj
    · rw [w4]; exact h.FS j hj w w1 w2 w3
  · obtain ⟨h1, h2⟩ := L.inr j hj
    rw [e5 j hj, ← e1 _ _ h1 h2]; simp
  · rw [eF] at hw; cases hw
  · rw [e5 j hj]; simp
  · rw [e5 j hj]; exact ⟨rfl, rfl⟩
end Go.Proofs.Ytbgbjgedjmhcaaa
