/- The engine, part Q: contracts under other names. No conditions but those of each theorem. -/
import Derived.Test.YtbgbjgedjmhcaaaSyO
namespace Go.Proofs.Ytbgbjgedjmhcaaa
open Go.RowKit
set_option linter.unusedVariables false
set_option linter.unusedSimpArgs false
mutual
theorem renV_iff {σ : List (Nat × Nat)} {N : List Nat} {E E1 : Env} (h : ∀ id, id ∈ N → E1 id = E (rn σ id)) : ∀ (v : AV) (c : Value), closedV N v = true → (RV E (renV σ v) c ↔ RV E1 v c)
  | .val v, c, _ => by simp only [renV, RV]
  | .ptr id i es j, c, hc => by simp only [renV, RV, h id (List.contains_iff_mem.1 hc)]
  | .sl id i es n cc, c, hc => by simp only [renV, RV, h id (List.contains_iff_mem.1 hc)]
  | .mp id, c, hc => by simp only [renV, RV, h id (List.contains_iff_mem.1 hc)]
  | .agg cs, c, hc => by
    simp only [renV, RV]
    exact ⟨fun ⟨xs, e, r⟩ => ⟨xs, e, (renL_iff h cs xs hc).1 r⟩, fun ⟨xs, e, r⟩ => ⟨xs, e, (renL_iff h cs xs hc).2 r⟩⟩
  | .tup cs, c, hc => by
    simp only [renV, RV]
    exact ⟨fun ⟨xs, e, r⟩ => ⟨xs, e, (renL_iff h cs xs hc).1 r⟩, fun ⟨xs, e, r⟩ => ⟨xs, e, (renL_iff h cs xs hc).2 r⟩⟩
  | .fn f l m, c, hc => by
    simp only [closedV, Bool.and_eq_true] at hc
    simp only [renV, RV]
    exact ⟨fun ⟨xs, ys, e, r, r2⟩ => ⟨xs, ys, e, (renL_iff h l xs hc.1).1 r, (renL_iff h m ys hc.2).1 r2⟩, fun ⟨xs, ys, e, r, r2⟩ => ⟨xs, ys, e, (renL_iff h l xs hc.1).2 r, (renL_iff h m ys hc.2).2 r2⟩⟩
  | .ifc t v, c, hc => by
    simp only [renV, RV]
    exact ⟨fun ⟨x, e, r⟩ => ⟨x, e, (renV_iff h v x hc).1 r⟩, fun ⟨x, e, r⟩ => ⟨x, e, (renV_iff h v x hc).2 r⟩⟩
  | .anyB p q, c, _ => by simp only [renV, RV]
  | .len n, c, _ => by simp only [renV, RV]
  | .junk, c, _ => by simp only [renV, RV]
theorem renL_iff {σ : List (Nat × Nat)} {N : List Nat} {E E1 : Env} (h : ∀ id, id ∈ N → E1 id = E (rn σ id)) : ∀ (v : List AV) (c : List Value), closedL N v = true → (RVs E (renL σ v) c ↔ RVs E1 v c)
  | [], c, _ => by simp only [renL, RVs]
  | x :: xs, c, hc => by
    simp only [closedL, Bool.and_eq_true] at hc
    simp only [renL, RVs]
    exact ⟨fun ⟨y, l, e, r, r2⟩ => ⟨y, l, e, (renV_iff h x y hc.1).1 r, (renL_iff h xs l hc.2).1 r2⟩, fun ⟨y, l, e, r, r2⟩ => ⟨y, l, e, (renV_iff h x y hc.1).2 r, (renL_iff h xs l hc.2).2 r2⟩⟩
end
theorem renO_iff {σ : List (Nat × Nat)} {N : List Nat} {E E1 : Env} {W : World} (h : ∀ id, id ∈ N → E1 id = E (rn σ id)) {id : Nat} (hid : id ∈ N) : ∀ (o : Ob), closedO N o → (Holds E W (rn σ id) (renO σ o) ↔ Holds E1 W id o)
  | .blk ty cs, hc => by
    simp only [renO, Holds, h id hid]
    exact ⟨fun ⟨b, k, xs, h1, h2, h3, h4⟩ => ⟨b, k, xs, h1, h2, (renL_iff h cs xs hc).1 h3, h4⟩, fun ⟨b, k, xs, h1, h2, h3, h4⟩ => ⟨b, k, xs, h1, h2, (renL_iff h cs xs hc).2 h3, h4⟩⟩
  | .vec ty es n row, hc => by
    simp only [renO, Holds, h id hid]
    exact ⟨fun ⟨b, k, xs, h1, h2, h3, h4⟩ => ⟨b, k, xs, h1, h2, h3, fun q hq => (renL_iff h _ _ (hc q)).1 (h4 q hq)⟩, fun ⟨b, k, xs, h1, h2, h3, h4⟩ => ⟨b, k, xs, h1, h2, h3, fun q hq => (renL_iff h _ _ (hc q)).2 (h4 q hq)⟩⟩
  | .ro es n row, hc => by
    simp only [renO, Holds, h id hid]
    exact ⟨fun ⟨b, k, xs, h1, h2, h3, h4, h5⟩ => ⟨b, k, xs, h1, h2, h3, h4, fun q hq => (renL_iff h _ _ (hc q)).1 (h5 q hq)⟩, fun ⟨b, k, xs, h1, h2, h3, h4, h5⟩ => ⟨b, k, xs, h1, h2, h3, h4, fun q hq => (renL_iff h _ _ (hc q)).2 (h5 q hq)⟩⟩
  | .obj m, _ => by
    simp only [renO, Holds, h id hid]
  | .box B, _ => by
    simp only [renO, Holds, h id hid]
theorem renO_bx (σ : List (Nat × Nat)) : ∀ o : Ob, (renO σ o).bx = o.bx
  | .blk .. => rfl
  | .vec .. => rfl
  | .ro .. => rfl
  | .obj _ => rfl
  | .box _ => rfl
def mapN (σ : List (Nat × Nat)) : List Nat → List Nat
  | [] => []
  | x :: l => rn σ x :: mapN σ l
theorem mapN_eq (σ : List (Nat × Nat)) : ∀ l, mapN σ l = l.map (rn σ)
  | [] => rfl
  | x :: l => by simp [mapN, mapN_eq σ l]
theorem renO_owned (σ : List (Nat × Nat)) (o : Ob) : (renO σ o).owned = o.owned := by cases o <;> rfl
section
variable {σ : List (Nat × Nat)} {N : List Nat} (inj : ∀ a b, a ∈ N → b ∈ N → rn σ a = rn σ b → a = b)
include inj
theorem find_ren : ∀ (h : Hp), (∀ id ∈ idsOf h, id ∈ N) → ∀ id, id ∈ N → find (renH σ h) (rn σ id) = (find h id).map (renO σ)
  | [], _, id, _ => by simp [renH, find]
  | (k, o) :: h, hs, id, hid => by
    have ih := find_ren h (fun x hx => hs x (List.mem_cons_of_mem _ hx)) id hid
    have e1 : find (renH σ ((k, o) :: h)) (rn σ id) = if rn σ k == rn σ id then some (renO σ o) else find (renH σ h) (rn σ id) := by simp only [renH, find]
    have e2 : find ((k, o) :: h) id = if k == id then some o else find h id := by simp only [find]
    rw [e1, e2, ih]
    by_cases e : k = id
    · subst e; simp
    · have : ¬ rn σ k = rn σ id := fun e' => e (inj k id (hs k (by simp [idsOf])) hid e')
      rw [if_neg (by simpa using this), if_neg (by simpa using e)]
omit inj in
theorem ren_ids : ∀ (h : Hp) (y : Nat) (o' : Ob), find (renH σ h) y = some o' → ∃ id ∈ idsOf h, y = rn σ id
  | [], y, o', e => by simp [renH, find] at e
  | (k, o) :: h, y, o', e => by
    have e1 : find (renH σ ((k, o) :: h)) y = if rn σ k == y then some (renO σ o) else find (renH σ h) y := by simp only [renH, find]
    rw [e1] at e
    by_cases hk : rn σ k = y
    · exact ⟨k, by simp [idsOf], hk.symm⟩
    · rw [if_neg (by simpa using hk)] at e
      obtain ⟨id, h1, h2⟩ := ren_ids h y o' e
      exact ⟨id, by simp [idsOf, h1], h2⟩
theorem upd_ren (h : Hp) (hs : ∀ id ∈ idsOf h, id ∈ N) (id : Nat) (hid : id ∈ N) (o : Ob) : upd (renH σ h) (rn σ id) (renO σ o) = renH σ (upd h id o) := by
  induction h with
  | nil => rfl
  | cons p h ih =>
    obtain ⟨k, x⟩ := p
    have ih := ih (fun y hy => hs y (List.mem_cons_of_mem _ hy))
    simp only [renH, upd]
    by_cases e : k = id
    · subst e; simp [renH]
    · have : ¬ rn σ k = rn σ id := fun e' => e (inj k id (hs k (by simp [idsOf])) hid e')
      rw [if_neg (by simpa using this), if_neg (by simpa using e)]
      simp only [renH, ih]
theorem del_ren (h : Hp) (hs : ∀ id ∈ idsOf h, id ∈ N) (id : Nat) (hid : id ∈ N) : del (renH σ h) (rn σ id) = renH σ (del h id) := by
  induction h with
  | nil => rfl
  | cons p h ih =>
    obtain ⟨k, x⟩ := p
    have ih := ih (fun y hy => hs y (List.mem_cons_of_mem _ hy))
    simp only [renH, del]
    by_cases e : k = id
    · subst e; simp [ih]
    · have : ¬ rn σ k = rn σ id := fun e' => e (inj k id (hs k (by simp [idsOf])) hid e')
      rw [if_neg (by simpa using this), if_neg (by simpa using e)]
      simp only [renH, ih]
theorem hasId_ren (h : Hp) (hs : ∀ id ∈ idsOf h, id ∈ N) (id : Nat) (hid : id ∈ N) : hasId (renH σ h) (rn σ id) = hasId h id := by
  unfold hasId
  rw [find_ren inj h hs id hid]
  cases find h id <;> rfl
omit inj in
theorem ids_upd (h : Hp) (id : Nat) (o : Ob) (hs : ∀ id ∈ idsOf h, id ∈ N) (hid : id ∈ N) : ∀ x ∈ idsOf (upd h id o), x ∈ N := by
  induction h with
  | nil => intro x hx; simp [upd, idsOf] at hx; rw [hx]; exact hid
  | cons p h ih =>
    obtain ⟨k, y⟩ := p
    intro x hx
    unfold upd at hx
    split at hx
    · exact hs x (by simpa [idsOf] using hx)
    · simp only [idsOf, List.mem_cons] at hx
      rcases hx with rfl | hx
      · exact hs _ (by simp [idsOf])
      · exact ih (fun y hy => hs y (by simp [idsOf, hy])) x hx
omit inj in
theorem ids_del (h : Hp) (id : Nat) (hs : ∀ id ∈ idsOf h, id ∈ N) : ∀ x ∈ idsOf (del h id), x ∈ N := by
  induction h with
  | nil => intro x hx; simp [del, idsOf] at hx
  | cons p h ih =>
    obtain ⟨k, y⟩ := p
    intro x hx
    have ih := ih (fun y hy => hs y (by simp [idsOf, hy]))
    unfold del at hx
    split at hx
    · exact ih x hx
    · simp only [idsOf, List.mem_cons] at hx
      rcases hx with rfl | hx
      · exact hs _ (by simp [idsOf])
      · exact ih x hx
theorem outs_ren : ∀ (outs : List (Nat × Option Ob)) (h : Hp), (∀ id ∈ idsOf h, id ∈ N) → (∀ p ∈ outs, p.1 ∈ N) → applyO (renH σ h) (renU σ outs) = renH σ (applyO h outs) ∧ newIds (renH σ h) (renU σ outs) = mapN σ (newIds h outs) ∧ (∀ id ∈ idsOf (applyO h outs), id ∈ N) ∧ (∀ id ∈ newIds h outs, id ∈ N)
  | [], h, hs, _ => ⟨rfl, rfl, hs, fun id hid => by cases hid⟩
  | (id, some o) :: l, h, hs, ho => by
    have hid := ho _ (List.mem_cons_self ..)
    obtain ⟨h1, h2, h3, h4⟩ := outs_ren l (upd h id o) (ids_upd h id o hs hid) (fun p hp => ho p (List.mem_cons_of_mem _ hp))
    simp only [renU, applyO, newIds]
    rw [upd_ren inj h hs id hid, hasId_ren inj h hs id hid]
    refine ⟨h1, ?_, h3, ?_⟩
    · cases hasId h id with
      | true => exact h2
      | false => simp only [mapN, h2]
    · cases hasId h id with
      | true => exact h4
      | false =>
        intro x hx
        rcases List.mem_cons.1 hx with rfl | hx
        · exact hid
        · exact h4 x hx
  | (id, none) :: l, h, hs, ho => by
    have hid := ho _ (List.mem_cons_self ..)
    obtain ⟨h1, h2, h3, h4⟩ := outs_ren l (del h id) (ids_del h id hs) (fun p hp => ho p (List.mem_cons_of_mem _ hp))
    simp only [renU, applyO, newIds]
    rw [del_ren inj h hs id hid]
    exact ⟨h1, h2, h3, h4⟩
end
def outIds : List (Nat × Option Ob) → List Nat
  | [] => []
  | (id, _) :: l => id :: outIds l
theorem outIds_mem : ∀ {l : List (Nat × Option Ob)} {p : Nat × Option Ob}, p ∈ l → p.1 ∈ outIds l
  | [], p, h => by cases h
  | (id, o) :: l, p, h => by
    rcases List.mem_cons.1 h with rfl | h
    · exact List.mem_cons_self ..
    · exact List.mem_cons_of_mem _ (outIds_mem h)
/-- a contract under other names -/
theorem CallOK.ren {P : Program} {g : FuncId} {args : List AV} {h : Hp} {ret : AV} {outs : List (Nat × Option Ob)} (c : CallOK P g args h ret outs) (σ : List (Nat × Nat)) (N : List Nat) (hN : subB (idsOf h) N = true) (hO : subB (outIds outs) N = true) (hnd : nodupB (mapN σ N) = true)
    (hca : closedL N args = true) (hch : closedH N h) (hcr : closedV N ret = true) (hco : closedH N (applyO h outs)) : CallOK P g (renL σ args) (renH σ h) (renV σ ret) (renU σ outs) := by
  refine ⟨c.1, fun E W cargs hargs rh hn => ?_⟩
  have inj : ∀ a b, a ∈ N → b ∈ N → rn σ a = rn σ b → a = b := fun a b ha hb e => by
    have hd := nodupB_ok hnd
    rw [mapN_eq] at hd
    obtain ⟨i, hi, rfl⟩ := List.getElem_of_mem ha
    obtain ⟨j, hj, rfl⟩ := List.getElem_of_mem hb
    by_cases hij : i = j
    · subst hij; rfl
    · exfalso
      have := (List.nodup_iff_pairwise_ne.1 hd)
      rcases Nat.lt_or_gt_of_ne hij with hlt | hlt
      · exact List.pairwise_iff_getElem.1 this i j (by simpa using hi) (by simpa using hj) hlt (by simpa using e)
      · exact List.pairwise_iff_getElem.1 this j i (by simpa using hj) (by simpa using hi) hlt (by simpa using e.symm)
  have hs : ∀ id ∈ idsOf h, id ∈ N := subB_ok hN
  have ho : ∀ p ∈ outs, p.1 ∈ N := fun p hp => subB_ok hO _ (outIds_mem hp)
  obtain ⟨o1, o2, o3, o4⟩ := outs_ren inj outs h hs ho
  rw [o2, mapN_eq] at hn
  rw [o1, o2]
  have e1 : ∀ id, id ∈ N → (fun id => if id ∈ N then E (rn σ id) else none : Env) id = E (rn σ id) := fun id hid => by simp only [if_pos hid]
  have rh1 : RH (fun id => if id ∈ N then E (rn σ id) else none : Env) h W := by
    refine ⟨fun id o hf => ?_, fun i j o p hi hj hne hw b hb hb2 => ?_⟩
    · have hid := hs id (idsOf_mem.2 (by simp [hasId, hf]))
      refine (renO_iff e1 hid o (closedH_at hch id o hf).2).1 (rh.holds _ _ ?_)
      rw [find_ren inj h hs id hid, hf]; rfl
    · have hii := hs i (idsOf_mem.2 (by simp [hasId, hi]))
      have hjj := hs j (idsOf_mem.2 (by simp [hasId, hj]))
      refine rh.apart (rn σ i) (rn σ j) (renO σ o) (renO σ p) (by rw [find_ren inj h hs i hii, hi]; rfl) (by rw [find_ren inj h hs j hjj, hj]; rfl) (fun e => hne (inj i j hii hjj e)) (by rw [renO_owned]; exact hw) b ?_ ?_
      · exact hb.congr (renO_bx σ o) (by simp [blkOf, if_pos hii])
      · exact hb2.congr (renO_bx σ p) (by simp [blkOf, if_pos hjj])
  refine (c.2 _ W cargs ((renL_iff e1 args cargs hca).1 hargs) rh1 (fun id hid => by
    simp only [if_pos (o4 id hid)]
    exact hn _ (List.mem_map.2 ⟨id, hid, rfl⟩))).mono ?_
  rintro e W' ⟨cv, E1', rfl, hx, hv, hh, hm⟩
  -- the names that are new, the other way round
  obtain ⟨E', hE'⟩ : ∃ E' : Env, ∀ y, E' y = match (newIds h outs).find? (fun i => rn σ i == y) with | some i => E1' i | none => E y := ⟨fun y => match (newIds h outs).find? (fun i => rn σ i == y) with | some i => E1' i | none => E y, fun _ => rfl⟩
  have e2 : ∀ id, id ∈ N → E1' id = E' (rn σ id) := fun id hid => by
    rw [hE']
    cases hq : (newIds h outs).find? (fun i => rn σ i == rn σ id) with
    | some i =>
      have h1 := List.find?_some hq
      have h2 := List.mem_of_find?_eq_some hq
      rw [inj i id (o4 i h2) hid (by simpa using h1)]
    | none =>
      have hnid : id ∉ newIds h outs := fun hm => by
        have := List.find?_eq_none.1 hq id hm
        simp at this
      dsimp only
      cases he : E (rn σ id) with
      | some x => exact hx.1 id x (by simp only [if_pos hid, he])
      | none =>
        cases he1 : E1' id with
        | none => rfl
        | some x =>
          rcases hx.2 id (by rw [he1]; simp) with h1 | h1
          · simp only [if_pos hid, he] at h1; exact absurd rfl h1
          · exact absurd h1 hnid
  refine ⟨cv, E', rfl, ⟨fun y x hy => ?_, fun y hy => ?_⟩, (renV_iff e2 ret cv hcr).2 hv, ⟨fun y o' hf => ?_, fun y z o' p' hy hz hne hw b hb hb2 => ?_⟩, ⟨hm.os, hm.tape, hm.output, hm.size, fun b hb hno => ?_, fun y o' b hf hb => ?_⟩⟩
  · rw [hE']
    cases hq : (newIds h outs).find? (fun i => rn σ i == y) with
    | some i =>
      have h1 := List.find?_some hq
      have h2 := List.mem_of_find?_eq_some hq
      rw [hn y (List.mem_map.2 ⟨i, h2, by simpa using h1⟩)] at hy
      cases hy
    | none => exact hy
  · rw [hE'] at hy
    cases hq : (newIds h outs).find? (fun i => rn σ i == y) with
    | some i =>
      right
      rw [mapN_eq]
      exact List.mem_map.2 ⟨i, List.mem_of_find?_eq_some hq, by simpa using List.find?_some hq⟩
    | none => rw [hq] at hy; exact .inl hy
  · obtain ⟨id, hid, rfl⟩ := ren_ids _ _ _ hf
    have hidN := o3 id hid
    rw [find_ren inj _ o3 id hidN] at hf
    cases hfo : find (applyO h outs) id with
    | none => rw [hfo] at hf; cases hf
    | some o =>
      rw [hfo] at hf
      simp only [Option.map_some, Option.some.injEq] at hf
      rw [← hf]
      exact (renO_iff e2 hidN o (closedH_at hco id o hfo).2).2 (hh.holds id o hfo)
  · obtain ⟨i, hi, rfl⟩ := ren_ids _ _ _ hy
    obtain ⟨j, hj, rfl⟩ := ren_ids _ _ _ hz
    rw [find_ren inj _ o3 i (o3 i hi)] at hy
    rw [find_ren inj _ o3 j (o3 j hj)] at hz
    cases hfi : find (applyO h outs) i with
    | none => rw [hfi] at hy; cases hy
    | some o =>
      cases hfj : find (applyO h outs) j with
      | none => rw [hfj] at hz; cases hz
      | some p =>
        rw [hfi] at hy
        rw [hfj] at hz
        simp only [Option.map_some, Option.some.injEq] at hy hz
        rw [← hy, renO_owned] at hw
        rw [← hy] at hb
        rw [← hz] at hb2
        have hbb : ∀ k, k ∈ N → blkOf E1' k = blkOf E' (rn σ k) := fun k hk => by simp only [blkOf, e2 k hk]
        exact hh.apart i j o p hfi hfj (fun e => hne (by rw [e])) hw b (hb.congr (renO_bx σ o).symm (hbb i (o3 i hi))) (hb2.congr (renO_bx σ p).symm (hbb j (o3 j hj)))
  · refine hm.old b hb fun id o hf hw hbb => ?_
    have hid := hs id (idsOf_mem.2 (by simp [hasId, hf]))
    exact hno (rn σ id) (renO σ o) (by rw [find_ren inj h hs id hid, hf]; rfl) (by rw [renO_owned]; exact hw) (hbb.congr (renO_bx σ o) (by simp [blkOf, if_pos hid]))
  · obtain ⟨id, hid, rfl⟩ := ren_ids _ _ _ hf
    have hidN := o3 id hid
    rw [find_ren inj _ o3 id hidN] at hf
    cases hfo : find (applyO h outs) id with
    | none => rw [hfo] at hf; cases hf
    | some o =>
      rw [hfo] at hf
      simp only [Option.map_some, Option.some.injEq] at hf
      have hbb : Foot E1' W' id o b := by
        have := e2 id hidN
        rw [← hf] at hb
        exact hb.congr (renO_bx σ o).symm (by simp only [blkOf, this])
      refine (hm.own id o b hfo hbb).imp_left fun ⟨j, p, p1, p2, p3⟩ => ?_
      have hj := hs j (idsOf_mem.2 (by simp [hasId, p1]))
      exact ⟨rn σ j, renO σ p, by rw [find_ren inj h hs j hj, p1]; rfl, fun hw => by rw [renO_owned]; exact p2 (by rw [← renO_owned σ, hf]; exact hw), p3.congr (renO_bx σ p) (by simp [blkOf, if_pos hj])⟩
end Go.Proofs.Ytbgbjgedjmhcaaa
