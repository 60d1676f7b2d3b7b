/- The engine, part U: a slice of the call's own handed to a call that only reads it. No conditions but those of each theorem. -/
import Derived.Test.YtbgbjgedjmhcaaaSyR
namespace Go.Proofs.Ytbgbjgedjmhcaaa
open Go.RowKit
set_option linter.unusedVariables false
set_option linter.unusedSimpArgs false
theorem hasId_upd (h : Hp) (id : Nat) (o : Ob) (y : Nat) : hasId (upd h id o) y = (id == y || hasId h y) := by
  unfold hasId
  rw [find_upd]
  by_cases e : id = y
  · simp [e]
  · have : (id == y) = false := by simpa using e
    rw [if_neg e, this]; rfl
theorem hasId_del (h : Hp) (id : Nat) (y : Nat) : hasId (del h id) y = (!(id == y) && hasId h y) := by
  unfold hasId
  rw [find_del]
  by_cases e : id = y
  · simp [e]
  · have : (id == y) = false := by simpa using e
    rw [if_neg e, this]; rfl
theorem apply_beside (id : Nat) (v : Ob) : ∀ (outs : List (Nat × Option Ob)) (h h' : Hp), id ∉ outIds outs → hasId h id = true → (∀ x, find h' x = if x = id then some v else find h x) →
    (∀ x, find (applyO h' outs) x = if x = id then some v else find (applyO h outs) x) ∧ newIds h' outs = newIds h outs ∧ id ∉ newIds h outs
  | [], h, h', _, _, hf => ⟨hf, rfl, fun h => by cases h⟩
  | (k, some o) :: l, h, h', hn, hh, hf => by
    simp only [outIds, List.mem_cons, not_or] at hn
    have hk : hasId h' k = hasId h k := by
      unfold hasId
      rw [hf, if_neg (fun e => hn.1 e.symm)]
    obtain ⟨h1, h2, h3⟩ := apply_beside id v l (upd h k o) (upd h' k o) hn.2 (by rw [hasId_upd, hh]; simp) (fun x => by
      rw [find_upd, find_upd, hf]
      by_cases e : k = x
      · subst e; rw [if_pos rfl, if_pos rfl, if_neg (fun e => hn.1 e.symm)]
      · rw [if_neg e, if_neg e])
    simp only [applyO, newIds, hk]
    refine ⟨h1, by rw [h2], ?_⟩
    cases hasId h k with
    | true => exact h3
    | false => exact fun hm => (List.mem_cons.1 hm).elim hn.1 h3
  | (k, none) :: l, h, h', hn, hh, hf => by
    simp only [outIds, List.mem_cons, not_or] at hn
    obtain ⟨h1, h2, h3⟩ := apply_beside id v l (del h k) (del h' k) hn.2 (by
      have : (k == id) = false := by simpa using fun e => hn.1 e.symm
      rw [hasId_del, hh, this]; rfl) (fun x => by
      rw [find_del, find_del, hf]
      by_cases e : k = x
      · subst e; rw [if_pos rfl, if_pos rfl, if_neg (fun e => hn.1 e.symm)]
      · rw [if_neg e, if_neg e])
    simp only [applyO, newIds]
    exact ⟨h1, h2, h3⟩
theorem find_apply_id (id : Nat) : ∀ (outs : List (Nat × Option Ob)) (h : Hp), id ∉ outIds outs → find (applyO h outs) id = find h id
  | [], h, _ => rfl
  | (k, some o) :: l, h, hn => by
    simp only [outIds, List.mem_cons, not_or] at hn
    simp only [applyO]
    rw [find_apply_id id l _ hn.2, find_upd, if_neg (fun e => hn.1 e.symm)]
  | (k, none) :: l, h, hn => by
    simp only [outIds, List.mem_cons, not_or] at hn
    simp only [applyO]
    rw [find_apply_id id l _ hn.2, find_del, if_neg (fun e => hn.1 e.symm)]
def allOwned : List (Nat × Option Ob) → Bool
  | [] => true
  | (_, some o) :: l => match o.owned with
    | true => allOwned l
    | false => false
  | (_, none) :: l => allOwned l
theorem ro_old : ∀ (outs : List (Nat × Option Ob)) (h : Hp) (j : Nat) (p : Ob), allOwned outs = true → find (applyO h outs) j = some p → p.owned = false → find h j = some p
  | [], h, j, p, _, hf, _ => hf
  | (k, some o) :: l, h, j, p, ha, hf, hp => by
    unfold allOwned at ha
    cases ho : o.owned with
    | false => rw [ho] at ha; cases ha
    | true =>
      rw [ho] at ha
      have := ro_old l (upd h k o) j p ha hf hp
      rw [find_upd] at this
      by_cases e : k = j
      · rw [if_pos e] at this; obtain rfl := Option.some.inj this; rw [ho] at hp; cases hp
      · rwa [if_neg e] at this
  | (k, none) :: l, h, j, p, ha, hf, hp => by
    have := ro_old l (del h k) j p ha hf hp
    rw [find_del] at this
    by_cases e : k = j
    · rw [if_pos e] at this; cases this
    · rwa [if_neg e] at this
def notIn (id : Nat) (l : List Nat) : Bool := allB (fun x => !(x == id)) l
/-- what the call only reads may be the caller's own -/
theorem CallOK.own {P : Program} {g : FuncId} {args : List AV} {h : Hp} {ret : AV} {outs : List (Nat × Option Ob)} (ty id : Nat) {es n : Nat} {row : Nat → List AV} (hf : find h id = some (.ro es n row)) (hn : notIn id (outIds outs) = true) (ha : allOwned outs = true) (c : CallOK P g args h ret outs) : CallOK P g args (upd h id (.vec ty es n row)) ret outs := by
  have hn' : id ∉ outIds outs := fun hm => by have := allB_ok hn id hm; simp at this
  have hh : hasId h id = true := by unfold hasId; rw [hf]
  obtain ⟨a1, a2, a3⟩ := apply_beside id (.vec ty es n row) outs h (upd h id (.vec ty es n row)) hn' hh (fun x => by
    rw [find_upd]
    by_cases e : id = x
    · rw [if_pos e, if_pos e.symm]
    · rw [if_neg e, if_neg (fun e' => e e'.symm)])
  refine ⟨c.1, fun E W cargs hargs rh hfr => ?_⟩
  rw [a2] at hfr ⊢
  have hv := rh.holds id (.vec ty es n row) (by rw [find_upd, if_pos rfl])
  have hro : Holds E W id (.ro es n row) := by
    obtain ⟨b, k, xs, h1, h2, h3, h4⟩ := hv
    refine ⟨b, k, xs, h1, h2.1, ?_, h3, h4⟩
    cases b with
    | none =>
      rcases h2.2 with ⟨hv, h0⟩ | ⟨g, cap, cur, hv, _⟩
      · simp only [Value.slice.injEq] at hv; exact .inl ⟨rfl, h0, hv.2.2⟩
      · simp at hv
    | some a =>
      have hlt := (h2.lt a.block rfl).2
      have hc := h2.cells (g := a.block) rfl
      have hoff : a.off = 0 ∧ n ≤ k := by
        rcases h2.2 with ⟨hv, _⟩ | ⟨g, cap, cur, hv, _, _, hle, _⟩
        · simp at hv
        · simp only [Value.slice.injEq, Option.some.injEq, true_and] at hv; rw [hv.1, hv.2]; exact ⟨rfl, hle⟩
      refine .inr ⟨a, rfl, hlt, hoff.2, fun j u hu => ?_⟩
      have := hc j u hu
      rw [add_at (⟨a.block, 0, none⟩ : Addr)] at this
      rw [hoff.1]; exact this
  have hrest : ∀ x o, x ≠ id → find h x = some o → find (upd h id (.vec ty es n row)) x = some o := fun x o hx ho => by
    rw [find_upd, if_neg (fun e => hx e.symm)]; exact ho
  have hid : find (upd h id (.vec ty es n row)) id = some (.vec ty es n row) := by rw [find_upd, if_pos rfl]
  have rh0 : RH E h W := by
    refine ⟨fun x o ho => ?_, fun i j o p hi hj hne hw b hb hb2 => ?_⟩
    · by_cases e : x = id
      · subst e; rw [hf] at ho; obtain rfl := Option.some.inj ho; exact hro
      · exact rh.holds x o (hrest x o e ho)
    · have hi' : i ≠ id := fun e => by subst e; rw [hf] at hi; obtain rfl := Option.some.inj hi; cases hw
      by_cases e : j = id
      · subst e
        rw [hf] at hj; obtain rfl := Option.some.inj hj
        exact rh.apart i j o _ (hrest i o hi' hi) hid hne hw b hb (hb2.congr rfl rfl)
      · exact rh.apart i j o p (hrest i o hi' hi) (hrest j p e hj) hne hw b hb hb2
  refine (c.2 E W cargs hargs rh0 hfr).mono ?_
  rintro e W' ⟨cv, E', rfl, hx, hvr, hh', hm⟩
  have hbid : blkOf E' id = blkOf E id := by
    obtain ⟨z, hz⟩ := hv.bound
    exact blkOf_ext hx.1 hz
  have hvec' : Holds E' W' id (.vec ty es n row) := by
    refine (hv.mono hx.1).kept hm.size fun b hb => ?_
    have hb := hb.cg hbid.symm
    refine hm.old b (Holds.blk_lt hb hv) fun i o hi hw hib => ?_
    have hi' : i ≠ id := fun e => by subst e; rw [hf] at hi; obtain rfl := Option.some.inj hi; cases hw
    exact rh.apart i id o _ (hrest i o hi' hi) hid hi' hw b hib hb
  have hold : ∀ x o b, x ≠ id → find (applyO h outs) x = some o → Foot E' W' x o b → o.owned = true → ¬ Foot E' W' id (.vec ty es n row) b := fun x o b hx' ho hb hw hb2 => by
    have hb2 : Foot E W id (.vec ty es n row) b := (hb2.cg hbid.symm).plain rfl
    rcases hm.own x o b ho hb with ⟨i, p, p1, p2, p3⟩ | hge
    · have hp := p2 hw
      have hi' : i ≠ id := fun e => by subst e; rw [hf] at p1; obtain rfl := Option.some.inj p1; cases hp
      exact rh.apart i id p _ (hrest i p hi' p1) hid hi' hp b p3 hb2
    · have := Holds.blk_lt hb2 hv; omega
  refine ⟨cv, E', rfl, hx, hvr, ⟨fun x o ho => ?_, fun i j o p hi hj hne hw b hb hb2 => ?_⟩, ⟨hm.os, hm.tape, hm.output, hm.size, fun b hb hno => hm.old b hb fun i o hi hw => ?_, fun x o b ho hb => ?_⟩⟩
  · rw [a1] at ho
    by_cases e : x = id
    · subst e; rw [if_pos rfl] at ho; obtain rfl := Option.some.inj ho; exact hvec'
    · rw [if_neg e] at ho; exact hh'.holds x o ho
  · rw [a1] at hi hj
    by_cases ei : i = id
    · subst ei
      rw [if_pos rfl] at hi
      obtain rfl := Option.some.inj hi
      rw [if_neg (fun e => hne e.symm)] at hj
      -- the other lies in a block that is not the slice's
      by_cases hwp : p.owned = true
      · exact hold j p b (fun e => hne e.symm) hj hb2 hwp hb
      · have hpo : p.owned = false := by simpa using hwp
        have hj0 := ro_old outs h j p ha hj hpo
        have hje : j ≠ i := fun e => hne e.symm
        obtain ⟨z, hz⟩ := (rh0.holds j p hj0).bound
        have hb2 : Foot E W j p b := (hb2.cg (blkOf_ext hx.1 hz).symm).plain (by cases p <;> first | rfl | cases hpo)
        exact rh.apart i j _ p hid (hrest j p hje hj0) hne rfl b ((hb.cg hbid.symm).plain rfl) hb2
    · rw [if_neg ei] at hi
      by_cases ej : j = id
      · subst ej; rw [if_pos rfl] at hj; obtain rfl := Option.some.inj hj; exact hold i o b ei hi hb hw hb2
      · rw [if_neg ej] at hj; exact hh'.apart i j o p hi hj hne hw b hb hb2
  · have hi' : i ≠ id := fun e => by subst e; rw [hf] at hi; obtain rfl := Option.some.inj hi; cases hw
    exact hno i o (hrest i o hi' hi) hw
  · rw [a1] at ho
    by_cases e : x = id
    · subst e
      rw [if_pos rfl] at ho
      obtain rfl := Option.some.inj ho
      exact .inl ⟨x, _, hid, fun h => h, (hb.cg hbid.symm).plain rfl⟩
    · rw [if_neg e] at ho
      refine (hm.own x o b ho hb).imp_left fun ⟨i, p, p1, p2, p3⟩ => ?_
      by_cases ei : i = id
      · subst ei; rw [hf] at p1; obtain rfl := Option.some.inj p1; exact ⟨i, _, hid, fun _ => rfl, p3⟩
      · exact ⟨i, p, hrest i p ei p1, p2, p3⟩
end Go.Proofs.Ytbgbjgedjmhcaaa
