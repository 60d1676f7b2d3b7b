/- A call that only reads an array of the caller's own. No conditions but those of each theorem. -/
import Derived.Test.YtbgbjgedjmhcaaaSyZ
namespace Go.Proofs.Ytbgbjgedjmhcaaa
open Go.RowKit
set_option linter.unusedVariables false
set_option linter.unusedSimpArgs false
/-- what the call only reads may be an array of the caller's own -/
theorem CallOK.arr {P : Program} {g : FuncId} {args : List AV} {h : Hp} {ret : AV} {outs : List (Nat × Option Ob)} (ty id : Nat) (cs : List AV) {row : Nat → List AV} (hrow : ∀ q, q < cs.length → row q = (cs.drop q).take 1) (hpl : allB plainV cs = true) (hf : find h id = some (.ro 1 cs.length row)) (hn : notIn id (outIds outs) = true) (ha : allOwned outs = true) (c : CallOK P g args h ret outs) : CallOK P g args (upd h id (.blk ty cs)) ret outs := by
  have hn' : id ∉ outIds outs := fun hm => by have := allB_ok hn id hm; simp at this
  have hh : hasId h id = true := by unfold hasId; rw [hf]
  obtain ⟨a1, a2, a3⟩ := apply_beside id (.blk ty cs) outs h (upd h id (.blk ty cs)) hn' hh (fun x => by
    rw [find_upd]
    by_cases e : id = x
    · rw [if_pos e, if_pos e.symm]
    · rw [if_neg e, if_neg (fun e' => e e'.symm)])
  refine ⟨c.1, fun E W cargs hargs rh hfr => ?_⟩
  rw [a2] at hfr ⊢
  have hv := rh.holds id (.blk ty cs) (by rw [find_upd, if_pos rfl])
  have hro : Holds E W id (.ro 1 cs.length row) := by
    obtain ⟨b, k, xs, h1, h2, h3, h4⟩ := hv
    have hl := h3.length
    refine ⟨some ⟨b, 0, none⟩, k, xs, h1, by omega, .inr ⟨_, rfl, (Array.getElem?_eq_some_iff.1 h2).1, by omega, fun j u hu => ?_⟩, plain_one cs xs (allB_ok hpl) h3, fun p hp => ?_⟩
    · rw [cell_of_row W b _ _ _ _ h2]
      simpa using hu
    · rw [hrow p hp]
      unfold cellsAt
      rw [Nat.mul_one]
      exact (h3.drop p).take 1
  have hrest : ∀ x o, x ≠ id → find h x = some o → find (upd h id (.blk ty cs)) x = some o := fun x o hx ho => by
    rw [find_upd, if_neg (fun e => hx e.symm)]; exact ho
  have hid : find (upd h id (.blk ty cs)) id = some (.blk ty cs) := by rw [find_upd, if_pos rfl]
  have rh0 : RH E h W := by
    refine ⟨fun x o ho => ?_, fun i j o p hi hj hne hw b hb hb2 => ?_⟩
    · by_cases e : x = id
      · subst e; rw [hf] at ho; obtain rfl := Option.some.inj ho; exact hro
      · exact rh.holds x o (hrest x o e ho)
    · have hi' : i ≠ id := fun e => by subst e; rw [hf] at hi; obtain rfl := Option.some.inj hi; cases hw
      by_cases e : j = id
      · subst e
        rw [hf] at hj; obtain rfl := Option.some.inj hj
        exact rh.apart i j o _ (hrest i o hi' hi) hid hne hw b hb (hb2.congr rfl rfl)
      · exact rh.apart i j o p (hrest i o hi' hi) (hrest j p e hj) hne hw b hb hb2
  refine (c.2 E W cargs hargs rh0 hfr).mono ?_
  rintro e W' ⟨cv, E', rfl, hx, hvr, hh', hm⟩
  have hbid : blkOf E' id = blkOf E id := by
    obtain ⟨z, hz⟩ := hv.bound
    exact blkOf_ext hx.1 hz
  have hvec' : Holds E' W' id (.blk ty cs) := by
    refine (hv.mono hx.1).kept hm.size fun b hb => ?_
    have hb := hb.cg hbid.symm
    refine hm.old b (Holds.blk_lt hb hv) fun i o hi hw hib => ?_
    have hi' : i ≠ id := fun e => by subst e; rw [hf] at hi; obtain rfl := Option.some.inj hi; cases hw
    exact rh.apart i id o _ (hrest i o hi' hi) hid hi' hw b hib hb
  have hold : ∀ x o b, x ≠ id → find (applyO h outs) x = some o → Foot E' W' x o b → o.owned = true → ¬ Foot E' W' id (.blk ty cs) b := fun x o b hx' ho hb hw hb2 => by
    have hb2 : Foot E W id (.blk ty cs) b := (hb2.cg hbid.symm).plain rfl
    rcases hm.own x o b ho hb with ⟨i, p, p1, p2, p3⟩ | hge
    · have hp := p2 hw
      have hi' : i ≠ id := fun e => by subst e; rw [hf] at p1; obtain rfl := Option.some.inj p1; cases hp
      exact rh.apart i id p _ (hrest i p hi' p1) hid hi' hp b p3 hb2
    · have := Holds.blk_lt hb2 hv; omega
  refine ⟨cv, E', rfl, hx, hvr, ⟨fun x o ho => ?_, fun i j o p hi hj hne hw b hb hb2 => ?_⟩, ⟨hm.os, hm.tape, hm.output, hm.size, fun b hb hno => hm.old b hb fun i o hi hw => ?_, fun x o b ho hb => ?_⟩⟩
  · rw [a1] at ho
    by_cases e : x = id
    · subst e; rw [if_pos rfl] at ho; obtain rfl := Option.some.inj ho; exact hvec'
    · rw [if_neg e] at ho; exact hh'.holds x o ho
  · rw [a1] at hi hj
    by_cases ei : i = id
    · subst ei
      rw [if_pos rfl] at hi
      obtain rfl := Option.some.inj hi
      rw [if_neg (fun e => hne e.symm)] at hj
      -- the other lies in a block that is not the slice's
      by_cases hwp : p.owned = true
      · exact hold j p b (fun e => hne e.symm) hj hb2 hwp hb
      · have hpo : p.owned = false := by simpa using hwp
        have hj0 := ro_old outs h j p ha hj hpo
        have hje : j ≠ i := fun e => hne e.symm
        obtain ⟨z, hz⟩ := (rh0.holds j p hj0).bound
        have hb2 : Foot E W j p b := (hb2.cg (blkOf_ext hx.1 hz).symm).plain (by cases p <;> first | rfl | cases hpo)
        exact rh.apart i j _ p hid (hrest j p hje hj0) hne rfl b ((hb.cg hbid.symm).plain rfl) hb2
    · rw [if_neg ei] at hi
      by_cases ej : j = id
      · subst ej; rw [if_pos rfl] at hj; obtain rfl := Option.some.inj hj; exact hold i o b ei hi hb hw hb2
      · rw [if_neg ej] at hj; exact hh'.apart i j o p hi hj hne hw b hb hb2
  · have hi' : i ≠ id := fun e => by subst e; rw [hf] at hi; obtain rfl := Option.some.inj hi; cases hw
    exact hno i o (hrest i o hi' hi) hw
  · rw [a1] at ho
    by_cases e : x = id
    · subst e
      rw [if_pos rfl] at ho
      obtain rfl := Option.some.inj ho
      exact .inl ⟨x, _, hid, fun h => h, (hb.cg hbid.symm).plain rfl⟩
    · rw [if_neg e] at ho
      refine (hm.own x o b ho hb).imp_left fun ⟨i, p, p1, p2, p3⟩ => ?_
      by_cases ei : i = id
      · subst ei; rw [hf] at p1; obtain rfl := Option.some.inj p1; exact ⟨i, _, hid, fun _ => rfl, p3⟩
      · exact ⟨i, p, hrest i p ei p1, p2, p3⟩
end Go.Proofs.Ytbgbjgedjmhcaaa
