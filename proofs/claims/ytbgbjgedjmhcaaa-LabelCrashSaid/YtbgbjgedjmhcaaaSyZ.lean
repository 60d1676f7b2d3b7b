/- The engine, part Z: a nil slice in a block told as a slice of the call's own that holds nothing; calls without a body. No conditions but those of each theorem. -/
import Derived.Test.YtbgbjgedjmhcaaaSyX
namespace Go.Proofs.Ytbgbjgedjmhcaaa
open Go.RowKit
set_option linter.unusedVariables false
set_option linter.unusedSimpArgs false
theorem closed_cons {ids : List Nat} {v : AV} {l : List AV} (h : closedV ids v = true) (k : closedL ids l = true) : closedL ids (v :: l) = true := by simp only [closedL, h, k, Bool.and_self]
section
variable {P : Program} {f : FuncId} {h0 : Hp} {ret : AV} {outs : List (Nat × Option Ob)} {todo : List Item} {dom : List Nat} {sl : List AV} {hp : Hp}
/-- a slice of the call's own whose rows tell less -/
theorem Safe.weak {ty es n : Nat} {row : Nat → List AV} (id : Nat) (row' : Nat → List AV) (hf : find hp id = some (.vec ty es n row)) (hw : ∀ (E : Env) q c, q < n → RVs E (row q) c → RVs E (row' q) c)
    (h : Safe P f h0 ret outs todo ⟨sl, upd hp id (.vec ty es n row')⟩ dom) : Safe P f h0 ret outs todo ⟨sl, hp⟩ dom := by
  intro E0 W0 E W a b cs h1 h2 h3 h4 h5 h6 h7 h8
  have hrel : ∀ x o, find (upd hp id (.vec ty es n row')) x = some o → ∃ o', find hp x = some o' ∧ o'.owned = o.owned ∧ o'.bx = o.bx := fun x o ho => by
    rw [find_upd] at ho
    by_cases e : id = x
    · subst e
      rw [if_pos rfl] at ho
      obtain rfl := Option.some.inj ho
      exact ⟨_, hf, rfl, rfl⟩
    · rw [if_neg e] at ho
      exact ⟨o, ho, rfl, rfl⟩
  have rh : RH E (upd hp id (.vec ty es n row')) W := by
    refine ⟨fun x o ho => ?_, fun i j o p hi hj hne hw' c hc hc2 => ?_⟩
    · rw [find_upd] at ho
      by_cases e : id = x
      · subst e
        rw [if_pos rfl] at ho
        obtain rfl := Option.some.inj ho
        obtain ⟨b1, k1, xs, g1, g2, g3, g4⟩ := h6.hp.holds id _ hf
        exact ⟨b1, k1, xs, g1, g2, g3, fun q hq => hw E q _ hq (g4 q hq)⟩
      · rw [if_neg e] at ho
        exact h6.hp.holds x o ho
    · obtain ⟨o', i1, i2, i3⟩ := hrel i o hi
      obtain ⟨p', j1, j2, j3⟩ := hrel j p hj
      exact h6.hp.apart i j o' p' i1 j1 hne (i2.trans hw') c (hc.congr i3 rfl) (hc2.congr j3 rfl)
  exact h E0 W0 E W a b cs h1 h2 h3 h4 h5 ⟨h6.size, h6.sl, h6.df, rh⟩ ⟨h7.os, h7.tape, h7.output, h7.size, h7.old, fun x o c ho hb => by
    obtain ⟨o', i1, i2, i3⟩ := hrel x o ho
    refine (h7.own x o' c i1 (hb.congr i3 rfl)).imp_left fun ⟨i, p, p1, p2, p3⟩ => ⟨i, p, p1, fun h => p2 (i2.trans h), p3⟩⟩ h8
/-- a nil slice in a cell of a block as a slice of the call's own that holds nothing -/
theorem Safe.nilCell (bid j id ty es : Nat) (row : Nat → List AV) {bty : Nat} {cs : List AV} (hf : find hp bid = some (.blk bty cs)) (hs : nth cs j = some (.val (.slice none 0 0))) (hid : dom.contains id = false) (hdm : closedH dom hp)
    (h : Safe P f h0 ret outs todo ⟨sl, (id, .vec ty es 0 row) :: upd hp bid (.blk bty (setN cs j (.sl id 0 es 0 none)))⟩ (id :: dom)) (hz : subB (idsOf h0) dom = true) : Safe P f h0 ret outs todo ⟨sl, hp⟩ dom := by
  intro E0 W0 E W a b cs' h1 h2 h3 h4 h5 h6 h7 h8
  have hn : E id = none := by
    cases he : E id with
    | none => rfl
    | some x =>
      have := h8 id (by rw [he]; simp)
      rw [List.contains_iff_mem.2 this] at hid; cases hid
  have hx := nw_set E id (none, 0) hn
  have hbid : bid ≠ id := fun e => by
    subst e
    have := (closedH_at hdm bid _ hf).1
    rw [List.contains_iff_mem.2 this] at hid; cases hid
  have hfind : ∀ x, find ((id, .vec ty es 0 row) :: upd hp bid (.blk bty (setN cs j (.sl id 0 es 0 none)))) x = if id = x then some (.vec ty es 0 row) else if bid = x then some (.blk bty (setN cs j (.sl id 0 es 0 none))) else find hp x := fun x => by
    simp only [find, find_upd, beq_iff_eq]
  have hbl : blkOf (fun y => if y = id then some (none, 0) else E y : Env) id = none := by simp [blkOf]
  have hblo : ∀ x, x ≠ id → blkOf (fun y => if y = id then some (none, 0) else E y : Env) x = blkOf E x := fun x hx => by simp only [blkOf, if_neg hx]
  have hrel : ∀ x o, x ≠ id → find ((id, .vec ty es 0 row) :: upd hp bid (.blk bty (setN cs j (.sl id 0 es 0 none)))) x = some o → ∃ o', find hp x = some o' ∧ o'.owned = o.owned ∧ o'.bx = o.bx := fun x o hxi ho => by
    rw [hfind, if_neg (fun e => hxi e.symm)] at ho
    by_cases e : bid = x
    · subst e
      rw [if_pos rfl] at ho
      obtain rfl := Option.some.inj ho
      exact ⟨_, hf, rfl, rfl⟩
    · rw [if_neg e] at ho
      exact ⟨o, ho, rfl, rfl⟩
  have rh : RH (fun y => if y = id then some (none, 0) else E y : Env) ((id, .vec ty es 0 row) :: upd hp bid (.blk bty (setN cs j (.sl id 0 es 0 none)))) W := by
    refine ⟨fun x o ho => ?_, fun i j o p hi hj hne hw b hb hb2 => ?_⟩
    · rw [hfind] at ho
      by_cases e : id = x
      · subst e
        rw [if_pos rfl] at ho
        obtain rfl := Option.some.inj ho
        exact ⟨none, 0, [], by simp, World.ownsRow_nil _ _ _ _, (fun u hu => by cases hu), fun q hq => by omega⟩
      · rw [if_neg e] at ho
        by_cases e2 : bid = x
        · subst e2
          rw [if_pos rfl] at ho
          obtain rfl := Option.some.inj ho
          obtain ⟨b1, k1, xs, g1, g2, g3, g4⟩ := h6.hp.holds bid _ hf
          refine ⟨b1, k1, xs, hx.1 _ _ g1, g2, RVs.of ?_ fun q x y hq hy => ?_, g4⟩
          · rw [setN_eq, List.length_set]; exact g3.length
          · rw [nth_eq, setN_eq, List.getElem?_set] at hq
            by_cases e3 : j = q
            · subst e3
              rw [if_pos rfl] at hq
              split at hq
              · simp only [Option.some.injEq] at hq
                subst hq
                obtain ⟨y', hy', hy2⟩ := g3.get j _ hs
                rw [hy] at hy'
                obtain rfl := Option.some.inj hy'
                simp only [RV] at hy2 ⊢
                exact ⟨none, 0, by simp, none, hy2, rfl, rfl⟩
              · cases hq
            · rw [if_neg e3] at hq
              obtain ⟨y', hy', hy2⟩ := g3.get q x (by rw [nth_eq]; exact hq)
              rw [hy] at hy'
              obtain rfl := Option.some.inj hy'
              exact RV.mono hx.1 _ _ hy2
        · rw [if_neg e2] at ho
          exact (h6.hp.holds x o ho).mono hx.1
    · by_cases ei : i = id
      · subst ei; exact hb.none hbl
      · by_cases ej : j = id
        · subst ej; exact hb2.none hbl
        · obtain ⟨o', k1, k2, k5⟩ := hrel i o ei hi
          obtain ⟨p', k3, k4, k6⟩ := hrel j p ej hj
          exact h6.hp.apart i j o' p' k1 k3 hne (by rw [k2]; exact hw) b (hb.congr k5 (hblo i ei).symm) (hb2.congr k6 (hblo j ej).symm)
  refine h E0 W0 _ W a b cs' h1 h2 h3 h4 (fun x hx' => ?_) ⟨h6.size, fun u v hu => ?_, h6.df, rh⟩ ⟨h7.os, h7.tape, h7.output, h7.size, h7.old, fun x o b hf hb => ?_⟩ (fun y hy => ?_)
  · have hxd := subB_ok hz x (idsOf_mem.2 hx')
    have : x ≠ id := fun e => by subst e; rw [List.contains_iff_mem.2 hxd] at hid; cases hid
    simp only [if_neg this]; exact h5 x hx'
  · obtain ⟨c, c1, c2⟩ := h6.sl u v hu
    exact ⟨c, c1, RV.mono hx.1 _ _ c2⟩
  · by_cases e : x = id
    · subst e; exact (hb.none hbl).elim
    · obtain ⟨o', k1, k2, k5⟩ := hrel x o e hf
      rcases h7.own x o' b k1 (hb.congr k5 (hblo x e).symm) with ⟨i0, o0, q1, q2, q3⟩ | q
      · exact .inl ⟨i0, o0, q1, fun hw => q2 (by rw [k2]; exact hw), q3⟩
      · exact .inr q
  · by_cases e : y = id
    · rw [e]; exact List.mem_cons_self ..
    · simp only [if_neg e] at hy
      exact List.mem_cons_of_mem _ (h8 y hy)
end
end Go.Proofs.Ytbgbjgedjmhcaaa
