/- The engine, part X: a slice of the call's own told, from one of its elements on, as one that is only read. No conditions but those of each theorem. -/
import Derived.Test.YtbgbjgedjmhcaaaSyW
namespace Go.Proofs.Ytbgbjgedjmhcaaa
open Go.RowKit
set_option linter.unusedVariables false
set_option linter.unusedSimpArgs false
set_option linter.unusedSectionVars false
mutual
theorem closedV_renN {σ : List (Nat × Nat)} {ids : List Nat} : ∀ v : AV, closedV [] v = true → closedV ids (renV σ v) = true
  | .val v, _ => rfl
  | .ptr id i es j, h => by simp [closedV] at h
  | .sl id i es n c, h => by simp [closedV] at h
  | .mp id, h => by simp [closedV] at h
  | .agg cs, h => by
    simp only [renV, closedV] at h ⊢
    exact closedL_renN cs h
  | .tup cs, h => by
    simp only [renV, closedV] at h ⊢
    exact closedL_renN cs h
  | .fn f a b, h => by
    simp only [renV, closedV, Bool.and_eq_true] at h ⊢
    exact ⟨closedL_renN a h.1, closedL_renN b h.2⟩
  | .ifc t v, h => by
    simp only [renV, closedV] at h ⊢
    exact closedV_renN v h
  | .anyB p q, _ => rfl
  | .len n, _ => rfl
  | .junk, _ => rfl
theorem closedL_renN {σ : List (Nat × Nat)} {ids : List Nat} : ∀ l : List AV, closedL [] l = true → closedL ids (renL σ l) = true
  | [], _ => rfl
  | x :: l, h => by
    simp only [closedL, renL, Bool.and_eq_true] at h ⊢
    exact ⟨closedV_renN x h.1, closedL_renN l h.2⟩
end
theorem closed_renN {σ : List (Nat × Nat)} {ids : List Nat} {r : Nat → List AV} (h : ∀ q, closedL [] (r q) = true) (q : Nat) : closedL ids (renL σ (r q)) = true := closedL_renN _ (h q)
mutual
theorem renV_id {σ : List (Nat × Nat)} : ∀ v : AV, closedV [] v = true → renV σ v = v
  | .val v, _ => rfl
  | .ptr id i es j, h => by simp [closedV] at h
  | .sl id i es n c, h => by simp [closedV] at h
  | .mp id, h => by simp [closedV] at h
  | .agg cs, h => by
    simp only [closedV] at h
    simp only [renV, renL_id cs h]
  | .tup cs, h => by
    simp only [closedV] at h
    simp only [renV, renL_id cs h]
  | .fn f a b, h => by
    simp only [closedV, Bool.and_eq_true] at h
    simp only [renV, renL_id a h.1, renL_id b h.2]
  | .ifc t v, h => by
    simp only [closedV] at h
    simp only [renV, renV_id v h]
  | .anyB p q, _ => rfl
  | .len n, _ => rfl
  | .junk, _ => rfl
theorem renL_id {σ : List (Nat × Nat)} : ∀ l : List AV, closedL [] l = true → renL σ l = l
  | [], _ => rfl
  | x :: l, h => by
    simp only [closedL, Bool.and_eq_true] at h
    simp only [renL, renV_id x h.1, renL_id l h.2]
end
theorem OSim.nlV {σ : List (Nat × Nat)} {ty es n : Nat} {row : Nat → List AV} (h : ∀ q, closedL [] (row q) = true) : OSim (some (renO σ (.vec ty es n row))) (some (.vec ty es n row)) :=
  ⟨⟨rfl, rfl, rfl, fun q _ => renL_id _ (h q)⟩, ⟨rfl, rfl, rfl, fun q _ => (renL_id _ (h q)).symm⟩⟩
theorem OSim.nlR {σ : List (Nat × Nat)} {es n : Nat} {row : Nat → List AV} (h : ∀ q, closedL [] (row q) = true) : OSim (some (renO σ (.ro es n row))) (some (.ro es n row)) :=
  ⟨⟨rfl, rfl, fun q _ => renL_id _ (h q)⟩, ⟨rfl, rfl, fun q _ => (renL_id _ (h q)).symm⟩⟩
mutual
def shV (b i : Nat) : AV → AV
  | .sl id k es n c => match id == b with
    | true => .sl id (k - i) es n c
    | false => .sl id k es n c
  | .agg cs => .agg (shL b i cs)
  | .tup cs => .tup (shL b i cs)
  | v => v
def shL (b i : Nat) : List AV → List AV
  | [] => []
  | x :: l => shV b i x :: shL b i l
end
mutual
/-- what is named beside b is among ids; slices of b begin at i or behind -/
def shOK (ids : List Nat) (b i es : Nat) : AV → Bool
  | .sl id k es' n c => match id == b with
    | true => Nat.ble i k && es' == es
    | false => ids.contains id
  | .agg cs => shOKs ids b i es cs
  | .tup cs => shOKs ids b i es cs
  | .ptr id _ _ _ => ids.contains id
  | .mp id => ids.contains id
  | .fn _ l m => closedL ids l && closedL ids m
  | .ifc _ v => closedV ids v
  | .val _ => true
  | .anyB _ _ => true
  | .len _ => true
  | .junk => true
def shOKs (ids : List Nat) (b i es : Nat) : List AV → Bool
  | [] => true
  | x :: l => shOK ids b i es x && shOKs ids b i es l
end
def shE (b i es : Nat) (E : Env) : Env := fun y => if y = b then match E b with
  | some (some a, k) => some (some ⟨a.block, a.off + i * es, none⟩, k - i)
  | x => x
  else E y
theorem shE_ne {b i es : Nat} {E : Env} {y : Nat} (h : y ≠ b) : shE b i es E y = E y := if_neg h
theorem shE_blk (b i es : Nat) (E : Env) (y : Nat) : blkOf (shE b i es E) y = blkOf E y := by
  unfold blkOf
  by_cases e : y = b
  · subst e
    unfold shE
    rw [if_pos rfl]
    cases h : E y with
    | none => rfl
    | some x =>
      obtain ⟨q, k⟩ := x
      cases q <;> rfl
  · rw [shE_ne e]
section
variable {ids : List Nat} {b i es : Nat} {E : Env} (hb : b ∉ ids)
include hb
theorem shE_ids : ∀ id, id ∈ ids → shE b i es E id = E id := fun id hid => shE_ne fun e => hb (e ▸ hid)
mutual
theorem shV_rv : ∀ (v : AV) (c : Value), shOK ids b i es v = true → RV E v c → RV (shE b i es E) (shV b i v) c
  | .sl id k es' n cc, c, h, r => by
    unfold shOK at h
    unfold shV
    by_cases e : id = b
    · subst e
      simp only [beq_self_eq_true, Bool.and_eq_true] at h ⊢
      have h1 := Nat.le_of_ble_eq_true h.1
      have h2 : es' = es := by simpa using h.2
      subst h2
      simp only [RV] at r ⊢
      obtain ⟨q, kk, he, hs⟩ := r
      cases q with
      | none =>
        obtain ⟨b', rfl, rfl, h0⟩ := hs
        refine ⟨none, kk, by unfold shE; rw [if_pos rfl, he], b', rfl, rfl, by omega⟩
      | some a =>
        obtain ⟨o, m, rfl, s1, s2, s3, s4⟩ := hs
        refine ⟨some ⟨a.block, a.off + i * es', none⟩, kk - i, by unfold shE; rw [if_pos rfl, he], o, m, rfl, s1, by omega, fun hm => ?_, ?_⟩
        · rw [s3 hm]
          have : k * es' = i * es' + (k - i) * es' := by rw [← Nat.add_mul]; congr 1; omega
          dsimp only
          omega
        · cases cc with
          | none => dsimp only at s4 ⊢; omega
          | some q => exact s4
    · have e' : (id == b) = false := by simpa using e
      rw [e'] at h ⊢
      exact RV.agree (shE_ids hb) _ _ (by simpa [closedV] using h) r
  | .agg cs, c, h, r => by
    unfold shOK at h
    unfold shV
    simp only [RV] at r ⊢
    obtain ⟨xs, rfl, r⟩ := r
    exact ⟨xs, rfl, shL_rvs cs xs h r⟩
  | .tup cs, c, h, r => by
    unfold shOK at h
    unfold shV
    simp only [RV] at r ⊢
    obtain ⟨xs, rfl, r⟩ := r
    exact ⟨xs, rfl, shL_rvs cs xs h r⟩
  | .ptr id k es' j, c, h, r => by
    unfold shOK at h
    unfold shV
    exact RV.agree (shE_ids hb) _ _ (by simpa [closedV] using h) r
  | .mp id, c, h, r => by
    unfold shOK at h
    unfold shV
    exact RV.agree (shE_ids hb) _ _ (by simpa [closedV] using h) r
  | .fn f l m, c, h, r => by
    unfold shOK at h
    unfold shV
    exact RV.agree (shE_ids hb) _ _ (by simpa [closedV] using h) r
  | .ifc t v, c, h, r => by
    unfold shOK at h
    unfold shV
    exact RV.agree (shE_ids hb) _ _ (by simpa [closedV] using h) r
  | .val v, c, _, r => by
    unfold shV
    simpa only [RV] using r
  | .anyB p q, c, _, r => by
    unfold shV
    simpa only [RV] using r
  | .len n, c, _, r => by
    unfold shV
    simpa only [RV] using r
  | .junk, c, _, r => by
    unfold shV
    simp only [RV]
theorem shL_rvs : ∀ (l : List AV) (cs : List Value), shOKs ids b i es l = true → RVs E l cs → RVs (shE b i es E) (shL b i l) cs
  | [], cs, _, r => by
    unfold shL
    simpa only [RVs] using r
  | x :: l, cs, h, r => by
    unfold shOKs at h
    unfold shL
    simp only [Bool.and_eq_true] at h
    simp only [RVs] at r ⊢
    obtain ⟨y, m, rfl, r1, r2⟩ := r
    exact ⟨y, m, rfl, shV_rv x y h.1 r1, shL_rvs l m h.2 r2⟩
end
end
def toRo (i m : Nat) : Ob → Ob
  | .vec _ es n row => .ro es m (shiftR row i)
  | o => o
def shO (b i : Nat) : Ob → Ob
  | .blk ty cs => .blk ty (shL b i cs)
  | o => o
def shH (b i m : Nat) : Hp → Hp
  | [] => []
  | (id, o) :: h => match id == b with
    | true => (id, toRo i m o) :: shH b i m h
    | false => (id, shO b i o) :: shH b i m h
def shOKO (ids : List Nat) (b i es : Nat) : Ob → Prop
  | .blk _ cs => shOKs ids b i es cs = true
  | .vec _ _ _ row => ∀ q, closedL ids (row q) = true
  | .ro _ _ row => ∀ q, closedL ids (row q) = true
  | .obj _ => True
  | .box _ => True
def shOKH (ids : List Nat) (b i es : Nat) : Hp → Prop
  | [] => True
  | (id, o) :: h => shOKO ids b i es o ∧ shOKH ids b i es h
theorem shOKH_at {ids : List Nat} {b i es : Nat} : ∀ {h : Hp}, shOKH ids b i es h → ∀ id o, find h id = some o → shOKO ids b i es o
  | [], _, id, o, e => by simp [find] at e
  | (k, x) :: h, hc, id, o, e => by
    unfold find at e
    split at e
    · obtain rfl := Option.some.inj e; exact hc.1
    · exact shOKH_at hc.2 id o e
theorem find_sh (b i m : Nat) : ∀ (h : Hp) (id : Nat), find (shH b i m h) id = (find h id).map fun o => if id = b then toRo i m o else shO b i o
  | [], id => rfl
  | (k, x) :: h, id => by
    unfold shH
    by_cases e : k = b
    · subst e
      simp only [beq_self_eq_true]
      unfold find
      by_cases e2 : k = id
      · subst e2; simp
      · have : (k == id) = false := by simpa using e2
        rw [this]
        simpa using find_sh k i m h id
    · have : (k == b) = false := by simpa using e
      rw [this]
      unfold find
      by_cases e2 : k = id
      · subst e2; simp [e]
      · have : (k == id) = false := by simpa using e2
        rw [this]
        simpa using find_sh b i m h id
section
variable {P : Program} {f : FuncId} {h0 : Hp} {ret : AV} {outs : List (Nat × Option Ob)} {todo : List Item} {sl : List AV} {hp : Hp} {dom : List Nat}
theorem toRo_owned (i m : Nat) (o : Ob) (h : (toRo i m o).owned = true) : o.owned = true := by cases o <;> first | exact h | rfl
theorem shO_owned (b i : Nat) (o : Ob) : (shO b i o).owned = o.owned := by cases o <;> rfl
theorem toRo_bx (i m : Nat) (o : Ob) : (toRo i m o).bx = o.bx := by cases o <;> rfl
theorem shO_bx (b i : Nat) (o : Ob) : (shO b i o).bx = o.bx := by cases o <;> rfl
theorem Safe.toRo {ty es n : Nat} {row : Nat → List AV} (b i m : Nat) (hm : i + m ≤ n) (ids : List Nat) (hf : find hp b = some (.vec ty es n row)) (hn : notIn b ids = true) (hn0 : notIn b (idsOf h0) = true) (hsl : shOKs ids b i es sl = true) (hch : shOKH ids b i es hp)
    (h : Safe P f h0 ret outs todo ⟨shL b i sl, shH b i m hp⟩ dom) : Safe P f h0 ret outs todo ⟨sl, hp⟩ dom := by
  intro E0 W0 E W a fb cs h1 h2 h3 h4 h5 h6 h7 h8
  have hb : b ∉ ids := fun hm => by have := allB_ok hn b hm; simp at this
  have hb0 : ∀ id, hasId h0 id = true → id ≠ b := fun id hid e => by
    have := allB_ok hn0 id (idsOf_mem.2 hid)
    rw [e] at this; simp at this
  have hid := shE_ids (E := E) (i := i) (es := es) hb
  have own : ∀ id o', find (shH b i m hp) id = some o' → ∃ o, find hp id = some o ∧ (o'.owned = true → o.owned = true) ∧ o.bx = o'.bx := fun id o' ho => by
    rw [find_sh] at ho
    cases hfo : find hp id with
    | none => rw [hfo] at ho; cases ho
    | some o =>
      rw [hfo] at ho
      simp only [Option.map_some, Option.some.injEq] at ho
      refine ⟨o, rfl, fun hw => ?_, by
        by_cases e : id = b
        · rw [if_pos e] at ho; rw [← ho, toRo_bx]
        · rw [if_neg e] at ho; rw [← ho, shO_bx]⟩
      by_cases e : id = b
      · rw [if_pos e] at ho; rw [← ho] at hw; exact toRo_owned i m o hw
      · rw [if_neg e] at ho; rw [← ho, shO_owned] at hw; exact hw
  have rh : RH (shE b i es E) (shH b i m hp) W := by
    refine ⟨fun id o' ho => ?_, fun x y o p hx hy hne hw c hc hc2 => ?_⟩
    · rw [find_sh] at ho
      cases hfo : find hp id with
      | none => rw [hfo] at ho; cases ho
      | some o =>
        rw [hfo] at ho
        simp only [Option.map_some, Option.some.injEq] at ho
        subst ho
        have hh := h6.hp.holds id o hfo
        have hcl := shOKH_at hch id o hfo
        by_cases e : id = b
        · rw [if_pos e]
          subst e
          rw [hf] at hfo
          obtain rfl := Option.some.inj hfo
          obtain ⟨q, kk, xs, g1, g2, g3, g4⟩ := hh
          have hmul : i * es + m * es ≤ n * es := by rw [← Nat.add_mul]; exact Nat.mul_le_mul_right _ hm
          have hlen : ((xs.drop (i * es)).take (m * es)).length = m * es := by rw [List.length_take, List.length_drop, g2.1]; omega
          have hrow : RowsOK (shE id i es E) es m (shiftR row i) ((xs.drop (i * es)).take (m * es)) := fun p hp => by
            rw [shiftR_at]
            have e1 := cells_shift xs es i m p hp
            rw [e1]
            exact RVs.agree hid _ _ (hcl _) (g4 _ (by omega))
          cases q with
          | none =>
            refine ⟨none, kk, _, by unfold shE; rw [if_pos rfl, g1], hlen, .inl ⟨rfl, ?_, ?_⟩, fun u hu => g3 u (List.mem_of_mem_drop (List.mem_of_mem_take hu)), hrow⟩
            · rcases g2.2 with ⟨_, h0⟩ | ⟨g, cap, cur, hv, _⟩
              · omega
              · simp at hv
            · rcases g2.2 with ⟨hv, h0⟩ | ⟨g, cap, cur, hv, _⟩
              · simp only [Value.slice.injEq] at hv; exact hv.2.2
              · simp at hv
          | some ad =>
            have hlt := (g2.lt ad.block rfl).2
            have hcell := g2.cells (g := ad.block) rfl
            have hoff : ad.off = 0 ∧ n ≤ kk := by
              rcases g2.2 with ⟨hv, _⟩ | ⟨g, cap, cur, hv, _, _, hle, _⟩
              · simp at hv
              · simp only [Value.slice.injEq, Option.some.injEq, true_and] at hv; rw [hv.1, hv.2]; exact ⟨rfl, hle⟩
            refine ⟨some ⟨ad.block, ad.off + i * es, none⟩, kk - i, _, by unfold shE; rw [if_pos rfl, g1], hlen, .inr ⟨_, rfl, hlt, by omega, fun j u hu => ?_⟩, fun u hu => g3 u (List.mem_of_mem_drop (List.mem_of_mem_take hu)), hrow⟩
            rw [List.getElem?_take] at hu
            split at hu
            case isFalse => cases hu
            rw [List.getElem?_drop] at hu
            have := hcell (i * es + j) u hu
            rw [add_at (⟨ad.block, 0, none⟩ : Addr)] at this
            rw [hoff.1]
            simpa [Nat.add_assoc] using this
        · rw [if_neg e]
          cases o with
          | blk ty' cs' =>
            obtain ⟨q, kk, xs, g1, g2, g3, g4⟩ := hh
            exact ⟨q, kk, xs, by rw [shE_ne e]; exact g1, g2, shL_rvs hb cs' xs hcl g3, g4⟩
          | vec ty' es' n' row' =>
            obtain ⟨q, kk, xs, g1, g2, g3, g4⟩ := hh
            exact ⟨q, kk, xs, by rw [shE_ne e]; exact g1, g2, g3, fun p hp => RVs.agree hid _ _ (hcl p) (g4 p hp)⟩
          | ro es' n' row' =>
            obtain ⟨q, kk, xs, g1, g2, g3, g4, g5⟩ := hh
            exact ⟨q, kk, xs, by rw [shE_ne e]; exact g1, g2, g3, g4, fun p hp => RVs.agree hid _ _ (hcl p) (g5 p hp)⟩
          | obj m =>
            obtain ⟨q, kk, ob, g1, g2, g3⟩ := hh
            exact ⟨q, kk, ob, by rw [shE_ne e]; exact g1, g2, g3⟩
          | box B =>
            obtain ⟨q, kk, g1, g2⟩ := hh
            exact ⟨q, kk, by rw [shE_ne e]; exact g1, g2⟩
    · obtain ⟨o1, k1, k2, k5⟩ := own x o hx
      obtain ⟨o2, k3, k4, k6⟩ := own y p hy
      exact h6.hp.apart x y o1 o2 k1 k3 hne (k2 hw) c (hc.congr k5 (shE_blk ..).symm) (hc2.congr k6 (shE_blk ..).symm)
  refine h E0 W0 (shE b i es E) W a fb cs h1 h2 h3 h4 (fun id hi => by rw [shE_ne (hb0 id hi)]; exact h5 id hi) ⟨?_, fun t v ht => ?_, h6.df, rh⟩ ⟨h7.os, h7.tape, h7.output, h7.size, h7.old, fun id o c ho hc => ?_⟩ (fun id hi => ?_)
  · rw [h6.size]
    have : ∀ l : List AV, (shL b i l).length = l.length := by
      intro l
      induction l with
      | nil => rfl
      | cons x l ih => simp [shL, ih]
    exact (this sl).symm
  · have : ∀ (l : List AV) (t : Nat) (v : AV), shOKs ids b i es l = true → nth (shL b i l) t = some v → ∃ u, nth l t = some u ∧ shOK ids b i es u = true ∧ v = shV b i u := by
      intro l
      induction l with
      | nil => intro t v _ h; simp [shL, nth] at h
      | cons x l ih =>
        intro t v hk hv
        unfold shOKs at hk
        simp only [Bool.and_eq_true] at hk
        cases t with
        | zero => simp only [shL, nth, Option.some.injEq] at hv; exact ⟨x, rfl, hk.1, hv.symm⟩
        | succ t => simp only [shL, nth] at hv; exact ih t v hk.2 hv
    obtain ⟨u, hu, hk, rfl⟩ := this sl t v hsl ht
    obtain ⟨c, c1, c2⟩ := h6.sl t u hu
    exact ⟨c, c1, shV_rv hb u c hk c2⟩
  · obtain ⟨o1, k1, k2, k5⟩ := own id o ho
    exact (h7.own id o1 c k1 (hc.congr k5 (shE_blk ..).symm)).imp_left fun ⟨x, p, p1, p2, p3⟩ => ⟨x, p, p1, fun hw => p2 (k2 hw), p3⟩
  · refine h8 id fun e => hi ?_
    unfold shE
    split
    · rename_i e2
      subst e2
      rw [e]
    · exact e
end
end Go.Proofs.Ytbgbjgedjmhcaaa
