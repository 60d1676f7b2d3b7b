/- The engine, part O: to a loop's head, to the end, in one step; contracts under other names. No conditions but those of each theorem. -/
import Derived.Test.YtbgbjgedjmhcaaaSyN
namespace Go.Proofs.Ytbgbjgedjmhcaaa
open Go.RowKit
set_option linter.unusedVariables false
set_option linter.unusedSimpArgs false

abbrev I (z : Int) : AV := .val (.int .i64 z)
abbrev B (b : Bool) : AV := .val (.bool b)
abbrev S (s : ByteArray) : AV := .val (.string s)

def look (l : List (Nat × AV)) (i : Nat) : AV := match l with
  | [] => .junk
  | (k, v) :: l => match k == i with
    | true => v
    | false => look l i
def slotsFrom (l : List (Nat × AV)) : Nat → Nat → List AV
  | _, 0 => []
  | i, n + 1 => look l i :: slotsFrom l (i + 1) n
/-- n slots, of which these are known -/
def slotsOf (n : Nat) (l : List (Nat × AV)) : List AV := slotsFrom l 0 n
def keepS (live : List Nat) : Nat → List AV → List AV
  | _, [] => []
  | i, v :: l => (match live.contains i with
    | true => v
    | false => .junk) :: keepS live (i + 1) l
def keepH (h : Hp) : List Nat → Hp
  | [] => []
  | id :: l => match find h id with
    | some o => (id, o) :: keepH h l
    | none => keepH h l
def subB (a b : List Nat) : Bool := allB (fun x => b.contains x) a
theorem subB_ok {a b : List Nat} (h : subB a b = true) : ∀ x ∈ a, x ∈ b := fun x hx => List.contains_iff_mem.1 (allB_ok h x hx)
theorem keepS_le (live : List Nat) : ∀ (l : List AV) (i : Nat), SlLe l (keepS live i l)
  | [], _ => trivial
  | v :: l, i => by
    unfold keepS
    refine ⟨?_, keepS_le live l (i + 1)⟩
    cases live.contains i with
    | true =>
      show VLe v v
      unfold VLe
      split <;> first | trivial | rfl
    | false => trivial
theorem SlLe.refl : ∀ l : List AV, SlLe l l
  | [] => trivial
  | v :: l => ⟨by unfold VLe; split <;> first | trivial | rfl, SlLe.refl l⟩
theorem ObLe.refl : ∀ o : Ob, ObLe o o
  | .blk _ _ => ⟨rfl, SlLe.refl _⟩
  | .vec _ _ _ _ => ⟨rfl, rfl, rfl, fun _ _ => rfl⟩
  | .ro _ _ _ => ⟨rfl, rfl, fun _ _ => rfl⟩
  | .obj m => MDLe.refl m
  | .box B => fun _ _ h => ⟨h, fun _ k => k⟩
theorem keepH_le (h : Hp) : ∀ ids, HpLe h (keepH h ids)
  | [] => trivial
  | id :: l => by
    unfold keepH
    cases hf : find h id with
    | none => exact keepH_le h l
    | some o => exact ⟨by rw [hf]; exact ObLe.refl o, keepH_le h l⟩
/-- to a point, and what is kept there -/
def runK (P : Program) (n : Nat) (hs : List RHint) (todo : List Item) (s : St) (dom live ids : List Nat) : Option (List Item × List AV × Hp × List Prop) := match runC P n hs todo s dom with
  | none => none
  | some (t, s', _, ob) => some (t, keepS live 0 s'.slots, keepH s'.heap ids, ob)
/-- to the end: the result, and what is kept of memory -/
def runE (P : Program) (n : Nat) (hs : List RHint) (todo : List Item) (s : St) (dom : List Nat) (rs : List ResultVar) (ids : List Nat) : Option (AV × Hp × List Prop) := match runC P n hs todo s dom with
  | none => none
  | some (t, s', _, ob) => match isEnd t, (retA P rs).run s' with
    | true, some o => some (o.a, keepH s'.heap ids, ob ++ o.ob)
    | _, _ => none
section
variable {P : Program} {f : FuncId} {h0 : Hp} {ret : AV} {outs : List (Nat × Option Ob)} {todo : List Item} {s : St} {dom : List Nat}
theorem HpLe.trans' {a b c : Hp} (h : HpLe a b) (hb : ∀ id o, find b id = some o → find a id = some o) (k : HpLe b c) : HpLe a c := by
  induction c with
  | nil => trivial
  | cons p l ih =>
    obtain ⟨id, o'⟩ := p
    refine ⟨?_, ih k.2⟩
    have := k.1
    cases hf : find b id with
    | none => rw [hf] at this; exact this.elim
    | some o => rw [hf] at this; rw [hb id o hf]; exact this
theorem keepH_find (h : Hp) : ∀ ids id o, find (keepH h ids) id = some o → find h id = some o
  | [], id, o, e => by simp [keepH, find] at e
  | k :: l, id, o, e => by
    unfold keepH at e
    cases hf : find h k with
    | none => rw [hf] at e; exact keepH_find h l id o e
    | some x =>
      rw [hf] at e
      unfold find at e
      by_cases hk : k = id
      · subst hk; simp at e; rw [hf, e]
      · simp [hk] at e; exact keepH_find h l id o e
theorem Safe.goto (hmx : P.follows .mixedOrders = true) (n : Nat) (hs : List RHint) (live ids : List Nat) {todo' : List Item} {sl : List AV} {hp : Hp} {ob : List Prop} (hd : subB (idsOf h0) dom = true) (hi : subB (idsOf h0) ids = true) (h : runK P n hs todo s dom live ids = some (todo', sl, hp, ob)) (hob : AllP ob)
    (hcl : closedL ids sl = true) (hch : closedH ids hp) (hk : Safe P f h0 ret outs todo' ⟨sl, hp⟩ ids) : Safe P f h0 ret outs todo s dom := by
  unfold runK at h
  split at h
  · cases h
  rename_i t s' d ob' hr
  simp only [Option.some.injEq, Prod.mk.injEq] at h
  obtain ⟨rfl, rfl, rfl, rfl⟩ := h
  exact Safe.run hmx n hs todo s dom (fun id hid => subB_ok hd id (idsOf_mem.2 hid)) hr hob fun _ => Safe.to (s' := ⟨_, _⟩) (fun id hid => subB_ok hi id (idsOf_mem.2 hid)) (fun _ _ => trivial) (keepS_le live _ 0) hcl (keepH_le _ ids) hch hk
theorem Safe.ends (hmx : P.follows .mixedOrders = true) {fn : Func} (hf : P.funcs[f]? = some fn) (n : Nat) (hs : List RHint) {r : AV} {hp : Hp} {ob : List Prop} (hd : subB (idsOf h0) dom = true) (h : runE P n hs todo s dom fn.results.toList (idsOf (applyO h0 outs)) = some (r, hp, ob)) (hob : AllP ob)
    (he : VLe r ret) (hl : HpLe hp (applyO h0 outs)) (hc : closedH (idsOf h0 ++ newIds h0 outs) (applyO h0 outs)) (hcr : closedV (idsOf h0 ++ newIds h0 outs) ret = true) : Safe P f h0 ret outs todo s dom := by
  unfold runE at h
  split at h
  · cases h
  rename_i t s' d ob' hr
  split at h
  case h_2 => cases h
  rename_i o he' ho
  simp only [Option.some.injEq, Prod.mk.injEq] at h
  obtain ⟨rfl, rfl, rfl⟩ := h
  rw [AllP.append] at hob
  exact Safe.run hmx n hs todo s dom (fun id hid => subB_ok hd id (idsOf_mem.2 hid)) hr hob.1 fun _ => Safe.fin hf he' ho hob.2 he ((keepH_le _ _).trans' (keepH_find _ _) hl) hc hcr
/-- the same state, told otherwise -/
theorem Safe.le {sl sl' : List AV} {hp hp' : Hp} (hd : subB (idsOf h0) dom = true) (hs : SlLe sl sl') (hl : HpLe hp hp') (hcl : closedL dom sl' = true) (hch : closedH dom hp') (h : Safe P f h0 ret outs todo ⟨sl', hp'⟩ dom) : Safe P f h0 ret outs todo ⟨sl, hp⟩ dom :=
  Safe.to (s' := ⟨sl', hp'⟩) (fun id hid => subB_ok hd id (idsOf_mem.2 hid)) (fun _ _ => trivial) hs hcl hl hch h
end

/-- the way's point at the head of loop number j of a body -/
def loops : Code → Nat
  | .seq a b => loops a + loops b
  | .cond _ a b => loops a + loops b
  | .block _ c => loops c
  | .scope c => loops c
  | .loop c => loops c + 1
  | _ => 0
def loopIn : Code → List Item → Nat → List Item
  | .seq a b, k, j => match Nat.blt j (loops a) with
    | true => loopIn a (.code b :: k) j
    | false => loopIn b k (j - loops a)
  | .cond _ a b, k, j => match Nat.blt j (loops a) with
    | true => loopIn a k j
    | false => loopIn b k (j - loops a)
  | .block id c, k, j => loopIn c (.inBlock id :: k) j
  | .scope c, k, j => loopIn c (.inScope c :: k) j
  | .loop c, k, j => match j with
    | 0 => .code c :: .inLoop c :: k
    | j + 1 => loopIn c (.inLoop c :: k) j
  | _, _, _ => []
def loopAt (fn : Func) (j : Nat) : List Item := match fn.body with
  | some c => loopIn c [] j
  | none => []

/-! ### Contracts under other names -/
def rn (σ : List (Nat × Nat)) (id : Nat) : Nat := match σ with
  | [] => id
  | (a, b) :: σ => match a == id with
    | true => b
    | false => rn σ id
mutual
def renV (σ : List (Nat × Nat)) : AV → AV
  | .val v => .val v
  | .ptr id i es j => .ptr (rn σ id) i es j
  | .sl id i es n c => .sl (rn σ id) i es n c
  | .mp id => .mp (rn σ id)
  | .agg cs => .agg (renL σ cs)
  | .tup cs => .tup (renL σ cs)
  | .fn f a b => .fn f (renL σ a) (renL σ b)
  | .ifc t v => .ifc t (renV σ v)
  | .anyB p q => .anyB p q
  | .len n => .len n
  | .junk => .junk
def renL (σ : List (Nat × Nat)) : List AV → List AV
  | [] => []
  | x :: l => renV σ x :: renL σ l
end
def renO (σ : List (Nat × Nat)) : Ob → Ob
  | .blk ty cs => .blk ty (renL σ cs)
  | .vec ty es n row => .vec ty es n fun q => renL σ (row q)
  | .ro es n row => .ro es n fun q => renL σ (row q)
  | .obj m => .obj m
  | .box B => .box B
def renH (σ : List (Nat × Nat)) : Hp → Hp
  | [] => []
  | (id, o) :: h => (rn σ id, renO σ o) :: renH σ h
def renU (σ : List (Nat × Nat)) : List (Nat × Option Ob) → List (Nat × Option Ob)
  | [] => []
  | (id, some o) :: h => (rn σ id, some (renO σ o)) :: renU σ h
  | (id, none) :: h => (rn σ id, none) :: renU σ h
end Go.Proofs.Ytbgbjgedjmhcaaa
