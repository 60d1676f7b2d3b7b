/- What the law needs, one text behind the other. No conditions but those of each theorem. -/
import GoSem.Step
import Derived.WalkKit
import Derived.ProofKit
import Derived.Below
import Derived.Laws.OwnMore
import Derived.Laws.AppendOwn
import Derived.Laws.AppendOwnNone
import Derived.Deep.AppendLies
import Derived.OrdersIn
import Derived.CallsIn
import Derived.Laws.StructEq
import Derived.Laws.CopyRow
import Derived.Laws.MakeOwn
import Derived.IntWalk
import Derived.Maps.AppendAt
import Derived.MapKept
set_option linter.unnecessarySimpa false
set_option linter.unusedSimpArgs false
set_option linter.unusedVariables false
set_option maxHeartbeats 16000000
set_option maxRecDepth 10000
namespace Go.Proofs.Ytbgbjgedjmhcaaa
open Go.RowKit
inductive AV where
  | val (v : Value)
  | ptr (id i es j : Nat)
  | sl (id i es n : Nat) (c : Option Nat)
  | agg (cs : List AV)
  | tup (vs : List AV)
  | fn (f : Fn) (first cap : List AV)
  | ifc (t : TypeId) (v : AV)
  | mp (id : Nat)
  | yld (id : Nat)
  | anyB (p q : Prop)
  | len (n : Nat)
  | junk
instance : Inhabited AV := ⟨.junk⟩
abbrev Env := Nat → Option (Option Addr × Nat)
def SlOK (b : Option Addr) (k i es n : Nat) (cc : Option Nat) (c : Value) : Prop := match b with
  | none => ∃ b' : Option Addr, c = .slice b' 0 0 ∧ n = 0 ∧ i = 0
  | some a => ∃ o m, c = .slice (some ⟨a.block, o, none⟩) n m ∧ n ≤ m ∧ i + m ≤ k ∧ (m ≠ 0 → o = a.off + i * es) ∧ (match cc with | none => i + m = k | some q => m = q)
mutual
def RV (E : Env) : AV → Value → Prop
  | .val v, c => c = v
  | .ptr id i es j, c => ∃ a k, E id = some (some a, k) ∧ c = .pointer (some ⟨a.block, a.off + (i * es + j), none⟩)
  | .sl id i es n cc, c => ∃ b k, E id = some (b, k) ∧ SlOK b k i es n cc c
  | .agg cs, c => ∃ xs : List Value, c = .agg xs.toArray ∧ RVs E cs xs
  | .tup cs, c => ∃ xs : List Value, c = .tuple xs.toArray ∧ RVs E cs xs
  | .fn f l m, c => ∃ xs ys : List Value, c = .func f xs.toArray ys.toArray ∧ RVs E l xs ∧ RVs E m ys
  | .ifc t v, c => ∃ x, c = .iface t x ∧ RV E v x
  | .mp id, c => ∃ a k, E id = some (some a, k) ∧ c = .map (some a.block)
  | .yld id, c => ∃ a k, E id = some (some a, k) ∧ c = .func (.yield a.block) #[] #[]
  | .anyB p q, c => ∃ b, c = .bool b ∧ (b = true → p) ∧ (b = false → q)
  | .len n, c => ∃ b m, c = .slice b n m
  | .junk, _ => True
def RVs (E : Env) : List AV → List Value → Prop
  | [], ys => ys = []
  | x :: xs, ys => ∃ y l, ys = y :: l ∧ RV E x y ∧ RVs E xs l
end
inductive MD where
  | iset (kd : IntKind) (g : Int → Bool)
  | sset (g : ByteArray → Bool)
def kfI : Value → Option Int
  | .int _ m => some m
  | _ => none
def kfS : Value → Option ByteArray
  | .string m => some m
  | _ => none
def boolOf : Value → Bool
  | .bool b => b
  | _ => false
def lookK {α : Type} [DecidableEq α] (kf : Value → Option α) : List MapEntry → α → Bool
  | [], _ => false
  | e :: l, n => match kf e.key with
    | some m => if m = n then boolOf e.val else lookK kf l n
    | none => lookK kf l n
def MDOK : MD → Obj → Prop
  | .iset kd g, ob => ∃ es clock, ob = .map es clock ∧ (∀ e ∈ es.toList, ∃ n b, e.key = .int kd n ∧ e.val = .bool b) ∧ ∀ n, lookK kfI es.toList n = g n
  | .sset g, ob => ∃ es clock, ob = .map es clock ∧ (∀ e ∈ es.toList, ∃ n b, e.key = .string n ∧ e.val = .bool b) ∧ ∀ n, lookK kfS es.toList n = g n
structure Box where
  ok : Array Obj → Nat → Prop
  foot : Array Obj → Nat → Nat → Prop
  lt : ∀ H a b, ok H a → foot H a b → b < H.size
  kept : ∀ H H' a, ok H a → H.size ≤ H'.size → (∀ b, foot H a b → H'[b]? = H[b]?) → ok H' a ∧ ∀ b, foot H' a b → foot H a b
inductive Ob where
  | blk (ty : TypeId) (cs : List AV)
  | vec (ty es n : Nat) (row : Nat → List AV)
  | ro (es n : Nat) (row : Nat → List AV)
  | obj (m : MD)
  | box (B : Box)
  | lp (fn : FuncId) (ps : Array Tmp) (as bd : Code) (st : LoopState) (pe : Option Code) (sl : List AV)
def Ob.owned : Ob → Bool
  | .ro .. => false
  | _ => true
def cellsAt (xs : List Value) (es q : Nat) : List Value := (xs.drop (q * es)).take es
def RowsOK (E : Env) (es n : Nat) (row : Nat → List AV) (xs : List Value) : Prop := ∀ q, q < n → RVs E (row q) (cellsAt xs es q)
def Holds (E : Env) (W : World) (id : Nat) : Ob → Prop
  | .blk ty cs => ∃ b k, ∃ xs : List Value, E id = some (some ⟨b, 0, none⟩, k) ∧ W.heap[b]? = some (.cells xs.toArray ty (0, 0)) ∧ RVs E cs xs ∧ k = xs.length
  | .vec ty es n row => ∃ b k, ∃ xs : List Value, E id = some (b, k) ∧ W.ownsRow 0 ty es (.slice b n k) n xs ∧ (∀ u ∈ xs, u.oneCell' = true) ∧ RowsOK E es n row xs
  | .ro es n row => ∃ b k, ∃ xs : List Value, E id = some (b, k) ∧ xs.length = n * es ∧ ((b = none ∧ n = 0 ∧ k = 0) ∨ ∃ a, b = some a ∧ a.block < W.heap.size ∧ n ≤ k ∧ (∀ j u, xs[j]? = some u → W.cell? ⟨a.block, a.off + j, none⟩ = some u)) ∧ (∀ u ∈ xs, u.oneCell' = true) ∧ RowsOK E es n row xs
  | .obj m => ∃ b k ob, E id = some (some ⟨b, 0, none⟩, k) ∧ W.heap[b]? = some ob ∧ MDOK m ob
  | .box B => ∃ b k, E id = some (some ⟨b, 0, none⟩, k) ∧ B.ok W.heap b
  | .lp fn ps as bd st pe sl => ∃ b k, ∃ xs : List Value, ∃ df, E id = some (some ⟨b, 0, none⟩, k) ∧ W.heap[b]? = some (.loop { state := st, pending := pe, fn := fn, tmps := xs.toArray, params := ps, assign := as, body := bd, defers := df }) ∧ RVs E sl xs
def blkOf (E : Env) (id : Nat) : Option Nat := match E id with
  | some (some a, _) => some a.block
  | _ => none
def Ob.bx : Ob → Option Box
  | .box B => some B
  | _ => none
def FootB (E : Env) (W : World) (id : Nat) : Option Box → Nat → Prop
  | none, b => blkOf E id = some b
  | some B, b => ∃ a, blkOf E id = some a ∧ B.foot W.heap a b
def Foot (E : Env) (W : World) (id : Nat) (o : Ob) (b : Nat) : Prop := FootB E W id o.bx b
theorem Foot.congr {E E' : Env} {W : World} {id id' : Nat} {o o' : Ob} {b : Nat} (ho : o'.bx = o.bx) (he : blkOf E' id' = blkOf E id) (h : Foot E W id o b) : Foot E' W id' o' b := by
  unfold Foot at h ⊢
  rw [ho]
  cases hb : o.bx with
  | none => rw [hb] at h; exact he.trans h
  | some B =>
    rw [hb] at h
    obtain ⟨a, h1, h2⟩ := h
    exact ⟨a, he.trans h1, h2⟩
theorem Foot.cg {E E' : Env} {W : World} {id : Nat} {o : Ob} {b : Nat} (h : Foot E W id o b) (he : blkOf E' id = blkOf E id) : Foot E' W id o b := h.congr rfl he
theorem Foot.plain {E : Env} {W W' : World} {id : Nat} {o : Ob} {b : Nat} (ho : o.bx = none) (h : Foot E W id o b) : Foot E W' id o b := by
  unfold Foot at h ⊢
  rw [ho] at h ⊢
  exact h
theorem Foot.none {E : Env} {W : World} {id : Nat} {o : Ob} {b : Nat} (he : blkOf E id = none) (h : Foot E W id o b) : False := by
  unfold Foot at h
  cases hb : o.bx with
  | none => rw [hb] at h; simp [FootB, he] at h
  | some B => rw [hb] at h; obtain ⟨a, h1, _⟩ := h; rw [he] at h1; cases h1
abbrev Hp := List (Nat × Ob)
def find : Hp → Nat → Option Ob
  | [], _ => none
  | (k, o) :: h, id => if k == id then some o else find h id
def upd : Hp → Nat → Ob → Hp
  | [], id, o => [(id, o)]
  | (k, x) :: h, id, o => if k == id then (k, o) :: h else (k, x) :: upd h id o
def del : Hp → Nat → Hp
  | [], _ => []
  | (k, x) :: h, id => if k == id then del h id else (k, x) :: del h id
theorem find_upd (h : Hp) (id : Nat) (o : Ob) (x : Nat) : find (upd h id o) x = if id = x then some o else find h x := by
  induction h with
  | nil =>
    unfold upd find find
    by_cases e : id = x <;> simp [e]
  | cons p h ih =>
    obtain ⟨k, y⟩ := p
    unfold upd
    by_cases e : k = id
    · subst e
      simp only [beq_self_eq_true, if_true]
      unfold find
      by_cases e2 : k = x <;> simp [e2]
    · rw [if_neg (by simpa using e)]
      unfold find
      by_cases e2 : k = x
      · subst e2
        simp [Ne.symm e]
      · simp only [beq_iff_eq, e2, if_false]
        exact ih
theorem find_del (h : Hp) (id : Nat) (x : Nat) : find (del h id) x = if id = x then none else find h x := by
  induction h with
  | nil => unfold del find; simp
  | cons p h ih =>
    obtain ⟨k, y⟩ := p
    unfold del
    by_cases e : k = id
    · subst e
      simp only [beq_self_eq_true, if_true]
      rw [ih]
      by_cases e2 : k = x
      · simp [e2]
      · simp [e2, find]
    · rw [if_neg (by simpa using e)]
      unfold find
      by_cases e2 : k = x
      · subst e2
        simp [Ne.symm e]
      · simp only [beq_iff_eq, e2, if_false]
        exact ih
def nth {α : Type} : List α → Nat → Option α
  | [], _ => none
  | x :: _, 0 => some x
  | _ :: l, n + 1 => nth l n
def setN {α : Type} : List α → Nat → α → List α
  | [], _, _ => []
  | _ :: l, 0, v => v :: l
  | x :: l, n + 1, v => x :: setN l n v
theorem nth_eq {α : Type} : ∀ (l : List α) (n : Nat), nth l n = l[n]?
  | [], _ => rfl
  | x :: _, 0 => rfl
  | x :: l, n + 1 => by simp [nth, nth_eq l n]
theorem setN_eq {α : Type} : ∀ (l : List α) (n : Nat) (v : α), setN l n v = l.set n v
  | [], _, _ => rfl
  | x :: _, 0, _ => rfl
  | x :: l, n + 1, v => by simp [setN, setN_eq l n v]
structure St where
  slots : List AV
  heap : Hp
inductive Loc where
  | slot (t : Nat)
  | ob (id : Nat)
  deriving DecidableEq
inductive Cont where
  | slot (v : Option AV)
  | ob (o : Option Ob)
def St.at (s : St) : Loc → Cont
  | .slot t => .slot (nth s.slots t)
  | .ob id => .ob (find s.heap id)
inductive Ac (α : Type) where
  | ret (a : α)
  | slot (t : Nat) (k : AV → Ac α)
  | get (id : Nat) (k : Ob → Ac α)
  | new (id : Nat) (o : Ob) (k : Ac α)
  | put (id : Nat) (o : Ob) (k : Ac α)
  | del (id : Nat) (k : Ac α)
  | set (t : Nat) (v : AV) (k : Ac α)
  | need (p : Prop) (k : Ac α)
  | fail
def Ac.bind {α β : Type} : Ac α → (α → Ac β) → Ac β
  | .ret a, f => f a
  | .slot t k, f => .slot t fun v => (k v).bind f
  | .get id k, f => .get id fun o => (k o).bind f
  | .new id o k, f => .new id o (k.bind f)
  | .put id o k, f => .put id o (k.bind f)
  | .del id k, f => .del id (k.bind f)
  | .set t v k, f => .set t v (k.bind f)
  | .need p k, f => .need p (k.bind f)
  | .fail, _ => .fail
instance : Monad Ac where
  pure := Ac.ret
  bind := Ac.bind
structure Out (α : Type) where
  a : α
  s : St
  rd : List Loc
  wr : List Loc
  nw : List Nat
  ob : List Prop
def Ac.run {α : Type} : Ac α → St → Option (Out α)
  | .ret a, s => some ⟨a, s, [], [], [], []⟩
  | .slot t k, s => match nth s.slots t with
    | none => none
    | some v => match (k v).run s with
      | none => none
      | some o => some ⟨o.a, o.s, .slot t :: o.rd, o.wr, o.nw, o.ob⟩
  | .get id k, s => match find s.heap id with
    | none => none
    | some v => match (k v).run s with
      | none => none
      | some o => some ⟨o.a, o.s, .ob id :: o.rd, o.wr, o.nw, o.ob⟩
  | .new id v k, s => match find s.heap id with
    | some _ => none
    | none => match k.run ⟨s.slots, upd s.heap id v⟩ with
      | none => none
      | some o => some ⟨o.a, o.s, .ob id :: o.rd, .ob id :: o.wr, id :: o.nw, o.ob⟩
  | .put id v k, s => match find s.heap id with
    | none => none
    | some _ => match k.run ⟨s.slots, upd s.heap id v⟩ with
      | none => none
      | some o => some ⟨o.a, o.s, .ob id :: o.rd, .ob id :: o.wr, o.nw, o.ob⟩
  | .del id k, s => match k.run ⟨s.slots, Go.Proofs.Ytbgbjgedjmhcaaa.del s.heap id⟩ with
      | none => none
      | some o => some ⟨o.a, o.s, o.rd, .ob id :: o.wr, o.nw, o.ob⟩
  | .set t v k, s => match nth s.slots t with
    | none => none
    | some _ => match k.run ⟨setN s.slots t v, s.heap⟩ with
      | none => none
      | some o => some ⟨o.a, o.s, .slot t :: o.rd, .slot t :: o.wr, o.nw, o.ob⟩
  | .need p k, s => match k.run s with
      | none => none
      | some o => some ⟨o.a, o.s, o.rd, o.wr, o.nw, p :: o.ob⟩
  | .fail, _ => none
def AllP : List Prop → Prop
  | [] => True
  | p :: l => p ∧ AllP l
theorem AllP.append {a b : List Prop} : AllP (a ++ b) ↔ AllP a ∧ AllP b := by
  induction a with
  | nil => simp [AllP]
  | cons p a ih => simp only [List.cons_append, AllP, ih, and_assoc]
theorem at_set (s : St) (t : Nat) (v : AV) (h : (nth s.slots t).isSome = true) (x : Loc) : (⟨setN s.slots t v, s.heap⟩ : St).at x = if x = .slot t then .slot (some v) else s.at x := by
  cases x with
  | ob id => simp [St.at]
  | slot u =>
    simp only [St.at, Loc.slot.injEq, nth_eq, setN_eq]
    rw [nth_eq] at h
    rw [List.getElem?_set]
    by_cases e : u = t
    · subst e
      have : u < s.slots.length := by
        rcases Nat.lt_or_ge u s.slots.length with h1 | h1
        · exact h1
        · rw [List.getElem?_eq_none h1] at h; simp at h
      simp [this]
    · simp [e, Ne.symm e]
theorem at_upd (s : St) (id : Nat) (o : Ob) (x : Loc) : (⟨s.slots, upd s.heap id o⟩ : St).at x = if x = .ob id then .ob (some o) else s.at x := by
  cases x with
  | slot u => simp [St.at]
  | ob u =>
    simp only [St.at, Loc.ob.injEq, find_upd]
    by_cases e : u = id
    · simp [e]
    · simp [e, Ne.symm e]
theorem at_del (s : St) (id : Nat) (x : Loc) : (⟨s.slots, Go.Proofs.Ytbgbjgedjmhcaaa.del s.heap id⟩ : St).at x = if x = .ob id then .ob none else s.at x := by
  cases x with
  | slot u => simp [St.at]
  | ob u =>
    simp only [St.at, Loc.ob.injEq, find_del]
    by_cases e : u = id
    · simp [e]
    · simp [e, Ne.symm e]
theorem run_local {α : Type} (c : Ac α) : ∀ (s s' : St) (o : Out α), c.run s = some o → (∀ x ∈ o.rd, s'.at x = s.at x) →
    ∃ o', c.run s' = some o' ∧ o'.a = o.a ∧ o'.rd = o.rd ∧ o'.wr = o.wr ∧ o'.nw = o.nw ∧ o'.ob = o.ob ∧ (∀ x ∈ o.wr, o'.s.at x = o.s.at x) ∧ (∀ x, x ∉ o.wr → o'.s.at x = s'.at x) ∧ (∀ x, x ∉ o.wr → o.s.at x = s.at x) := by
  induction c with
  | ret a =>
    intro s s' o h _
    simp only [Ac.run, Option.some.injEq] at h
    subst h
    exact ⟨_, rfl, rfl, rfl, rfl, rfl, rfl, fun x hx => (by cases hx), fun _ _ => rfl, fun _ _ => rfl⟩
  | slot t k ih =>
    intro s s' o h hrd
    simp only [Ac.run] at h
    split at h
    · cases h
    · rename_i v hv
      split at h
      · cases h
      · rename_i q hq
        simp only [Option.some.injEq] at h
        subst h
        have h1 := hrd (.slot t) (List.mem_cons_self ..)
        simp only [St.at, Cont.slot.injEq] at h1
        obtain ⟨o', r1, r2, r3, r4, r5, r6, r7, r8, r9⟩ := ih v s s' q hq (fun x hx => hrd x (List.mem_cons_of_mem _ hx))
        refine ⟨⟨o'.a, o'.s, .slot t :: o'.rd, o'.wr, o'.nw, o'.ob⟩, ?_, r2, by simp only [r3], r4, r5, r6, r7, r8, r9⟩
        simp only [Ac.run, h1, hv, r1]
  | get id k ih =>
    intro s s' o h hrd
    simp only [Ac.run] at h
    split at h
    · cases h
    · rename_i v hv
      split at h
      · cases h
      · rename_i q hq
        simp only [Option.some.injEq] at h
        subst h
        have h1 := hrd (.ob id) (List.mem_cons_self ..)
        simp only [St.at, Cont.ob.injEq] at h1
        obtain ⟨o', r1, r2, r3, r4, r5, r6, r7, r8, r9⟩ := ih v s s' q hq (fun x hx => hrd x (List.mem_cons_of_mem _ hx))
        refine ⟨⟨o'.a, o'.s, .ob id :: o'.rd, o'.wr, o'.nw, o'.ob⟩, ?_, r2, by simp only [r3], r4, r5, r6, r7, r8, r9⟩
        simp only [Ac.run, h1, hv, r1]
  | new id v k ih =>
    intro s s' o h hrd
    simp only [Ac.run] at h
    split at h
    · cases h
    · rename_i hv
      split at h
      · cases h
      · rename_i q hq
        simp only [Option.some.injEq] at h
        subst h
        have h1 := hrd (.ob id) (List.mem_cons_self ..)
        simp only [St.at, Cont.ob.injEq] at h1
        obtain ⟨o', r1, r2, r3, r4, r5, r6, r7, r8, r9⟩ := ih ⟨s.slots, upd s.heap id v⟩ ⟨s'.slots, upd s'.heap id v⟩ q hq (fun x hx => by
          rw [at_upd, at_upd, hrd x (List.mem_cons_of_mem _ hx)])
        refine ⟨⟨o'.a, o'.s, .ob id :: o'.rd, .ob id :: o'.wr, id :: o'.nw, o'.ob⟩, ?_, r2, by simp only [r3], by simp only [r4], by simp only [r5], r6, fun x hx => ?_, fun x hx => ?_, fun x hx => ?_⟩
        · simp only [Ac.run, h1, hv, r1]
        · by_cases hq' : x ∈ q.wr
          · exact r7 x hq'
          · have : x = .ob id := by rcases List.mem_cons.1 hx with h | h; exact h; exact absurd h hq'
            rw [r8 x hq', r9 x hq', at_upd, at_upd, this]; simp
        · have hx' : x ∉ q.wr := fun h => hx (List.mem_cons_of_mem _ h)
          have hne : x ≠ .ob id := fun h => hx (by rw [h]; exact List.mem_cons_self ..)
          rw [r8 x hx', at_upd, if_neg hne]
        · have hx' : x ∉ q.wr := fun h => hx (List.mem_cons_of_mem _ h)
          have hne : x ≠ .ob id := fun h => hx (by rw [h]; exact List.mem_cons_self ..)
          rw [r9 x hx', at_upd, if_neg hne]
  | put id v k ih =>
    intro s s' o h hrd
    simp only [Ac.run] at h
    split at h
    · cases h
    · rename_i w hv
      split at h
      · cases h
      · rename_i q hq
        simp only [Option.some.injEq] at h
        subst h
        have h1 := hrd (.ob id) (List.mem_cons_self ..)
        simp only [St.at, Cont.ob.injEq] at h1
        obtain ⟨o', r1, r2, r3, r4, r5, r6, r7, r8, r9⟩ := ih ⟨s.slots, upd s.heap id v⟩ ⟨s'.slots, upd s'.heap id v⟩ q hq (fun x hx => by
          rw [at_upd, at_upd, hrd x (List.mem_cons_of_mem _ hx)])
        refine ⟨⟨o'.a, o'.s, .ob id :: o'.rd, .ob id :: o'.wr, o'.nw, o'.ob⟩, ?_, r2, by simp only [r3], by simp only [r4], r5, r6, fun x hx => ?_, fun x hx => ?_, fun x hx => ?_⟩
        · simp only [Ac.run, h1, hv, r1]
        · by_cases hq' : x ∈ q.wr
          · exact r7 x hq'
          · have : x = .ob id := by rcases List.mem_cons.1 hx with h | h; exact h; exact absurd h hq'
            rw [r8 x hq', r9 x hq', at_upd, at_upd, this]; simp
        · have hx' : x ∉ q.wr := fun h => hx (List.mem_cons_of_mem _ h)
          have hne : x ≠ .ob id := fun h => hx (by rw [h]; exact List.mem_cons_self ..)
          rw [r8 x hx', at_upd, if_neg hne]
        · have hx' : x ∉ q.wr := fun h => hx (List.mem_cons_of_mem _ h)
          have hne : x ≠ .ob id := fun h => hx (by rw [h]; exact List.mem_cons_self ..)
          rw [r9 x hx', at_upd, if_neg hne]
  | del id k ih =>
    intro s s' o h hrd
    simp only [Ac.run] at h
    split at h
    · cases h
    · rename_i q hq
      simp only [Option.some.injEq] at h
      subst h
      obtain ⟨o', r1, r2, r3, r4, r5, r6, r7, r8, r9⟩ := ih ⟨s.slots, Go.Proofs.Ytbgbjgedjmhcaaa.del s.heap id⟩ ⟨s'.slots, Go.Proofs.Ytbgbjgedjmhcaaa.del s'.heap id⟩ q hq (fun x hx => by
        rw [at_del, at_del, hrd x hx])
      refine ⟨⟨o'.a, o'.s, o'.rd, .ob id :: o'.wr, o'.nw, o'.ob⟩, ?_, r2, r3, by simp only [r4], r5, r6, fun x hx => ?_, fun x hx => ?_, fun x hx => ?_⟩
      · simp only [Ac.run, r1]
      · by_cases hq' : x ∈ q.wr
        · exact r7 x hq'
        · have : x = .ob id := by rcases List.mem_cons.1 hx with h | h; exact h; exact absurd h hq'
          rw [r8 x hq', r9 x hq', at_del, at_del, this]; simp
      · have hx' : x ∉ q.wr := fun h => hx (List.mem_cons_of_mem _ h)
        have hne : x ≠ .ob id := fun h => hx (by rw [h]; exact List.mem_cons_self ..)
        rw [r8 x hx', at_del, if_neg hne]
      · have hx' : x ∉ q.wr := fun h => hx (List.mem_cons_of_mem _ h)
        have hne : x ≠ .ob id := fun h => hx (by rw [h]; exact List.mem_cons_self ..)
        rw [r9 x hx', at_del, if_neg hne]
  | set t v k ih =>
    intro s s' o h hrd
    simp only [Ac.run] at h
    split at h
    · cases h
    · rename_i w hv
      split at h
      · cases h
      · rename_i q hq
        simp only [Option.some.injEq] at h
        subst h
        have h1 := hrd (.slot t) (List.mem_cons_self ..)
        simp only [St.at, Cont.slot.injEq] at h1
        have i1 : (nth s.slots t).isSome = true := by rw [hv]; rfl
        have i2 : (nth s'.slots t).isSome = true := by rw [h1, hv]; rfl
        obtain ⟨o', r1, r2, r3, r4, r5, r6, r7, r8, r9⟩ := ih ⟨setN s.slots t v, s.heap⟩ ⟨setN s'.slots t v, s'.heap⟩ q hq (fun x hx => by
          rw [at_set _ _ _ i1, at_set _ _ _ i2, hrd x (List.mem_cons_of_mem _ hx)])
        refine ⟨⟨o'.a, o'.s, .slot t :: o'.rd, .slot t :: o'.wr, o'.nw, o'.ob⟩, ?_, r2, by simp only [r3], by simp only [r4], r5, r6, fun x hx => ?_, fun x hx => ?_, fun x hx => ?_⟩
        · simp only [Ac.run, h1, hv, r1]
        · by_cases hq' : x ∈ q.wr
          · exact r7 x hq'
          · have : x = .slot t := by rcases List.mem_cons.1 hx with h | h; exact h; exact absurd h hq'
            rw [r8 x hq', r9 x hq', at_set _ _ _ i1, at_set _ _ _ i2, this]; simp
        · have hx' : x ∉ q.wr := fun h => hx (List.mem_cons_of_mem _ h)
          have hne : x ≠ .slot t := fun h => hx (by rw [h]; exact List.mem_cons_self ..)
          rw [r8 x hx', at_set _ _ _ i2, if_neg hne]
        · have hx' : x ∉ q.wr := fun h => hx (List.mem_cons_of_mem _ h)
          have hne : x ≠ .slot t := fun h => hx (by rw [h]; exact List.mem_cons_self ..)
          rw [r9 x hx', at_set _ _ _ i1, if_neg hne]
  | need p k ih =>
    intro s s' o h hrd
    simp only [Ac.run] at h
    split at h
    · cases h
    · rename_i q hq
      simp only [Option.some.injEq] at h
      subst h
      obtain ⟨o', r1, r2, r3, r4, r5, r6, r7, r8, r9⟩ := ih s s' q hq hrd
      refine ⟨⟨o'.a, o'.s, o'.rd, o'.wr, o'.nw, p :: o'.ob⟩, ?_, r2, r3, r4, r5, by simp only [r6], r7, r8, r9⟩
      simp only [Ac.run, r1]
  | fail =>
    intro s s' o h _
    simp [Ac.run] at h
end Go.Proofs.Ytbgbjgedjmhcaaa
namespace Go.Proofs.Ytbgbjgedjmhcaaa
open Go.RowKit
def Ext (E E' : Env) (nw : List Nat) : Prop := (∀ id x, E id = some x → E' id = some x) ∧ ∀ id, E' id ≠ none → E id ≠ none ∨ id ∈ nw
theorem Ext.refl (E : Env) : Ext E E [] := ⟨fun _ _ h => h, fun _ h => .inl h⟩
theorem Ext.trans {A B C : Env} {l m : List Nat} (h : Ext A B l) (k : Ext B C m) : Ext A C (l ++ m) :=
  ⟨fun id x e => k.1 id x (h.1 id x e), fun id e => (k.2 id e).elim (fun e => (h.2 id e).imp (fun x => x) (List.mem_append_left _)) fun e => .inr (List.mem_append_right _ e)⟩
theorem Ext.weaken {A B : Env} {l m : List Nat} (h : Ext A B l) (k : ∀ x ∈ l, x ∈ m) : Ext A B m := ⟨h.1, fun id e => (h.2 id e).imp_right (k id)⟩
mutual
theorem RV.mono {E E' : Env} (h : ∀ id x, E id = some x → E' id = some x) : ∀ (v : AV) (c : Value), RV E v c → RV E' v c
  | .val v, c, k => by simpa only [RV] using k
  | .ptr id i es j, c, k => by
    simp only [RV] at k ⊢
    obtain ⟨a, q, e, r⟩ := k
    exact ⟨a, q, h _ _ e, r⟩
  | .sl id i es n cc, c, k => by
    simp only [RV] at k ⊢
    obtain ⟨a, q, e, r⟩ := k
    exact ⟨a, q, h _ _ e, r⟩
  | .agg cs, c, k => by
    simp only [RV] at k ⊢
    obtain ⟨xs, e, r⟩ := k
    exact ⟨xs, e, RVs.mono h cs xs r⟩
  | .tup cs, c, k => by
    simp only [RV] at k ⊢
    obtain ⟨xs, e, r⟩ := k
    exact ⟨xs, e, RVs.mono h cs xs r⟩
  | .fn f l m, c, k => by
    simp only [RV] at k ⊢
    obtain ⟨xs, ys, e, r, r2⟩ := k
    exact ⟨xs, ys, e, RVs.mono h l xs r, RVs.mono h m ys r2⟩
  | .ifc t v, c, k => by
    simp only [RV] at k ⊢
    obtain ⟨x, e, r⟩ := k
    exact ⟨x, e, RV.mono h v x r⟩
  | .mp id, c, k => by
    simp only [RV] at k ⊢
    obtain ⟨a, q, e, r⟩ := k
    exact ⟨a, q, h _ _ e, r⟩
  | .yld id, c, k => by
    simp only [RV] at k ⊢
    obtain ⟨a, q, e, r⟩ := k
    exact ⟨a, q, h _ _ e, r⟩
  | .anyB p q, c, k => by simpa only [RV] using k
  | .len n, c, k => by simpa only [RV] using k
  | .junk, c, k => by simp only [RV]
theorem RVs.mono {E E' : Env} (h : ∀ id x, E id = some x → E' id = some x) : ∀ (v : List AV) (c : List Value), RVs E v c → RVs E' v c
  | [], c, k => by simpa only [RVs] using k
  | x :: xs, c, k => by
    simp only [RVs] at k ⊢
    obtain ⟨y, l, e, r, r2⟩ := k
    exact ⟨y, l, e, RV.mono h x y r, RVs.mono h xs l r2⟩
end
theorem RVs.length {E : Env} : ∀ {v : List AV} {c : List Value}, RVs E v c → c.length = v.length
  | [], c, k => by simp only [RVs] at k; simp [k]
  | x :: xs, c, k => by
    simp only [RVs] at k
    obtain ⟨y, l, rfl, r, r2⟩ := k
    simp [r2.length]
theorem RVs.get {E : Env} : ∀ {v : List AV} {c : List Value}, RVs E v c → ∀ (j : Nat) (x : AV), nth v j = some x → ∃ y, c[j]? = some y ∧ RV E x y
  | [], c, k, j, x, h => by simp [nth] at h
  | x :: xs, c, k, j, z, h => by
    simp only [RVs] at k
    obtain ⟨y, l, rfl, r, r2⟩ := k
    cases j with
    | zero => simp only [nth, Option.some.injEq] at h; subst h; exact ⟨y, rfl, r⟩
    | succ j => simp only [nth] at h; simpa using r2.get j z h
theorem RVs.of {E : Env} : ∀ {v : List AV} {c : List Value}, c.length = v.length → (∀ (j : Nat) (x : AV) (y : Value), nth v j = some x → c[j]? = some y → RV E x y) → RVs E v c
  | [], c, k, h => by simp only [RVs]; exact List.eq_nil_of_length_eq_zero k
  | x :: xs, c, k, h => by
    cases c with
    | nil => simp at k
    | cons y l =>
      simp only [RVs]
      exact ⟨y, l, rfl, h 0 x y rfl rfl, RVs.of (by simpa using k) fun j a b h1 h2 => h (j + 1) a b (by simpa [nth] using h1) (by simpa using h2)⟩
theorem RVs.append {E : Env} : ∀ {v v' : List AV} {c c' : List Value}, RVs E v c → RVs E v' c' → RVs E (v ++ v') (c ++ c')
  | [], v', c, c', k, k' => by simp only [RVs] at k; subst k; simpa using k'
  | x :: xs, v', c, c', k, k' => by
    simp only [RVs] at k
    obtain ⟨y, l, rfl, r, r2⟩ := k
    simp only [List.cons_append, RVs]
    exact ⟨y, _, rfl, r, r2.append k'⟩
theorem RVs.take {E : Env} : ∀ {v : List AV} {c : List Value}, RVs E v c → ∀ n, RVs E (v.take n) (c.take n)
  | [], c, k, n => by simp only [RVs] at k; subst k; simp [RVs]
  | x :: xs, c, k, n => by
    simp only [RVs] at k
    obtain ⟨y, l, rfl, r, r2⟩ := k
    cases n with
    | zero => simp [RVs]
    | succ n => simp only [List.take_succ_cons, RVs]; exact ⟨y, _, rfl, r, r2.take n⟩
theorem RVs.drop {E : Env} : ∀ {v : List AV} {c : List Value}, RVs E v c → ∀ n, RVs E (v.drop n) (c.drop n)
  | [], c, k, n => by simp only [RVs] at k; subst k; simp [RVs]
  | x :: xs, c, k, n => by
    cases n with
    | zero => simpa using k
    | succ n =>
      simp only [RVs] at k
      obtain ⟨y, l, rfl, r, r2⟩ := k
      simpa using r2.drop n
theorem RowsOK.mono {E E' : Env} (h : ∀ id x, E id = some x → E' id = some x) {es n : Nat} {row : Nat → List AV} {xs : List Value} (k : RowsOK E es n row xs) : RowsOK E' es n row xs := fun q hq => RVs.mono h _ _ (k q hq)
theorem Holds.mono {E E' : Env} {W : World} (h : ∀ id x, E id = some x → E' id = some x) {id : Nat} : ∀ {o : Ob}, Holds E W id o → Holds E' W id o
  | .blk ty cs, ⟨b, k, xs, h1, h2, h3, h4⟩ => ⟨b, k, xs, h _ _ h1, h2, RVs.mono h _ _ h3, h4⟩
  | .vec ty es n row, ⟨b, k, xs, h1, h2, h3, h4⟩ => ⟨b, k, xs, h _ _ h1, h2, h3, h4.mono h⟩
  | .ro es n row, ⟨b, k, xs, h1, h2, h3, h4, h5⟩ => ⟨b, k, xs, h _ _ h1, h2, h3, h4, h5.mono h⟩
  | .obj m, ⟨b, k, ob, h1, h2, h3⟩ => ⟨b, k, ob, h _ _ h1, h2, h3⟩
  | .box B, ⟨b, k, h1, h2⟩ => ⟨b, k, h _ _ h1, h2⟩
  | .lp .., ⟨b, k, xs, df, h1, h2, h3⟩ => ⟨b, k, xs, df, h _ _ h1, h2, RVs.mono h _ _ h3⟩
theorem Holds.bound {E : Env} {W : World} {id : Nat} : ∀ {o : Ob}, Holds E W id o → ∃ x, E id = some x
  | .blk ty cs, ⟨b, k, xs, h1, _⟩ => ⟨_, h1⟩
  | .vec ty es n row, ⟨b, k, xs, h1, _⟩ => ⟨_, h1⟩
  | .ro es n row, ⟨b, k, xs, h1, _⟩ => ⟨_, h1⟩
  | .obj m, ⟨b, k, ob, h1, _⟩ => ⟨_, h1⟩
  | .box B, ⟨b, k, h1, _⟩ => ⟨_, h1⟩
  | .lp .., ⟨b, k, xs, df, h1, _⟩ => ⟨_, h1⟩
theorem Holds.blk_lt {E : Env} {W : World} {id : Nat} {b : Nat} : ∀ {o : Ob}, Foot E W id o b → Holds E W id o → b < W.heap.size
  | .blk ty cs, hb, ⟨c, k, xs, h1, h2, _⟩ => by
    simp only [Foot, Ob.bx, FootB, blkOf, h1, Option.some.injEq] at hb
    subst hb
    exact (Array.getElem?_eq_some_iff.1 h2).1
  | .vec ty es n row, hb, ⟨c, k, xs, h1, h2, _⟩ => by
    cases c with
    | none => simp [Foot, Ob.bx, FootB, blkOf, h1] at hb
    | some a =>
      simp only [Foot, Ob.bx, FootB, blkOf, h1, Option.some.injEq] at hb
      exact (h2.lt b (by simp [Value.ownBlock, hb])).2
  | .ro es n row, hb, ⟨c, k, xs, h1, h2, h3, _⟩ => by
    cases c with
    | none => simp [Foot, Ob.bx, FootB, blkOf, h1] at hb
    | some a =>
      simp only [Foot, Ob.bx, FootB, blkOf, h1, Option.some.injEq] at hb
      rcases h3 with ⟨e, _⟩ | ⟨a', e, h4, _⟩
      · cases e
      · cases e; rw [← hb]; exact h4
  | .obj m, hb, ⟨c, k, ob, h1, h2, _⟩ => by
    simp only [Foot, Ob.bx, FootB, blkOf, h1, Option.some.injEq] at hb
    subst hb
    exact (Array.getElem?_eq_some_iff.1 h2).1
  | .box B, hb, ⟨c, k, h1, h2⟩ => by
    obtain ⟨a, h3, h4⟩ := hb
    simp only [blkOf, h1, Option.some.injEq] at h3
    subst h3
    exact B.lt W.heap c b h2 h4
  | .lp .., hb, ⟨c, k, xs, df, h1, h2, _⟩ => by
    simp only [Foot, Ob.bx, FootB, blkOf, h1, Option.some.injEq] at hb
    subst hb
    exact (Array.getElem?_eq_some_iff.1 h2).1
theorem Holds.kept {E : Env} {W W' : World} {id : Nat} (hs : W.heap.size ≤ W'.heap.size) : ∀ {o : Ob}, (∀ b, Foot E W id o b → W'.heap[b]? = W.heap[b]?) → Holds E W id o → Holds E W' id o
  | .blk ty cs, h, ⟨c, k, xs, h1, h2, h3⟩ => ⟨c, k, xs, h1, (h c (by simp [Foot, Ob.bx, FootB, blkOf, h1])).trans h2, h3⟩
  | .vec ty es n row, h, ⟨c, k, xs, h1, h2, h3, h4⟩ => by
    refine ⟨c, k, xs, h1, ⟨h2.1, h2.2.imp (fun x => x) fun ⟨g, cap, cur, hv, hg, hh, rest⟩ => ⟨g, cap, cur, hv, hg, ?_, rest⟩⟩, h3, h4⟩
    simp only [Value.slice.injEq] at hv
    rw [h g (by simp [Foot, Ob.bx, FootB, blkOf, h1, hv.1])]; exact hh
  | .ro es n row, h, ⟨c, k, xs, h1, h2, h3, h4, h5⟩ => by
    refine ⟨c, k, xs, h1, h2, h3.imp (fun x => x) fun ⟨a, e, hl, hn, hc⟩ => ⟨a, e, Nat.lt_of_lt_of_le hl hs, hn, fun j u hu => ?_⟩, h4, h5⟩
    exact (World.cell?_of_block (a := ⟨a.block, a.off + j, none⟩) (h a.block (by simp [Foot, Ob.bx, FootB, blkOf, h1, e]))).trans (hc j u hu)
  | .obj m, h, ⟨c, k, ob, h1, h2, h3⟩ => ⟨c, k, ob, h1, (h c (by simp [Foot, Ob.bx, FootB, blkOf, h1])).trans h2, h3⟩
  | .lp .., h, ⟨c, k, xs, df, h1, h2, h3⟩ => ⟨c, k, xs, df, h1, (h c (by simp [Foot, Ob.bx, FootB, blkOf, h1])).trans h2, h3⟩
  | .box B, h, ⟨c, k, h1, h2⟩ => ⟨c, k, h1, (B.kept W.heap W'.heap c h2 hs fun b hb => h b ⟨c, by simp [blkOf, h1], hb⟩).1⟩
theorem Foot.kept {E : Env} {W W' : World} {id : Nat} (hs : W.heap.size ≤ W'.heap.size) : ∀ {o : Ob}, (∀ b, Foot E W id o b → W'.heap[b]? = W.heap[b]?) → Holds E W id o → ∀ b, Foot E W' id o b → Foot E W id o b
  | .blk ty cs, _, _, b, h => h
  | .vec ty es n row, _, _, b, h => h
  | .ro es n row, _, _, b, h => h
  | .obj m, _, _, b, h => h
  | .lp .., _, _, b, h => h
  | .box B, h, ⟨c, k, h1, h2⟩, b, ⟨a, h3, h4⟩ => by
    simp only [blkOf, h1, Option.some.injEq] at h3
    subst h3
    exact ⟨c, by simp [blkOf, h1], (B.kept W.heap W'.heap c h2 hs fun b hb => h b ⟨c, by simp [blkOf, h1], hb⟩).2 b h4⟩
structure RH (E : Env) (h : Hp) (W : World) : Prop where
  holds : ∀ id o, find h id = some o → Holds E W id o
  apart : ∀ id id' o o', find h id = some o → find h id' = some o' → id ≠ id' → o.owned = true → ∀ b, Foot E W id o b → ¬ Foot E W id' o' b
structure Mod (E : Env) (h : Hp) (W : World) (E' : Env) (h' : Hp) (W' : World) : Prop where
  os : W'.os = W.os
  tape : W'.tape = W.tape
  output : W'.output = W.output
  size : W.heap.size ≤ W'.heap.size
  old : ∀ b, b < W.heap.size → (∀ id o, find h id = some o → o.owned = true → ¬ Foot E W id o b) → W'.heap[b]? = W.heap[b]?
  own : ∀ id o b, find h' id = some o → Foot E' W' id o b → (∃ id0 o0, find h id0 = some o0 ∧ (o.owned = true → o0.owned = true) ∧ Foot E W id0 o0 b) ∨ W.heap.size ≤ b
theorem Mod.refl (E : Env) (h : Hp) (W : World) : Mod E h W E h W :=
  ⟨rfl, rfl, rfl, Nat.le_refl _, fun _ _ _ => rfl, fun id o b h1 h3 => .inl ⟨id, o, h1, fun h => h, h3⟩⟩
theorem Mod.trans {A B C : Env} {h h' h'' : Hp} {W W' W'' : World} (m : Mod A h W B h' W') (k : Mod B h' W' C h'' W'') : Mod A h W C h'' W'' where
  os := k.os.trans m.os
  tape := k.tape.trans m.tape
  output := k.output.trans m.output
  size := Nat.le_trans m.size k.size
  old := fun b hb hn => (k.old b (Nat.lt_of_lt_of_le hb m.size) fun id o h1 h2 h3 => (m.own id o b h1 h3).elim (fun ⟨i, p, q1, q2, q3⟩ => hn i p q1 (q2 h2) q3) fun q => by omega).trans (m.old b hb hn)
  own := fun id o b h1 h3 => (k.own id o b h1 h3).elim (fun ⟨i, p, q1, q2, q3⟩ => (m.own i p b q1 q3).imp (fun ⟨j, t, t1, t2, t3⟩ => ⟨j, t, t1, fun h => t2 (q2 h), t3⟩) fun x => x) fun q => .inr (Nat.le_trans m.size q)
theorem RH.congr {E : Env} {h h' : Hp} {W : World} (e : ∀ id, find h' id = find h id) (r : RH E h W) : RH E h' W :=
  ⟨fun id o ho => r.holds id o (by rw [← e]; exact ho), fun id id' o o' h1 h2 => r.apart id id' o o' (by rw [← e]; exact h1) (by rw [← e]; exact h2)⟩
theorem RH.sub {E : Env} {h h' : Hp} {W : World} (e : ∀ id o, find h' id = some o → find h id = some o) (r : RH E h W) : RH E h' W :=
  ⟨fun id o ho => r.holds id o (e _ _ ho), fun id id' o o' h1 h2 => r.apart id id' o o' (e _ _ h1) (e _ _ h2)⟩
theorem Mod.congr {E E' : Env} {h h' k k' : Hp} {W W' : World} (e : ∀ id, find k id = find h id) (e' : ∀ id, find k' id = find h' id) (m : Mod E h W E' h' W') : Mod E k W E' k' W' :=
  ⟨m.os, m.tape, m.output, m.size, fun b hb hn => m.old b hb fun id o ho => hn id o (by rw [e]; exact ho), fun id o b h1 h3 => (m.own id o b (by rw [← e']; exact h1) h3).imp (fun ⟨i, p, q, r⟩ => ⟨i, p, by rw [e]; exact q, r⟩) fun x => x⟩
theorem Foot.heq {E : Env} {W W' : World} {id : Nat} {o : Ob} {b : Nat} (h : W'.heap = W.heap) (hh : Holds E W id o) : Foot E W' id o b ↔ Foot E W id o b :=
  ⟨fun k => Foot.kept (by rw [h]; exact Nat.le_refl _) (fun _ _ => by rw [h]) hh b k, fun k => Foot.kept (W := W') (W' := W) (by rw [h]; exact Nat.le_refl _) (fun _ _ => by rw [h]) (hh.kept (by rw [h]; exact Nat.le_refl _) fun _ _ => by rw [h]) b k⟩
theorem RH.heq {E : Env} {h : Hp} {W W' : World} (e : W'.heap = W.heap) (r : RH E h W) : RH E h W' :=
  ⟨fun id o ho => (r.holds id o ho).kept (by rw [e]; exact Nat.le_refl _) fun _ _ => by rw [e], fun id id' o o' h1 h2 hne ho b hb hb2 => r.apart id id' o o' h1 h2 hne ho b ((Foot.heq e (r.holds id o h1)).1 hb) ((Foot.heq e (r.holds id' o' h2)).1 hb2)⟩
structure Rel (D : List Deferred) (E : Env) (s : St) (W : World) (a : Act) : Prop where
  size : a.tmps.size = s.slots.length
  sl : ∀ t v, nth s.slots t = some v → ∃ c, a.tmps[t]? = some c ∧ RV E v c
  df : a.defers = D
  hp : RH E s.heap W
theorem nth_length {α : Type} {l m : List α} (h : ∀ t, nth l t = nth m t) : l.length = m.length := by
  have : l = m := List.ext_getElem? fun i => by rw [← nth_eq, ← nth_eq]; exact h i
  rw [this]
theorem Rel.congr {D : List Deferred} {E : Env} {s s' : St} {W : World} {a : Act} (e : ∀ x, s'.at x = s.at x) (r : Rel D E s W a) : Rel D E s' W a := by
  have e1 : ∀ t, nth s'.slots t = nth s.slots t := fun t => by have := e (.slot t); simpa [St.at] using this
  have e2 : ∀ id, find s'.heap id = find s.heap id := fun id => by have := e (.ob id); simpa [St.at] using this
  exact ⟨by rw [nth_length e1]; exact r.size, fun t v h => r.sl t v (by rw [← e1]; exact h), r.df, r.hp.congr e2⟩
theorem Rel.drew {D : List Deferred} {E : Env} {s : St} {W : World} {a : Act} (r : Rel D E s W a) : Rel D E s { W with drawn := W.drawn + 1 } a :=
  ⟨r.size, r.sl, r.df, RH.heq (W := W) rfl r.hp⟩
theorem Mod.drew {E E' : Env} {h h' : Hp} {W W' : World} (m : Mod E h { W with drawn := W.drawn + 1 } E' h' W') : Mod E h W E' h' W' := ⟨m.os, m.tape, m.output, m.size, m.old, m.own⟩
def Fw (rnd : Option Nat) : Fence := { Fence.wide with round := rnd }
theorem fw_room (rnd : Option Nat) (n : Nat) : (Fw rnd).room n := fun d h => by simp [Fw, Fence.wide] at h
def OpOK (P : Program) (ops : Array Oper) (o : Oper) (c : Ac Unit) : Prop :=
  ∀ (rnd : Option Nat) (D : List Deferred) (E : Env) (s : St) (W : World) (a : Act) (out : Out Unit), c.run s = some out → AllP out.ob → Rel D E s W a → (∀ id ∈ out.nw, E id = none) →
    ∀ (K : Act → World → Prop) (Q : Exit → Act → World → Prop), (∀ E' W' a', Ext E E' out.nw → Rel D E' out.s W' a' → Mod E s.heap W E' out.s.heap W' → K a' W') →
      if Region.wanted o (yielded ops a.tmps) = true then o.wpIn (Fw rnd) 0 P a W K Q else K (a.put o.dst undef) W
def runR (f : Nat → Ac Unit) : Nat → Nat → St → Option (List (Out Unit))
  | 0, _, _ => some []
  | k + 1, i, s => match (f i).run s with
    | none => none
    | some o => match runR f k (i + 1) o.s with
      | none => none
      | some l => some (o :: l)
def stAt (s : St) (l : List (Out Unit)) : Nat → St
  | 0 => s
  | i + 1 => match nth l i with
    | some o => o.s
    | none => s
theorem runR_at (f : Nat → Ac Unit) : ∀ (k i : Nat) (s : St) (l : List (Out Unit)), runR f k i s = some l → l.length = k ∧ ∀ j, j < k → ∃ o, nth l j = some o ∧ (f (i + j)).run (stAt s l j) = some o
  | 0, i, s, l, h => by
    simp only [runR, Option.some.injEq] at h
    subst h
    exact ⟨rfl, fun j hj => by omega⟩
  | k + 1, i, s, l, h => by
    simp only [runR] at h
    split at h
    · cases h
    · rename_i o ho
      split at h
      · cases h
      · rename_i m hm
        simp only [Option.some.injEq] at h
        subst h
        obtain ⟨h1, h2⟩ := runR_at f k (i + 1) o.s m hm
        refine ⟨by simp [h1], fun j hj => ?_⟩
        cases j with
        | zero => exact ⟨o, rfl, ho⟩
        | succ j =>
          obtain ⟨q, q1, q2⟩ := h2 j (by omega)
          refine ⟨q, q1, ?_⟩
          rw [show i + (j + 1) = i + 1 + j by omega]
          cases j with
          | zero => exact q2
          | succ j =>
            simp only [stAt, nth] at q2 ⊢
            obtain ⟨r, r1, r2⟩ := h2 j (by omega)
            rw [r1] at q2 ⊢
            exact q2
def maskB (l : List Oper) (M : List Nat) : Bool := (List.range l.length).all fun i => match nth l i, nth M i with
  | some o, some m => (o.after.toList.all fun e => !Region.binds .any e || decide (e.on < i)) && (List.range l.length).all fun j => !m.testBit j || o.after.toList.any fun e => Region.binds .any e && (e.on == j || match nth M e.on with | some q => q.testBit j | none => false)
  | _, _ => false
def Clo (l : List Oper) (L : Array Bool) : Prop := ∀ i o, l[i]? = some o → L.getD i false = true → ∀ e ∈ o.after, Region.binds .any e = true → L.getD e.on false = true
theorem maskB_at {l : List Oper} {M : List Nat} (h : maskB l M = true) {i : Nat} (hi : i < l.length) : ∃ o m, l[i]? = some o ∧ M[i]? = some m ∧ (∀ e ∈ o.after, Region.binds .any e = true → e.on < i) ∧ ∀ j, j < l.length → m.testBit j = true → ∃ e ∈ o.after, Region.binds .any e = true ∧ (e.on = j ∨ ∃ q, M[e.on]? = some q ∧ q.testBit j = true) := by
  unfold maskB at h
  rw [List.all_eq_true] at h
  have := h i (List.mem_range.2 hi)
  rw [nth_eq, nth_eq] at this
  cases ho : l[i]? with
  | none => rw [ho] at this; simp at this
  | some o =>
    cases hm : M[i]? with
    | none => rw [ho, hm] at this; simp at this
    | some m =>
      rw [ho, hm] at this
      simp only [Bool.and_eq_true, List.all_eq_true, List.mem_range] at this
      refine ⟨o, m, rfl, rfl, fun e he hb => ?_, fun j hj ht => ?_⟩
      · have := this.1 e (by simpa using he)
        simpa [hb] using this
      · have := this.2 j hj
        rw [ht] at this
        simp only [Bool.not_true, Bool.false_or, List.any_eq_true, Bool.and_eq_true, Bool.or_eq_true, beq_iff_eq] at this
        obtain ⟨e, he, hb, h1⟩ := this
        refine ⟨e, by simpa using he, hb, h1.imp_right fun h2 => ?_⟩
        rw [nth_eq] at h2
        cases hq : M[e.on]? with
        | none => rw [hq] at h2; simp at h2
        | some q => rw [hq] at h2; exact ⟨q, rfl, h2⟩
theorem mask_on {l : List Oper} {M : List Nat} (h : maskB l M = true) {L : Array Bool} (hc : Clo l L) : ∀ (i : Nat), i < l.length → ∀ (m : Nat), M[i]? = some m → (∀ o, l[i]? = some o → ∀ e ∈ o.after, Region.binds .any e = true → L.getD e.on false = true) → ∀ j, j < l.length → m.testBit j = true → L.getD j false = true := by
  intro i
  induction i using Nat.strongRecOn with
  | ind i ih =>
    intro hi m hm hr j hj ht
    obtain ⟨o, m', ho, hm', hlow, hb⟩ := maskB_at h hi
    rw [hm] at hm'
    obtain rfl := Option.some.inj hm'
    obtain ⟨e, he, hbd, h1⟩ := hb j hj ht
    have hl := hr o ho e he hbd
    rcases h1 with h1 | ⟨q, hq, h1⟩
    · rw [← h1]; exact hl
    · exact ih e.on (hlow e he hbd) (Nat.lt_trans (hlow e he hbd) hi) q hq (fun o' ho' => hc e.on o' ho' hl) j hj h1
def meets (a b : List Loc) : Bool := a.any fun x => b.contains x
def apartB (M : List Nat) (l : List (Out Unit)) : Bool := (List.range l.length).all fun j => (List.range j).all fun i => match nth l i, nth l j, nth M j with
  | some p, some q, some m => m.testBit i || !(meets p.wr q.rd || meets p.wr q.wr || meets p.rd q.wr)
  | _, _, _ => false
theorem meets_no {a b : List Loc} (h : meets a b = false) (x : Loc) (hx : x ∈ a) : x ∉ b := fun hb => by
  have : meets a b = true := List.any_eq_true.2 ⟨x, hx, by simpa using hb⟩
  rw [h] at this; cases this
theorem apartB_at {M : List Nat} {l : List (Out Unit)} (h : apartB M l = true) {i j : Nat} (hij : i < j) (hj : j < l.length) {p q : Out Unit} (hp : nth l i = some p) (hq : nth l j = some q) : ∃ m, M[j]? = some m ∧ (m.testBit i = true ∨ ((∀ x ∈ p.wr, x ∉ q.rd ∧ x ∉ q.wr) ∧ ∀ x ∈ q.wr, x ∉ p.rd)) := by
  unfold apartB at h
  rw [List.all_eq_true] at h
  have := h j (List.mem_range.2 hj)
  rw [List.all_eq_true] at this
  have := this i (List.mem_range.2 hij)
  rw [hp, hq] at this
  rw [nth_eq] at this
  cases hm : M[j]? with
  | none => rw [hm] at this; simp at this
  | some m =>
    rw [hm] at this
    refine ⟨m, rfl, ?_⟩
    simp only [Bool.or_eq_true, Bool.not_eq_true', Bool.or_eq_false_iff] at this
    rcases this with h1 | ⟨⟨h1, h2⟩, h3⟩
    · exact .inl h1
    · exact .inr ⟨fun x hx => ⟨meets_no h1 x hx, meets_no h2 x hx⟩, fun x hx hr => meets_no h3 x hr hx⟩
theorem getD_self {L : Array Bool} {i : Nat} (hi : i < L.size) (b : Bool) : (L.setIfInBounds i true).getD i b = true := by
  simp [Array.getD_eq_getD_getElem?, Array.getElem?_setIfInBounds, hi]
theorem getD_other {L : Array Bool} {i j : Nat} (h : i ≠ j) (b : Bool) : (L.setIfInBounds i true).getD j b = L.getD j b := by
  simp [Array.getD_eq_getD_getElem?, Array.getElem?_setIfInBounds, h]
theorem getD_tf {L : Array Bool} {i : Nat} (h : L.getD i true = false) : L.getD i false = false := by
  rw [Array.getD_eq_getD_getElem?] at h ⊢
  cases e : L[i]? with
  | none => rfl
  | some b => rw [e] at h; simpa using h
theorem getD_ft {L : Array Bool} {i : Nat} (hi : i < L.size) (h : L.getD i true = true) : L.getD i false = true := by
  rw [Array.getD_eq_getD_getElem?] at h ⊢
  rw [Array.getElem?_eq_getElem hi] at h ⊢
  simpa using h
def left (L : Array Bool) : Nat := L.toList.count false
theorem count_set (l : List Bool) : ∀ i, l[i]? = some false → (l.set i true).count false + 1 = l.count false := by
  induction l with
  | nil => intro i h; simp at h
  | cons b l ih =>
    intro i h
    cases i with
    | zero => simp at h; subst h; simp
    | succ i =>
      have := ih i (by simpa using h)
      rw [List.set_cons_succ, List.count_cons, List.count_cons]
      omega
theorem left_set {L : Array Bool} {i : Nat} (h : L.getD i true = false) : left (L.setIfInBounds i true) + 1 = left L := by
  unfold left
  have h1 : L.toList[i]? = some false := by
    rw [Array.getD_eq_getD_getElem?] at h
    cases e : L[i]? with
    | none => rw [e] at h; simp at h
    | some b => rw [e] at h; simp at h; subst h; simpa using e
  have := count_set L.toList i h1
  rwa [← Array.toList_setIfInBounds] at this
theorem left_zero {L : Array Bool} (h : left L = 0) (i : Nat) : L.getD i true = true := by
  unfold left at h
  rw [Array.getD_eq_getD_getElem?]
  cases e : L[i]? with
  | none => rfl
  | some b =>
    cases b with
    | true => rfl
    | false =>
      have h1 : L.toList[i]? = some false := by simpa using e
      have := count_set L.toList i h1
      omega
theorem left_new (n : Nat) : left (Array.replicate n false) = n := by simp [left]
theorem clo_set {l : List Oper} {L : Array Bool} {i : Nat} (hL : L.size = l.length) (hc : Clo l L) (hi : i < l.length) (hr : ∀ (o : Oper), l[i]? = some o → ∀ e ∈ o.after, Region.binds .any e = true → L.getD e.on false = true) : Clo l (L.setIfInBounds i true) := by
  have up : ∀ j, L.getD j false = true → (L.setIfInBounds i true).getD j false = true := fun j hj => by
    by_cases e : i = j
    · subst e; exact getD_self (by omega) _
    · rw [getD_other e]; exact hj
  intro j o hj hl e he hb
  by_cases hij : i = j
  · subst hij; exact up _ (hr o hj e he hb)
  · rw [getD_other hij] at hl; exact up _ (hc j o hj hl e he hb)
section main
variable {P : Program} {ops : Array Oper} {f : Nat → Ac Unit} {M : List Nat} {s0 : St} {outs : List (Out Unit)} {E0 : Env} {W0 : World} {Q : Exit → Act → World → Prop} {rnd : Option Nat} {D : List Deferred}
def OnWay (s0 : St) (outs : List (Out Unit)) (L : Array Bool) (s : St) : Prop :=
  ∀ x : Loc, ∃ m, m ≤ outs.length ∧ s.at x = (stAt s0 outs m).at x ∧ (∀ j o, j < m → nth outs j = some o → x ∈ o.wr → L.getD j false = true) ∧ ∀ j o, m ≤ j → nth outs j = some o → L.getD j false = true → x ∉ o.wr
theorem nth_lt {α : Type} {l : List α} {i : Nat} {x : α} (h : nth l i = some x) : i < l.length := by
  rw [nth_eq] at h; exact (List.getElem?_eq_some_iff.1 h).1
theorem stays (hrun : ∀ j o, nth outs j = some o → (f j).run (stAt s0 outs j) = some o) (x : Loc) (m : Nat) : ∀ d, m + d ≤ outs.length → (∀ j o, m ≤ j → j < m + d → nth outs j = some o → x ∉ o.wr) → (stAt s0 outs (m + d)).at x = (stAt s0 outs m).at x
  | 0, _, _ => rfl
  | d + 1, hd, h => by
    have ih := stays hrun x m d (by omega) (fun j o h1 h2 => h j o h1 (by omega))
    obtain ⟨o, ho⟩ : ∃ o, nth outs (m + d) = some o := by rw [nth_eq, List.getElem?_eq_getElem (by omega)]; exact ⟨_, rfl⟩
    obtain ⟨_, _, _, _, _, _, _, _, _, h9⟩ := run_local (f (m + d)) _ _ o (hrun _ o ho) (fun _ _ => rfl)
    have := h9 x (h _ o (by omega) (by omega) ho)
    rw [← ih, ← this, show m + (d + 1) = (m + d) + 1 by omega]
    simp only [stAt, ho]
theorem region_any (hsz : outs.length = ops.size) (hrun : ∀ j o, nth outs j = some o → (f j).run (stAt s0 outs j) = some o) (hmask : maskB ops.toList M = true) (hap : apartB M outs = true)
    (hob : ∀ o ∈ outs, AllP o.ob) (hop : ∀ i o, ops[i]? = some o → OpOK P ops o (f i)) (hnw : (outs.flatMap (·.nw)).Nodup) (hfr : ∀ id ∈ outs.flatMap (·.nw), E0 id = none)
    (hQ : ∀ E s W a, (∀ x, s.at x = (stAt s0 outs outs.length).at x) → Ext E0 E (outs.flatMap (·.nw)) → Rel D E s W a → Mod E0 s0.heap W0 E s.heap W → Q .normal a W) :
    ∀ (fuel : Nat) (L : Array Bool) (E : Env) (s : St) (W : World) (a : Act), left L ≤ fuel → L.size = ops.size → Clo ops.toList L → OnWay s0 outs L s → Rel D E s W a → Mod E0 s0.heap W0 E s.heap W →
      (∀ id x, E0 id = some x → E id = some x) → (∀ id, E id ≠ none → E0 id ≠ none ∨ ∃ j o, nth outs j = some o ∧ L.getD j false = true ∧ id ∈ o.nw) → wpAnyIn (Fw rnd) 0 P .any ops Q fuel L a W := by
  have hdone : ∀ (L : Array Bool) (E : Env) (s : St) (W : World) (a : Act), L.size = ops.size → (∀ i, i < ops.size → L.getD i false = true) → OnWay s0 outs L s → Rel D E s W a → Mod E0 s0.heap W0 E s.heap W →
      (∀ id x, E0 id = some x → E id = some x) → (∀ id, E id ≠ none → E0 id ≠ none ∨ ∃ j o, nth outs j = some o ∧ L.getD j false = true ∧ id ∈ o.nw) → Q .normal a W := by
    intro L E s W a hL hall hw hr hm h1 h2
    refine hQ E s W a (fun x => ?_) ⟨h1, fun id he => (h2 id he).imp_right fun ⟨j, o, ho, _, hi⟩ => List.mem_flatMap.2 ⟨o, by rw [nth_eq] at ho; exact List.mem_of_getElem? ho, hi⟩⟩ hr hm
    obtain ⟨m, hm1, hm2, _, hm4⟩ := hw x
    rw [hm2]
    have := stays hrun x m (outs.length - m) (by omega) (fun j o h1 h2 ho => hm4 j o h1 ho (hall j (by have := nth_lt ho; omega)))
    rw [show m + (outs.length - m) = outs.length by omega] at this
    exact this.symm
  intro fuel
  induction fuel with
  | zero =>
    intro L E s W a hf hL hc hw hr hm h1 h2
    have h0 := left_zero (show left L = 0 by omega)
    have hall : ∀ i, i < ops.size → L.getD i false = true := fun i hi => getD_ft (by omega) (h0 i)
    refine ⟨List.filter_eq_nil_iff.2 fun i hi => ?_, hdone L E s W a hL hall hw hr hm h1 h2⟩
    simp [h0 i]
  | succ fuel ih =>
    intro L E s W a hf hL hc hw hr hm h1 h2
    refine ⟨fun hrd => ?_, fun i hi => ?_⟩
    · refine hdone L E s W a hL (fun i => ?_) hw hr hm h1 h2
      induction i using Nat.strongRecOn with
      | ind i ihi =>
        intro hi
        refine Decidable.byContradiction fun hn => ?_
        obtain ⟨o, m, ho, _, hlow, _⟩ := maskB_at hmask (show i < ops.toList.length by simpa using hi)
        have hmem : i ∈ Region.ready .any ops L := by
          rw [mem_ready]
          refine ⟨?_, o, by simpa using ho, fun e he hb => ihi e.on (hlow e he hb) (Nat.lt_trans (hlow e he hb) hi)⟩
          cases hg : L.getD i true with
          | true => exact absurd (getD_ft (by omega) hg) hn
          | false => rfl
        rw [hrd] at hmem
        cases hmem
    · obtain ⟨hun, o, ho, hdeps⟩ := mem_ready.1 hi
      have hi2 : i < ops.size := (Array.getElem?_eq_some_iff.1 ho).1
      have hol : ops.toList[i]? = some o := by simpa using ho
      have hunf := getD_tf hun
      have hdep : ∀ o', ops.toList[i]? = some o' → ∀ e ∈ o'.after, Region.binds .any e = true → L.getD e.on false = true := fun o' h' => by
        rw [hol] at h'
        obtain rfl := Option.some.inj h'
        exact hdeps
      obtain ⟨q, hq⟩ : ∃ q, nth outs i = some q := by rw [nth_eq, List.getElem?_eq_getElem (by omega)]; exact ⟨_, rfl⟩
      have hlo : ∀ x, x ∈ q.rd ∨ x ∈ q.wr → ∀ j p, j < i → nth outs j = some p → x ∈ p.wr → L.getD j false = true := fun x hx j p hj hp hxw => by
        obtain ⟨m, hm', h3⟩ := apartB_at hap hj (nth_lt hq) hp hq
        rcases h3 with h3 | ⟨h3, _⟩
        · exact mask_on hmask hc i (by simpa using hi2) m hm' hdep j (by simp; omega) h3
        · have := h3 x hxw
          rcases hx with hx | hx
          · exact absurd hx this.1
          · exact absurd hx this.2
      have hhi : ∀ x, x ∈ q.rd ∨ x ∈ q.wr → ∀ j p, i < j → nth outs j = some p → x ∈ p.wr → L.getD j false = false := fun x hx j p hj hp hxw => by
        obtain ⟨m, hm', h3⟩ := apartB_at hap hj (nth_lt hp) hq hp
        rcases h3 with h3 | ⟨h3, h4⟩
        · cases hg : L.getD j false with
          | false => rfl
          | true =>
            have hjl : j < ops.toList.length := by have := nth_lt hp; simp; omega
            have := mask_on hmask hc j hjl m hm' (fun o' ho' => hc j o' ho' hg) i (by simpa using hi2) h3
            rw [hunf] at this
            cases this
        · rcases hx with hx | hx
          · exact absurd hx (h4 x hxw)
          · exact absurd hxw (h3 x hx).2
      have hat : ∀ x, x ∈ q.rd ∨ x ∈ q.wr → s.at x = (stAt s0 outs i).at x := fun x hx => by
        obtain ⟨m, hm1, hm2, hm3, hm4⟩ := hw x
        rw [hm2]
        rcases Nat.le_total m i with hmi | hmi
        · have := stays hrun x m (i - m) (by omega) (fun j p h3 h4 hp hxw => hm4 j p h3 hp (hlo x hx j p (by omega) hp hxw) hxw)
          rw [show m + (i - m) = i by omega] at this
          exact this.symm
        · have := stays hrun x i (m - i) (by omega) (fun j p h3 h4 hp hxw => by
            have h5 := hm3 j p (by omega) hp hxw
            rcases Nat.lt_or_eq_of_le h3 with h6 | h6
            · rw [hhi x hx j p h6 hp hxw] at h5; cases h5
            · rw [← h6, hunf] at h5; cases h5)
          rw [show i + (m - i) = m by omega] at this
          exact this
      obtain ⟨o', r1, -, r3, r4, r5, r6, r7, r8, -⟩ := run_local (f i) _ s q (hrun i q hq) (fun x hx => hat x (.inl hx))
      have hall : AllP o'.ob := by rw [r6]; exact hob q (by rw [nth_eq] at hq; exact List.mem_of_getElem? hq)
      have hfresh : ∀ id ∈ o'.nw, E id = none := fun id hid => by
        rw [r5] at hid
        cases he : E id with
        | none => rfl
        | some x =>
          rcases h2 id (by rw [he]; simp) with h3 | ⟨j, p, hp, hl, hpi⟩
          · exact absurd (hfr id (List.mem_flatMap.2 ⟨q, by rw [nth_eq] at hq; exact List.mem_of_getElem? hq, hid⟩)) h3
          · -- two operations with one new name
            exfalso
            have hji : j ≠ i := fun e => by subst e; rw [hunf] at hl; cases hl
            have two : ∀ (l : List (Out Unit)) (i j : Nat) (p q : Out Unit), (l.flatMap (·.nw)).Nodup → i < j → nth l i = some p → nth l j = some q → id ∈ p.nw → id ∈ q.nw → False := by
              intro l
              induction l with
              | nil => intro i j p q _ _ h; simp [nth] at h
              | cons z l ih2 =>
                intro i j p q hn hij h3 h4 h5 h6
                rw [List.flatMap_cons, List.nodup_append] at hn
                cases i with
                | zero =>
                  simp only [nth, Option.some.injEq] at h3
                  subst h3
                  cases j with
                  | zero => omega
                  | succ j =>
                    simp only [nth] at h4
                    exact hn.2.2 id h5 id (List.mem_flatMap.2 ⟨q, by rw [nth_eq] at h4; exact List.mem_of_getElem? h4, h6⟩) rfl
                | succ i =>
                  cases j with
                  | zero => omega
                  | succ j => exact ih2 i j p q hn.2.1 (by omega) (by simpa [nth] using h3) (by simpa [nth] using h4) h5 h6
            rcases Nat.lt_or_gt_of_ne hji with h7 | h7
            · exact two outs j i p q hnw h7 hp hq hpi hid
            · exact two outs i j q p hnw h7 hq hp hid hpi
      have hstep := hop i o ho rnd D E s W a o' r1 hall hr hfresh (wpAnyIn (Fw rnd) 0 P .any ops Q fuel (L.setIfInBounds i true)) Q fun E' W' a' hx hr' hm' => by
        refine ih (L.setIfInBounds i true) E' o'.s W' a' (by have := left_set hun; omega) (by simpa using hL) (clo_set (by simpa using hL) hc (by simpa using hi2) hdep) (fun x => ?_) hr' (hm.trans hm') (fun id y hy => hx.1 id y (h1 id y hy)) (fun id he => ?_)
        · by_cases hxw : x ∈ q.wr
          · refine ⟨i + 1, by have := nth_lt hq; omega, ?_, fun j p hj hp hpw => ?_, fun j p hj hp hl => ?_⟩
            · rw [r7 x hxw]; simp only [stAt, hq]
            · rcases Nat.lt_or_eq_of_le (Nat.le_of_lt_succ hj) with h3 | h3
              · by_cases e : i = j
                · omega
                · rw [getD_other e]; exact hlo x (.inr hxw) j p h3 hp hpw
              · rw [h3]; exact getD_self (by omega) _
            · intro hpw
              rw [getD_other (by omega), hhi x (.inr hxw) j p (by omega) hp hpw] at hl
              cases hl
          · obtain ⟨m, hm1, hm2, hm3, hm4⟩ := hw x
            refine ⟨m, hm1, (r8 x hxw).trans hm2, fun j p hj hp hpw => ?_, fun j p hj hp hl => ?_⟩
            · by_cases e : i = j
              · rw [← e]; exact getD_self (by omega) _
              · rw [getD_other e]; exact hm3 j p hj hp hpw
            · by_cases e : i = j
              · subst e
                rw [hq] at hp
                obtain rfl := Option.some.inj hp
                exact hxw
              · rw [getD_other e] at hl; exact hm4 j p hj hp hl
        · rcases hx.2 id he with h3 | h3
          · refine (h2 id h3).imp_right fun ⟨j, p, hp, hl, hpi⟩ => ⟨j, p, hp, ?_, hpi⟩
            by_cases e : i = j
            · rw [← e]; exact getD_self (by omega) _
            · rw [getD_other e]; exact hl
          · rw [r5] at h3
            exact .inr ⟨i, q, hq, getD_self (by omega) _, h3⟩
      unfold wpOpIn
      simp only [ho]
      by_cases hwd : Region.wanted o (yielded ops a.tmps) = true
      · rw [if_pos hwd] at hstep ⊢
        exact hstep
      · rw [if_neg hwd] at hstep ⊢
        exact ⟨fun _ _ => trivial, hstep⟩
end main
end Go.Proofs.Ytbgbjgedjmhcaaa
namespace Go.Proofs.Ytbgbjgedjmhcaaa
open Go.RowKit
def SemAt (P : Program) (E : Env) (s : St) (W : World) (sem : Sem Value) (c : Ac AV) : Prop :=
  ∀ out, c.run s = some out → AllP out.ob → (∀ id ∈ out.nw, E id = none) → out.s.slots = s.slots ∧ ∃ cv W' E', sem.run P W = .ok cv W' ∧ Ext E E' out.nw ∧ RV E' out.a cv ∧ RH E' out.s.heap W' ∧ Mod E s.heap W E' out.s.heap W'
section
variable {P : Program} {E : Env} {s : St} {W : World} {sem : Sem Value}
theorem SemAt.fail : SemAt P E s W sem .fail := fun out h => by simp [Ac.run] at h
theorem SemAt.ret (r : RH E s.heap W) {v : AV} {cv : Value} (h : sem.run P W = .ok cv W) (hv : RV E v cv) : SemAt P E s W sem (.ret v) := fun out ho _ _ => by
  simp only [Ac.run, Option.some.injEq] at ho
  subst ho
  exact ⟨rfl, cv, W, E, h, Ext.refl E, hv, r, Mod.refl _ _ _⟩
theorem SemAt.need {p : Prop} {k : Ac AV} (h : p → SemAt P E s W sem k) : SemAt P E s W sem (.need p k) := fun out ho hp hn => by
  simp only [Ac.run] at ho
  split at ho
  · cases ho
  · rename_i q hq
    simp only [Option.some.injEq] at ho
    subst ho
    exact h hp.1 q hq hp.2 hn
theorem SemAt.get {id : Nat} {k : Ob → Ac AV} (h : ∀ o, find s.heap id = some o → SemAt P E s W sem (k o)) : SemAt P E s W sem (.get id k) := fun out ho hp hn => by
  simp only [Ac.run] at ho
  split at ho
  · cases ho
  · rename_i o hf
    split at ho
    · cases ho
    · rename_i q hq
      simp only [Option.some.injEq] at ho
      subst ho
      exact h o hf q hq hp hn
end
def SemQ (P : Program) (E : Env) (s : St) (W : World) (sem : Sem Value) (c : Ac AV) : Prop :=
  ∀ out, c.run s = some out → AllP out.ob → out.s = s ∧ out.nw = [] ∧ ∃ cv, sem.run P W = .ok cv W ∧ RV E out.a cv
section
variable {P : Program} {E : Env} {s : St} {W : World} {sem : Sem Value}
theorem SemQ.fail : SemQ P E s W sem .fail := fun out h => by simp [Ac.run] at h
theorem SemQ.ret {v : AV} {cv : Value} (h : sem.run P W = .ok cv W) (hv : RV E v cv) : SemQ P E s W sem (.ret v) := fun out ho _ => by
  simp only [Ac.run, Option.some.injEq] at ho
  subst ho
  exact ⟨rfl, rfl, cv, h, hv⟩
theorem SemQ.need {p : Prop} {k : Ac AV} (h : p → SemQ P E s W sem k) : SemQ P E s W sem (.need p k) := fun out ho hp => by
  simp only [Ac.run] at ho
  split at ho
  · cases ho
  · rename_i q hq
    simp only [Option.some.injEq] at ho
    subst ho
    exact h hp.1 q hq hp.2
theorem SemQ.get {id : Nat} {k : Ob → Ac AV} (h : ∀ o, find s.heap id = some o → SemQ P E s W sem (k o)) : SemQ P E s W sem (.get id k) := fun out ho hp => by
  simp only [Ac.run] at ho
  split at ho
  · cases ho
  · rename_i o hf
    split at ho
    · cases ho
    · rename_i q hq
      simp only [Option.some.injEq] at ho
      subst ho
      exact h o hf q hq hp
theorem SemQ.at {c : Ac AV} (r : RH E s.heap W) (h : SemQ P E s W sem c) : SemAt P E s W sem c := fun out ho hp hn => by
  obtain ⟨h1, h2, cv, h3, h4⟩ := h out ho hp
  refine ⟨by rw [h1], cv, W, E, h3, by rw [h2]; exact Ext.refl E, h4, by rw [h1]; exact r, by rw [h1]; exact Mod.refl _ _ _⟩
end
theorem nw_set (E : Env) (id : Nat) (x : Option Addr × Nat) (hn : E id = none) : Ext E (fun y => if y = id then some x else E y) [id] := by
  refine ⟨fun y z h => ?_, fun y h => ?_⟩
  · have : y ≠ id := fun e => by rw [e, hn] at h; cases h
    simp only [if_neg this]; exact h
  · by_cases e : y = id
    · exact .inr (by simp [e])
    · simp only [if_neg e] at h; exact .inl h
theorem blkOf_ext {E E' : Env} (h : ∀ id x, E id = some x → E' id = some x) {id : Nat} {x : Option Addr × Nat} (hb : E id = some x) : blkOf E' id = blkOf E id := by
  simp only [blkOf, hb, h id x hb]
theorem RH.change {E E' : Env} {h h' : Hp} {W W' : World} {id : Nat} {o : Ob} {nw : List Nat} {row : Option Nat} (r : RH E h W) (hx : Ext E E' nw) (g : W.grownBy W' row)
    (hrow : ∀ b, row = some b → ∃ id0 o0, find h id0 = some o0 ∧ o0.owned = true ∧ Foot E W id0 o0 b ∧ (id0 = id ∨ find h' id0 = none))
    (hf : find h' id = some o) (hrest : ∀ x, x ≠ id → ∀ y, find h' x = some y → find h x = some y) (hh : Holds E' W' id o) (hb : ∀ b, Foot E' W' id o b → row = some b ∨ W.heap.size ≤ b) : RH E' h' W' ∧ Mod E h W E' h' W' := by
  have hbx0 : ∀ x y, x ≠ id → find h' x = some y → blkOf E' x = blkOf E x ∧ Holds E W x y ∧ find h x = some y := fun x y hne hxy => by
    have h1 := r.holds x y (hrest x hne y hxy)
    obtain ⟨z, hz⟩ := h1.bound
    exact ⟨blkOf_ext hx.1 hz, h1, hrest x hne y hxy⟩
  have hnr : ∀ x y b, x ≠ id → find h' x = some y → Foot E W x y b → row ≠ some b := fun x y b hne hxy hxb hr => by
    obtain ⟨id0, o0, h1, h2, h3, h4⟩ := hrow b hr
    have : id0 ≠ x := by
      rcases h4 with h4 | h4
      · rw [h4]; exact fun e => hne e.symm
      · intro e; rw [e, hxy] at h4; cases h4
    exact r.apart id0 x o0 y h1 (hbx0 x y hne hxy).2.2 this h2 b h3 hxb
  have hbx : ∀ x y, x ≠ id → find h' x = some y → (∀ b, Foot E' W' x y b → Foot E W x y b) ∧ Holds E W x y ∧ find h x = some y ∧ Holds E' W' x y := fun x y hne hxy => by
    obtain ⟨h1, h2, h3⟩ := hbx0 x y hne hxy
    have hk : ∀ b, Foot E W x y b → W'.heap[b]? = W.heap[b]? := fun b hb' => g.block b (Holds.blk_lt hb' h2) fun hr => hnr x y b hne hxy hb' hr.symm
    exact ⟨fun b hb' => Foot.kept g.size hk h2 b (hb'.cg h1.symm), h2, h3, (h2.kept g.size hk).mono hx.1⟩
  refine ⟨⟨fun x y hxy => ?_, fun x1 x2 o1 o2 h1 h2 hne ho b hb1 hb2 => ?_⟩, ⟨g.os, g.tape, g.output, g.size, fun b hlt hno => ?_, fun x y b h1 h3 => ?_⟩⟩
  · by_cases e : x = id
    · subst e
      rw [hf] at hxy
      obtain rfl := Option.some.inj hxy
      exact hh
    · exact (hbx x y e hxy).2.2.2
  · by_cases e1 : x1 = id
    · subst e1
      rw [hf] at h1
      obtain rfl := Option.some.inj h1
      have e2 : x2 ≠ x1 := fun e => hne e.symm
      obtain ⟨k1, k2, k3, _⟩ := hbx x2 o2 e2 h2
      have hb2 := k1 b hb2
      rcases hb b hb1 with hr | hr
      · exact hnr x2 o2 b e2 h2 hb2 hr
      · have := Holds.blk_lt hb2 k2; omega
    · obtain ⟨k1, k2, k3, _⟩ := hbx x1 o1 e1 h1
      have hb1 := k1 b hb1
      by_cases e2 : x2 = id
      · subst e2
        rw [hf] at h2
        obtain rfl := Option.some.inj h2
        rcases hb b hb2 with hr | hr
        · exact hnr x1 o1 b e1 h1 hb1 hr
        · have := Holds.blk_lt hb1 k2; omega
      · obtain ⟨q1, q2, q3, _⟩ := hbx x2 o2 e2 h2
        exact r.apart x1 x2 o1 o2 k3 q3 hne ho b hb1 (q1 b hb2)
  · refine g.block b hlt fun hr => ?_
    obtain ⟨id0, o0, h1, h2, h3, _⟩ := hrow b hr.symm
    exact hno id0 o0 h1 h2 h3
  · by_cases e : x = id
    · subst e
      rw [hf] at h1
      obtain rfl := Option.some.inj h1
      rcases hb b h3 with hr | hr
      · obtain ⟨id0, o0, k1, k2, k3, _⟩ := hrow b hr
        exact .inl ⟨id0, o0, k1, fun _ => k2, k3⟩
      · exact .inr hr
    · obtain ⟨k1, k2, k3, _⟩ := hbx x y e h1
      exact .inl ⟨x, y, k3, fun h => h, k1 b h3⟩
section
variable {P : Program} {E : Env} {s : St} {W : World} {sem : Sem Value}
theorem SemAt.new (r : RH E s.heap W) {id k : Nat} {o : Ob} {v : AV} {cv : Value} {ob : Obj} (h : sem.run P W = .ok cv (W.alloc ob))
    (hh : ∀ E', (∀ i x, E i = some x → E' i = some x) → E' id = some (some ⟨W.heap.size, 0, none⟩, k) → Holds E' (W.alloc ob) id o ∧ RV E' v cv) (hbx : o.bx = none := by rfl) : SemAt P E s W sem (.new id o (.ret v)) := fun out ho _ hn => by
  simp only [Ac.run] at ho
  split at ho
  · cases ho
  · rename_i hf
    simp only [Option.some.injEq] at ho
    subst ho
    have hne := hn id (by simp)
    have hx := nw_set E id (some ⟨W.heap.size, 0, none⟩, k) hne
    obtain ⟨h1, h2⟩ := hh _ hx.1 (by simp)
    obtain ⟨q1, q2⟩ := RH.change (h' := upd s.heap id o) r hx (World.grownBy_alloc W ob none) (fun b hb => by cases hb) (by rw [find_upd]; simp) (fun x hx' y hy => by rw [find_upd, if_neg (fun e => hx' e.symm)] at hy; exact hy) h1 (fun b hb => .inr (by simp [Foot, hbx, FootB, blkOf] at hb; omega))
    exact ⟨rfl, cv, _, _, h, hx, h2, q1, q2⟩
theorem SemAt.put (r : RH E s.heap W) {id : Nat} {o o0 : Ob} {v : AV} {cv : Value} {W' : World} {b : Nat} (hf : find s.heap id = some o0) (ho : o0.owned = true) (hb : blkOf E id = some b) (h : sem.run P W = .ok cv W') (g : W.grownBy W' (some b))
    (hh : Holds E W' id o) (hv : RV E v cv) (hbx : o.bx = none := by rfl) (hbx0 : o0.bx = none := by rfl) : SemAt P E s W sem (.put id o (.ret v)) := fun out ho' _ hn => by
  simp only [Ac.run, hf, Option.some.injEq] at ho'
  subst ho'
  obtain ⟨q1, q2⟩ := RH.change (h' := upd s.heap id o) r (Ext.refl E) g (fun b' hb' => by cases hb'; exact ⟨id, o0, hf, ho, by simp only [Foot, hbx0, FootB]; exact hb, .inl rfl⟩) (by rw [find_upd]; simp) (fun x hx' y hy => by rw [find_upd, if_neg (fun e => hx' e.symm)] at hy; exact hy) hh (fun b' hb' => .inl (by simp only [Foot, hbx, FootB] at hb'; rw [hb] at hb'; exact hb'))
  exact ⟨rfl, cv, W', E, h, Ext.refl E, hv, q1, q2⟩
end
def tySize (P : Program) (t : TypeId) : Option Nat := match P.info? t with
  | some i => some i.size
  | none => none
def tyAgg (P : Program) (t : TypeId) : Option Bool := match P.underlying t with
  | some (.struct _) => some true
  | some (.array _ _) => some true
  | some _ => some false
  | none => none
theorem run_isAgg {P : Program} {t : TypeId} {b : Bool} (h : tyAgg P t = some b) (W : World) : (isAgg t).run P W = .ok b W := by
  unfold tyAgg at h
  unfold isAgg
  cases hu : P.underlying t with
  | none => rw [hu] at h; cases h
  | some d =>
    rw [hu] at h
    rw [Sem.run_bind, run_underlying hu]
    cases d <;> simp_all
theorem run_size {P : Program} {t : TypeId} {n : Nat} (h : tySize P t = some n) (W : World) : (sizeOf t).run P W = .ok n W := by
  unfold tySize at h
  cases hi : P.info? t with
  | none => rw [hi] at h; cases h
  | some i =>
    rw [hi] at h
    simp only [Option.some.injEq] at h
    simp [sizeOf, typeInfo, hi, h]
def lenGe {α : Type} : List α → Nat → Bool
  | _, 0 => true
  | [], _ + 1 => false
  | _ :: l, n + 1 => lenGe l n
theorem lenGe_ok {α : Type} : ∀ {l : List α} {n : Nat}, lenGe l n = true → n ≤ l.length
  | _, 0, _ => Nat.zero_le _
  | [], n + 1, h => by simp [lenGe] at h
  | _ :: l, n + 1, h => by have := lenGe_ok (l := l) (n := n) (by simpa [lenGe] using h); simp; omega
def partA (P : Program) (t : TypeId) (cs : List AV) : Ac AV := match tyAgg P t with
  | some true => match tySize P t with
    | some n => match lenGe cs n with
      | true => .ret (.agg (cs.take n))
      | false => .fail
    | none => .fail
  | some false => match cs with
    | v :: _ => .ret v
    | [] => .fail
  | none => .fail
def winA (o : Ob) (i es j : Nat) (k : List AV → Ac AV) : Ac AV := match o with
  | .blk _ cs => match i with
    | 0 => k (cs.drop j)
    | _ + 1 => .fail
  | .vec _ es' n row => match es == es' with
    | true => .need (i < n) (k ((row i).drop j))
    | false => .fail
  | .ro es' n row => match es == es' with
    | true => .need (i < n) (k ((row i).drop j))
    | false => .fail
  | .obj _ => .fail
  | .box _ => .fail
  | .lp .. => .fail
theorem cellsAt_get {xs : List Value} {es i d : Nat} {u : Value} (h : (cellsAt xs es i)[d]? = some u) : xs[i * es + d]? = some u := by
  unfold cellsAt at h
  rw [List.getElem?_take] at h
  split at h
  · rwa [List.getElem?_drop] at h
  · cases h
section
variable {P : Program} {E : Env} {s : St} {W : World} {sem : Sem Value}
theorem win_ok {id : Nat} {o : Ob} (hh : Holds E W id o) (i es j : Nat) (k : List AV → Ac AV)
    (h : ∀ a kk cs (xs : List Value), E id = some (some a, kk) → RVs E cs xs → (∀ d u, xs[d]? = some u → W.cell? ⟨a.block, a.off + (i * es + j) + d, none⟩ = some u) → SemQ P E s W sem (k cs)) : SemQ P E s W sem (winA o i es j k) := by
  cases o with
  | obj m => exact SemQ.fail
  | box B => exact SemQ.fail
  | lp => exact SemQ.fail
  | blk ty cs =>
    obtain ⟨b, kk, xs, h1, h2, h3, _⟩ := hh
    unfold winA
    cases i with
    | succ i => exact SemQ.fail
    | zero =>
      refine h ⟨b, 0, none⟩ kk _ (xs.drop j) h1 (h3.drop j) fun d u hu => ?_
      rw [List.getElem?_drop] at hu
      simp only [Nat.zero_mul, Nat.zero_add]
      rw [cell_of_row W b _ _ _ _ h2]
      simpa using hu
  | vec ty es' n row =>
    obtain ⟨b, kk, xs, h1, h2, h3, h4⟩ := hh
    unfold winA
    dsimp only
    cases he : es == es' with
    | false => exact SemQ.fail
    | true =>
      dsimp only
      have he' : es = es' := by simpa using he
      subst he'
      refine SemQ.need fun hi => ?_
      have hlt := h4 i hi
      cases b with
      | none =>
        have h5 := h2.2
        rcases h5 with ⟨_, h0⟩ | ⟨g, cap, cur, hv, _⟩
        · omega
        · simp at hv
      | some a =>
        have h5 := h2.cells (g := a.block) rfl
        have hoff : a.off = 0 := by
          rcases h2.2 with ⟨hv, _⟩ | ⟨g, cap, cur, hv, _⟩
          · simp at hv
          · simp only [Value.slice.injEq, Option.some.injEq] at hv; rw [hv.1]
        refine h a kk _ ((cellsAt xs es i).drop j) h1 (hlt.drop j) fun d u hu => ?_
        rw [List.getElem?_drop] at hu
        have := h5 _ u (cellsAt_get hu)
        have hadd : (⟨a.block, 0, none⟩ : Addr).add (i * es + (j + d)) = ⟨a.block, a.off + (i * es + j) + d, none⟩ := by
          rw [hoff]
          unfold Addr.add
          split
          · rename_i h0; simp at h0; simp [h0]
          · simp; omega
        rwa [hadd] at this
  | ro es' n row =>
    obtain ⟨b, kk, xs, h1, h2, h3, h4, h5⟩ := hh
    unfold winA
    dsimp only
    cases he : es == es' with
    | false => exact SemQ.fail
    | true =>
      dsimp only
      have he' : es = es' := by simpa using he
      subst he'
      refine SemQ.need fun hi => ?_
      have hlt := h5 i hi
      rcases h3 with ⟨_, h0, _⟩ | ⟨a, rfl, h6, h7, h8⟩
      · omega
      · refine h a kk _ ((cellsAt xs es i).drop j) h1 (hlt.drop j) fun d u hu => ?_
        rw [List.getElem?_drop] at hu
        have := h8 _ u (cellsAt_get hu)
        rwa [show a.off + (i * es + (j + d)) = a.off + (i * es + j) + d by omega] at this
theorem add_at (a : Addr) (n d : Nat) : (⟨a.block, n, none⟩ : Addr).add d = ⟨a.block, n + d, none⟩ := by
  unfold Addr.add
  split
  · rename_i h; simp [h]
  · rfl
def loadA (P : Program) (t : TypeId) (v : AV) : Ac AV := match v with
  | .ptr id i es j => .get id fun o => winA o i es j (partA P t)
  | _ => .fail
theorem loadVar_ok {t : TypeId} {a : Addr} {n : Nat} {cs : List AV} {xs : List Value} (hc : RVs E cs xs) (hm : ∀ d u, xs[d]? = some u → W.cell? ⟨a.block, n + d, none⟩ = some u) (hs : sem.run P W = (loadVar t ⟨a.block, n, none⟩).run P W) : SemQ P E s W sem (partA P t cs) := by
  unfold partA
  cases hg : tyAgg P t with
  | none => exact SemQ.fail
  | some b =>
    cases b with
    | true =>
      dsimp only
      cases hz : tySize P t with
      | none => exact SemQ.fail
      | some z =>
        dsimp only
        cases hl : lenGe cs z with
        | false => exact SemQ.fail
        | true =>
          dsimp only
          have hlen := lenGe_ok hl
          have hx : (xs.take z).length = z := by rw [List.length_take, hc.length]; omega
          have hrun : (loadCells ⟨a.block, n, none⟩ (xs.take z).length).run P W = .ok (xs.take z).toArray W := run_loadCells_list (P := P) W _ _ fun d u hu => by
            rw [List.getElem?_take] at hu
            split at hu
            · rw [add_at]; exact hm d u hu
            · cases hu
          rw [hx] at hrun
          refine SemQ.ret (cv := .agg (xs.take z).toArray) ?_ ?_
          · rw [hs]
            simp only [loadVar, Sem.run_bind, run_isAgg hg, run_size hz, Result.andThen_ok, if_true, hrun, Sem.run_pure]
          · simp only [RV]
            exact ⟨_, rfl, hc.take z⟩
    | false =>
      dsimp only
      cases cs with
      | nil => exact SemQ.fail
      | cons v l =>
        simp only [RVs] at hc
        obtain ⟨y, m, rfl, h1, h2⟩ := hc
        refine SemQ.ret (cv := y) ?_ h1
        rw [hs]
        have := hm 0 y rfl
        simp only [loadVar, Sem.run_bind, run_isAgg hg, Result.andThen_ok, Bool.false_eq_true, if_false, run_load, Nat.add_zero] at this ⊢
        rw [this]
theorem load_q (r : RH E s.heap W) {t : TypeId} {v : AV} {c : Value} (h : RV E v c) : SemQ P E s W (Instr.loadAt t c) (loadA P t v) := by
  unfold loadA
  split
  · rename_i id i es j
    refine SemQ.get fun o ho => win_ok (r.holds id o ho) i es j _ fun a kk cs xs h1 h2 h3 => ?_
    simp only [RV] at h
    obtain ⟨a', k', e, rfl⟩ := h
    rw [e] at h1
    obtain ⟨rfl, rfl⟩ : a' = a ∧ k' = kk := by simpa using h1
    refine loadVar_ok h2 h3 ?_
    simp only [Instr.loadAt, Instr.sureAddr, Sem.run_bind, Sem.run_pure, Result.andThen_ok]
  · exact SemQ.fail
theorem load_ok (r : RH E s.heap W) {t : TypeId} {v : AV} {c : Value} (h : RV E v c) : SemAt P E s W (Instr.loadAt t c) (loadA P t v) := (load_q r h).at r
end
end Go.Proofs.Ytbgbjgedjmhcaaa
namespace Go.Proofs.Ytbgbjgedjmhcaaa
open Go.RowKit
def cellsOf : AV → Option (List AV)
  | .agg cs => some cs
  | .tup _ => none
  | .junk => none
  | .val (.agg _) => none
  | .val (.tuple _) => none
  | v => some [v]
def one1 : AV → Bool
  | .agg _ => false
  | .tup _ => false
  | .junk => false
  | .val v => v.oneCell'
  | _ => true
def allB {α : Type} (p : α → Bool) : List α → Bool
  | [] => true
  | x :: l => match p x with
    | true => allB p l
    | false => false
theorem allB_ok {α : Type} {p : α → Bool} : ∀ {l : List α}, allB p l = true → ∀ x ∈ l, p x = true
  | [], _, x, h => by cases h
  | y :: l, h, x, hx => by
    unfold allB at h
    cases hp : p y with
    | false => rw [hp] at h; cases h
    | true =>
      rw [hp] at h
      rcases List.mem_cons.1 hx with rfl | hx
      · exact hp
      · exact allB_ok h x hx
theorem one1_ok {E : Env} {v : AV} {c : Value} (h : one1 v = true) (r : RV E v c) : c.oneCell' = true := by
  cases v <;> simp only [one1, RV] at h r
  case val w => subst r; exact h
  case ptr => obtain ⟨a, k, _, rfl⟩ := r; rfl
  case sl id i es n cc =>
    obtain ⟨b, k, _, h2⟩ := r
    cases b with
    | none => obtain ⟨b', rfl, _⟩ := h2; rfl
    | some a => obtain ⟨o, m, rfl, _⟩ := h2; rfl
  case fn => obtain ⟨xs, ys, rfl, _⟩ := r; rfl
  case ifc => obtain ⟨x, rfl, _⟩ := r; rfl
  case mp => obtain ⟨a, k, _, rfl⟩ := r; rfl
  case yld => obtain ⟨a, k, _, rfl⟩ := r; rfl
  case anyB => obtain ⟨b, rfl, _⟩ := r; rfl
  case len => obtain ⟨b, m, rfl⟩ := r; rfl
  all_goals cases h
theorem cells_one {c : Value} (h : c.oneCell' = true) : c.cells = #[c] := by cases c <;> simp_all [Value.oneCell', Value.cells]
theorem cellsOf_ok {E : Env} {v : AV} {c : Value} {cs : List AV} (h : cellsOf v = some cs) (r : RV E v c) : RVs E cs c.cells.toList := by
  have one : ∀ v : AV, one1 v = true → RV E v c → RVs E [v] c.cells.toList := fun v h1 r => by
    rw [cells_one (one1_ok h1 r)]
    simp only [RVs]
    exact ⟨c, [], rfl, r, rfl⟩
  cases v with
  | agg l =>
    simp only [cellsOf, Option.some.injEq] at h
    subst h
    simp only [RV] at r
    obtain ⟨xs, rfl, h1⟩ := r
    simpa [Value.cells] using h1
  | tup l => simp [cellsOf] at h
  | junk => simp [cellsOf] at h
  | val w =>
    cases w <;> simp only [cellsOf, Option.some.injEq] at h <;> first | cases h; done | (subst h; exact one _ rfl r)
  | ptr => simp only [cellsOf, Option.some.injEq] at h; subst h; exact one _ rfl r
  | sl => simp only [cellsOf, Option.some.injEq] at h; subst h; exact one _ rfl r
  | fn => simp only [cellsOf, Option.some.injEq] at h; subst h; exact one _ rfl r
  | ifc => simp only [cellsOf, Option.some.injEq] at h; subst h; exact one _ rfl r
  | mp => simp only [cellsOf, Option.some.injEq] at h; subst h; exact one _ rfl r
  | yld => simp only [cellsOf, Option.some.injEq] at h; subst h; exact one _ rfl r
  | anyB => simp only [cellsOf, Option.some.injEq] at h; subst h; exact one _ rfl r
  | len => simp only [cellsOf, Option.some.injEq] at h; subst h; exact one _ rfl r
def eqN : Nat → Nat → Bool
  | 0, 0 => true
  | n + 1, m + 1 => eqN n m
  | _, _ => false
def lenEq {α : Type} : List α → Nat → Bool
  | [], 0 => true
  | _ :: l, n + 1 => lenEq l n
  | _, _ => false
theorem lenEq_ok {α : Type} : ∀ {l : List α} {n : Nat}, lenEq l n = true → l.length = n
  | [], 0, _ => rfl
  | _ :: l, n + 1, h => by simp [lenEq_ok (l := l) (n := n) (by simpa [lenEq] using h)]
  | [], n + 1, h => by simp [lenEq] at h
  | _ :: _, 0, h => by simp [lenEq] at h
def undefA : AV := .val undef
def putC (xs : List AV) (j : Nat) (cs : List AV) : List AV := xs.take j ++ cs ++ xs.drop (j + cs.length)
def setRow (row : Nat → List AV) (i : Nat) (r : List AV) : Nat → List AV := fun q => if q = i then r else row q
def storeA (P : Program) (t : TypeId) (addr v : AV) : Ac AV := match addr with
  | .ptr id i es j => match cellsOf v with
    | none => .fail
    | some cs => match tySize P t with
      | none => .fail
      | some n => match lenEq cs n, allB one1 cs with
        | true, true => .get id fun o => match o with
          | .blk ty xs => match i with
            | 0 => match lenGe xs (j + n) with
              | true => .put id (.blk ty (putC xs j cs)) (.ret undefA)
              | false => .fail
            | _ + 1 => .fail
          | .vec ty es' m row => match es == es', lenEq (row i) es', lenGe (row i) (j + n) with
            | true, true, true => .need (i < m) (.put id (.vec ty es' m (setRow row i (putC (row i) j cs))) (.ret undefA))
            | _, _, _ => .fail
          | .ro .. => .fail
          | .obj _ => .fail
          | .box _ => .fail
          | .lp .. => .fail
        | _, _ => .fail
  | _ => .fail
section
variable {P : Program} {E : Env} {s : St} {W : World} {sem : Sem Value}
theorem RVs.put {E : Env} {xs cs : List AV} {ys vs : List Value} (h : RVs E xs ys) (k : RVs E cs vs) (j : Nat) : RVs E (putC xs j cs) (ys.take j ++ vs ++ ys.drop (j + vs.length)) := by
  unfold putC
  rw [k.length]
  exact ((h.take j).append k).append (h.drop _)
theorem grown_setRow (W : World) (b : Nat) (cs : Array Value) : W.grownBy (W.setRow b cs) (some b) :=
  ⟨rfl, rfl, rfl, by simp, fun k _ hk => setRow_other W b k cs (fun e => hk (by rw [e]))⟩
theorem app3 (a b c : List Value) (d : Nat) : (a ++ b ++ c)[d]? = if d < a.length then a[d]? else if d - a.length < b.length then b[d - a.length]? else c[d - a.length - b.length]? := by
  rw [List.append_assoc]
  by_cases h : d < a.length
  · rw [if_pos h, List.getElem?_append_left h]
  · rw [if_neg h, List.getElem?_append_right (by omega)]
    by_cases h2 : d - a.length < b.length
    · rw [if_pos h2, List.getElem?_append_left h2]
    · rw [if_neg h2, List.getElem?_append_right (by omega)]
theorem cells_put (ys vs : List Value) (es m i j : Nat) (hlen : m * es ≤ ys.length) (hi : i < m) (hj : j + vs.length ≤ es) (q : Nat) (hq : q < m) :
    cellsAt (ys.take (i * es + j) ++ vs ++ ys.drop (i * es + j + vs.length)) es q = if q = i then (cellsAt ys es i).take j ++ vs ++ (cellsAt ys es i).drop (j + vs.length) else cellsAt ys es q := by
  have hie : i * es + es ≤ m * es := by rw [← Nat.succ_mul]; exact Nat.mul_le_mul_right _ hi
  apply List.ext_getElem?
  intro d
  have hl : (ys.take (i * es + j)).length = i * es + j := by rw [List.length_take]; omega
  unfold cellsAt
  by_cases e : q = i
  · subst e
    rw [if_pos rfl, List.getElem?_take]
    have hl2 : (List.take es (List.drop (q * es) ys)).length = es := by rw [List.length_take, List.length_drop]; omega
    have hl3 : (List.take j (List.take es (List.drop (q * es) ys))).length = j := by rw [List.length_take]; omega
    by_cases hd : d < es
    · rw [if_pos hd, List.getElem?_drop, app3, app3, hl, hl3]
      by_cases h1 : d < j
      · rw [if_pos h1, if_pos (by omega), List.getElem?_take, List.getElem?_take, if_pos (by omega), if_pos h1, List.getElem?_take, if_pos hd, List.getElem?_drop]
      · rw [if_neg h1, if_neg (by omega)]
        by_cases h2 : d - j < vs.length
        · rw [if_pos h2, if_pos (by omega)]
          congr 1; omega
        · rw [if_neg h2, if_neg (by omega), List.getElem?_drop, List.getElem?_drop, List.getElem?_take, if_pos (by omega), List.getElem?_drop]
          congr 1; omega
    · rw [if_neg hd, List.getElem?_eq_none]
      simp only [List.length_append, List.length_drop]
      omega
  · rw [if_neg e, List.getElem?_take, List.getElem?_take]
    by_cases hd : d < es
    · rw [if_pos hd, if_pos hd, List.getElem?_drop, List.getElem?_drop, List.append_assoc]
      rcases Nat.lt_or_gt_of_ne e with h1 | h1
      · have : q * es + es ≤ i * es := by rw [← Nat.succ_mul]; exact Nat.mul_le_mul_right _ h1
        rw [List.getElem?_append_left (by omega), List.getElem?_take, if_pos (by omega)]
      · have : i * es + es ≤ q * es := by rw [← Nat.succ_mul]; exact Nat.mul_le_mul_right _ h1
        rw [List.getElem?_append_right (by omega), hl, List.getElem?_append_right (by omega), List.getElem?_drop]
        congr 1; omega
    · rw [if_neg hd, if_neg hd]
theorem storeVar_run {t : TypeId} {b o : Nat} {c : Value} {cur : Array Value} {ty : TypeId} (hz : tySize P t = some c.cells.toList.length) (hb : W.heap[b]? = some (.cells cur ty (0, 0))) (hfit : o + c.cells.toList.length ≤ cur.size) (h1 : ∀ v ∈ c.cells.toList, v.oneCell' = true) :
    (storeVar t ⟨b, o, none⟩ c).run P W = .ok () (W.setRow b (cur.toList.take o ++ c.cells.toList ++ cur.toList.drop (o + c.cells.toList.length)).toArray) := by
  have := run_storeCells_at P b o ty c.cells.toList 0 cur W hb (by simpa using hfit) h1
  simp only [Nat.add_zero] at this
  have hne : (c.cells.size ≠ c.cells.toList.length) = False := by simp
  simp only [storeVar, Sem.run_bind, run_size hz, Result.andThen_ok, hne, if_false, this]
theorem store_ok (r : RH E s.heap W) {t : TypeId} {addr v : AV} {ca cv : Value} (ha : RV E addr ca) (hv : RV E v cv) : SemAt P E s W (do Instr.storeAt t ca cv; pure undef) (storeA P t addr v) := by
  unfold storeA
  split
  case h_2 => exact SemAt.fail
  rename_i id i es j
  simp only [RV] at ha
  obtain ⟨a, k, he, rfl⟩ := ha
  split
  · exact SemAt.fail
  rename_i cs hcs
  split
  · exact SemAt.fail
  rename_i n hz
  split
  case h_2 => exact SemAt.fail
  rename_i hl h1
  have hrc := cellsOf_ok hcs hv
  have hn : cv.cells.toList.length = n := by rw [hrc.length]; exact lenEq_ok hl
  have hn2 : cv.cells.size = n := by simpa using hn
  have hone : ∀ u ∈ cv.cells.toList, u.oneCell' = true := fun u hu => by
    obtain ⟨q, hq⟩ := List.getElem?_of_mem hu
    have hq2 : q < cs.length := by have := (List.getElem?_eq_some_iff.1 hq).1; rw [hrc.length] at this; exact this
    obtain ⟨y, hy, hy2⟩ := hrc.get q cs[q] (by rw [nth_eq, List.getElem?_eq_getElem hq2])
    rw [hq] at hy
    obtain rfl := Option.some.inj hy
    exact one1_ok (allB_ok h1 _ (List.getElem_mem hq2)) hy2
  rw [← hn] at hz
  have hsem : ∀ (o : Nat) (b : Nat) (ty : TypeId) (cur : Array Value), a.block = b → a.off + (i * es + j) = o → W.heap[b]? = some (.cells cur ty (0, 0)) → o + cv.cells.toList.length ≤ cur.size → (do Instr.storeAt t (.pointer (some ⟨a.block, a.off + (i * es + j), none⟩)) cv; pure undef : Sem Value).run P W = .ok undef (W.setRow b (cur.toList.take o ++ cv.cells.toList ++ cur.toList.drop (o + cv.cells.toList.length)).toArray) := by
    intro o b ty cur h2 h3 h4 h5
    rw [h2, h3]
    have := storeVar_run (P := P) (W := W) (t := t) hz h4 h5 hone
    simp only [Instr.storeAt, Instr.sureAddr, Sem.run_bind, Sem.run_pure, Result.andThen_ok, this]
  refine SemAt.get fun o ho => ?_
  have hh := r.holds id o ho
  cases o with
  | obj => exact SemAt.fail
  | box => exact SemAt.fail
  | lp => exact SemAt.fail
  | ro => exact SemAt.fail
  | blk ty xs =>
    dsimp only
    cases i with
    | succ i => exact SemAt.fail
    | zero =>
      dsimp only
      split
      case h_2 => exact SemAt.fail
      rename_i hge
      obtain ⟨b, k', ys, h2, h3, h4, h5⟩ := hh
      rw [he] at h2
      simp only [Option.some.injEq, Prod.mk.injEq] at h2
      obtain ⟨rfl, rfl⟩ := h2
      have hfit := lenGe_ok hge
      refine SemAt.put r ho rfl (b := b) (by simp [blkOf, he]) (hsem j b ty ys.toArray rfl (by simp) h3 (by have := h4.length; simp; omega)) (grown_setRow _ _ _) ⟨b, k, _, he, setRow_heap W b _ _ ty _ h3, ?_⟩ (by simp [undefA, RV])
      refine ⟨by simpa using h4.put hrc j, ?_⟩
      rw [h5]
      have := h4.length
      simp
      omega
  | vec ty es' m row =>
    dsimp only
    split
    case h_2 => exact SemAt.fail
    rename_i hes hle hge
    have hes' : es = es' := by simpa using hes
    subst hes'
    refine SemAt.need fun hi => ?_
    obtain ⟨b, k', xs, h2, h3, h4, h5⟩ := hh
    rw [he] at h2
    simp only [Option.some.injEq, Prod.mk.injEq] at h2
    obtain ⟨rfl, rfl⟩ := h2
    have hfit := lenGe_ok hge
    have hle' := lenEq_ok hle
    rcases h3.2 with ⟨hv', _⟩ | ⟨g, cap, cur, hv', hg0, hcur, hnc, hcm, hsz, htk⟩
    · simp at hv'
    simp only [Value.slice.injEq, Option.some.injEq, true_and] at hv'
    obtain ⟨rfl, rfl⟩ := hv'
    have hie : i * es + es ≤ m * es := by rw [← Nat.succ_mul]; exact Nat.mul_le_mul_right _ hi
    have hmk : m * es ≤ k * es := Nat.mul_le_mul_right _ hnc
    have hjn : j + cv.cells.toList.length ≤ es := by omega
    refine SemAt.put r ho rfl (b := g) (by simp [blkOf, he]) (hsem (i * es + j) g ty cur rfl (by simp) hcur (by rw [hsz]; omega)) (grown_setRow _ _ _)
      ⟨_, _, (xs.take (i * es + j) ++ cv.cells.toList ++ xs.drop (i * es + j + cv.cells.toList.length)), he, ⟨?_, .inr ⟨g, k, _, rfl, hg0, setRow_heap W g _ _ ty _ hcur, hnc, hcm, ?_, ?_⟩⟩, ?_, ?_⟩ (by simp [undefA, RV])
    · have := h3.1
      simp only [List.length_append, List.length_take, List.length_drop]
      omega
    · simp only [List.size_toArray, List.length_append, List.length_take, List.length_drop, Array.length_toList]
      omega
    · rw [← htk]
      apply List.ext_getElem?
      intro d
      have e1 : (List.take (i * es + j) cur.toList).length = i * es + j := by rw [List.length_take]; simp; omega
      have e2 : (List.take (i * es + j) (List.take (m * es) cur.toList)).length = i * es + j := by rw [List.length_take, List.length_take]; simp; omega
      rw [List.getElem?_take, app3, app3, e1, e2]
      by_cases hd : d < m * es
      · rw [if_pos hd]
        by_cases h6 : d < i * es + j
        · rw [if_pos h6, if_pos h6, List.getElem?_take, List.getElem?_take, if_pos h6, if_pos h6, List.getElem?_take, if_pos hd]
        · rw [if_neg h6, if_neg h6]
          by_cases h7 : d - (i * es + j) < cv.cells.toList.length
          · rw [if_pos h7, if_pos h7]
          · rw [if_neg h7, if_neg h7, List.getElem?_drop, List.getElem?_drop, List.getElem?_take, if_pos (by omega)]
      · rw [if_neg hd, if_neg (by omega), if_neg (by omega), List.getElem?_eq_none]
        rw [List.length_drop, List.length_take, Array.length_toList]
        omega
    · intro u hu
      rcases List.mem_append.1 hu with hu | hu
      · rcases List.mem_append.1 hu with hu | hu
        · exact h4 u (List.mem_of_mem_take hu)
        · exact hone u hu
      · exact h4 u (List.mem_of_mem_drop hu)
    · intro q hq
      rw [cells_put xs cv.cells.toList es m i j (by rw [h3.1]; exact Nat.le_refl _) hi hjn q hq]
      unfold setRow
      by_cases e : q = i
      · rw [if_pos e, if_pos e]; exact (h5 i hi).put hrc j
      · rw [if_neg e, if_neg e]; exact h5 q hq
def zeroA (P : Program) (t : TypeId) : Option (List AV) := match P.info? t with
  | some i => match i.zero with
    | some z => some (z.cells.toList.map .val)
    | none => none
  | none => none
theorem RVs.vals {E : Env} : ∀ (l : List Value), RVs E (l.map .val) l
  | [] => by simp [RVs]
  | x :: l => by simp only [List.map_cons, RVs]; exact ⟨x, l, rfl, by simp [RV], RVs.vals l⟩
def allocA (P : Program) (nm : Nat) (t : TypeId) : Ac AV := match zeroA P t with
  | some cs => .new nm (.blk t cs) (.ret (.ptr nm 0 0 0))
  | none => .fail
def boxA (nm : Nat) (t : TypeId) (v : AV) : Ac AV := match cellsOf v with
  | some cs => .new nm (.blk t cs) (.ret (.ptr nm 0 0 0))
  | none => .fail
theorem newBlk (r : RH E s.heap W) {nm : Nat} {t : TypeId} {cs : List AV} {xs : Array Value} (hx : RVs E cs xs.toList) (h : sem.run P W = .ok (.pointer (some ⟨W.heap.size, 0, none⟩)) (W.alloc (.cells xs t))) : SemAt P E s W sem (.new nm (.blk t cs) (.ret (.ptr nm 0 0 0))) := by
  refine SemAt.new r (k := xs.toList.length) h fun E' he hn => ⟨⟨_, _, xs.toList, hn, heap_alloc_new W _, RVs.mono he _ _ hx, rfl⟩, ?_⟩
  simp only [RV]
  exact ⟨_, _, hn, by simp⟩
theorem alloc_ok (r : RH E s.heap W) (nm : Nat) (t : TypeId) : SemAt P E s W (Instr.alloc t true (.tuple #[])) (allocA P nm t) := by
  unfold allocA
  split
  case h_2 => exact SemAt.fail
  rename_i cs hcs
  unfold zeroA at hcs
  cases hi : P.info? t with
  | none => rw [hi] at hcs; cases hcs
  | some i =>
    rw [hi] at hcs
    dsimp only at hcs
    cases hz : i.zero with
    | none => rw [hz] at hcs; cases hcs
    | some z =>
      rw [hz] at hcs
      simp only [Option.some.injEq] at hcs
      subst hcs
      refine newBlk r (xs := z.cells) (RVs.vals _) ?_
      simp [Instr.alloc, zeroValue, typeInfo, hi, hz, newVar, newRow]
theorem box_ok (r : RH E s.heap W) (nm : Nat) (t : TypeId) {v : AV} {c : Value} (h : RV E v c) : SemAt P E s W (Instr.box t c) (boxA nm t v) := by
  unfold boxA
  split
  case h_2 => exact SemAt.fail
  rename_i cs hcs
  refine newBlk r (cellsOf_ok hcs h) ?_
  simp [Instr.box, newVar, newRow]
def fillA (place : Nat → Option (Nat × Nat)) (cells : List AV) : List (Nat × AV) → Option (List AV)
  | [] => some cells
  | (i, v) :: rest => match place i with
    | none => none
    | some (off, size) => match cellsOf v with
      | none => none
      | some cs => match lenEq cs size, lenGe cells (off + size) with
        | true, true => fillA place (putC cells off cs) rest
        | _, _ => none
def RPs (E : Env) : List (Nat × AV) → List (Nat × Value) → Prop
  | [], ys => ys = []
  | (i, v) :: xs, ys => ∃ y l, ys = (i, y) :: l ∧ RV E v y ∧ RPs E xs l
theorem fold_put (off : Nat) : ∀ (vs : List Value) (j : Nat) (cur : Array Value), off + j + vs.length ≤ cur.size →
    ((vs.zipIdx j).foldl (fun (cs : Array Value) (p : Value × Nat) => cs.setIfInBounds (off + p.2) p.1) cur).toList = cur.toList.take (off + j) ++ vs ++ cur.toList.drop (off + j + vs.length)
  | [], j, cur, h => by simp
  | v :: vs, j, cur, h => by
    rw [List.zipIdx_cons, List.foldl_cons, fold_put off vs (j + 1) _ (by simp at h ⊢; omega)]
    simp only [Array.toList_setIfInBounds, List.length_cons] at h ⊢
    have e := list_seg_step cur.toList (off + j) v vs (by simp at h ⊢; omega)
    simpa [Nat.add_assoc, Nat.add_comm, Nat.add_left_comm] using e
theorem fill_ok {place : Nat → Option (Nat × Nat)} : ∀ {parts : List (Nat × AV)} {vparts : List (Nat × Value)} {cells : List AV} {cur : Array Value} {out : List AV}, fillA place cells parts = some out → RPs E parts vparts → RVs E cells cur.toList →
    ∃ res, Instr.fill place cur vparts = some res ∧ RVs E out res.toList
  | [], vparts, cells, cur, out, h, hp, hc => by
    simp only [RPs] at hp
    subst hp
    simp only [fillA, Option.some.injEq] at h
    subst h
    exact ⟨cur, rfl, hc⟩
  | (i, v) :: rest, vparts, cells, cur, out, h, hp, hc => by
    simp only [RPs] at hp
    obtain ⟨y, l, rfl, hv, hl⟩ := hp
    unfold fillA at h
    split at h
    · cases h
    rename_i off size hpl
    split at h
    · cases h
    rename_i cs hcs
    split at h
    case h_2 => cases h
    rename_i hle hge
    have hrc := cellsOf_ok hcs hv
    have h1 := lenEq_ok hle
    have h2 := lenGe_ok hge
    have h3 := hc.length
    have h4 : y.cells.toList.length = size := by rw [hrc.length]; exact h1
    have hfp := fold_put off y.cells.toList 0 cur (by simp at h3 ⊢; simp at h4; omega)
    simp only [Nat.add_zero] at hfp
    obtain ⟨res, q1, q2⟩ := fill_ok (cur := ((y.cells.toList.zipIdx 0).foldl (fun (cs : Array Value) (p : Value × Nat) => cs.setIfInBounds (off + p.2) p.1) cur)) h hl (by rw [hfp]; exact hc.put hrc off)
    refine ⟨res, ?_, q2⟩
    unfold Instr.fill
    rw [hpl]
    dsimp only
    have hc1 : (decide (y.cells.size ≠ size) || decide (off + y.cells.size > cur.size)) = false := by
      simp at h3 h4 ⊢
      omega
    rw [if_neg (by rw [hc1]; simp)]
    rw [← q1]
    congr 1
    rw [← Array.foldl_toList]
    simp
def placesA (P : Program) : List Field → Option (List (Nat × Nat))
  | [] => some []
  | f :: fs => match tySize P f.type, placesA P fs with
    | some n, some l => some ((f.offset, n) :: l)
    | _, _ => none
theorem places_ok : ∀ {fs : List Field} {l : List (Nat × Nat)}, placesA P fs = some l → fs.mapM (fun f => (P.info? f.type).map fun i => (f.offset, i.size)) = some l
  | [], l, h => by simp only [placesA, Option.some.injEq] at h; subst h; rfl
  | f :: fs, l, h => by
    unfold placesA at h
    split at h
    case h_2 => cases h
    rename_i n m hz hm
    simp only [Option.some.injEq] at h
    subst h
    unfold tySize at hz
    cases hi : P.info? f.type with
    | none => rw [hi] at hz; cases hz
    | some i =>
      rw [hi] at hz
      simp only [Option.some.injEq] at hz
      simp [List.mapM_cons, hi, places_ok hm, hz]
def buildA (P : Program) (t : TypeId) (parts : List (Nat × AV)) : Ac AV := match zeroA P t with
  | none => .fail
  | some z => match P.underlying t with
    | some (.struct fields) => match placesA P fields.toList with
      | none => .fail
      | some places => match fillA (nth places) z parts with
        | some cs => .ret (.agg cs)
        | none => .fail
    | some (.array _ e) => match tySize P e with
      | none => .fail
      | some n => match fillA (fun i => some (i * n, n)) z parts with
        | some cs => .ret (.agg cs)
        | none => .fail
    | _ => .fail
theorem zeroA_ok {t : TypeId} {cs : List AV} (h : zeroA P t = some cs) : ∃ i z, P.info? t = some i ∧ i.zero = some z ∧ cs = z.cells.toList.map .val := by
  unfold zeroA at h
  cases hi : P.info? t with
  | none => rw [hi] at h; cases h
  | some i =>
    rw [hi] at h
    dsimp only at h
    cases hz : i.zero with
    | none => rw [hz] at h; cases h
    | some z =>
      rw [hz] at h
      simp only [Option.some.injEq] at h
      exact ⟨i, z, rfl, hz, h.symm⟩
theorem build_ok (r : RH E s.heap W) (t : TypeId) {parts : List (Nat × AV)} {vparts : Array (Nat × Value)} (h : RPs E parts vparts.toList) : SemAt P E s W (Instr.build t vparts) (buildA P t parts) := by
  unfold buildA
  split
  · exact SemAt.fail
  rename_i z hz
  obtain ⟨it, zv, hi, hzv, rfl⟩ := zeroA_ok hz
  split
  · rename_i fields hu
    split
    · exact SemAt.fail
    rename_i places hpl
    split
    case h_2 => exact SemAt.fail
    rename_i cs hcs
    obtain ⟨res, q1, q2⟩ := fill_ok hcs h (RVs.vals zv.cells.toList)
    refine SemAt.ret r (run_build W t vparts res ?_) (by simp only [RV]; exact ⟨res.toList, rfl, q2⟩)
    unfold Program.built
    have e : (fun i => nth places i) = fun i => places.toArray[i]? := by funext i; rw [nth_eq]; simp
    rw [hi, hu]
    simp only [hzv, places_ok hpl]
    rw [← q1]
    congr 1
    exact e.symm
  · rename_i n e hu
    split
    · exact SemAt.fail
    rename_i size hsz
    split
    case h_2 => exact SemAt.fail
    rename_i cs hcs
    obtain ⟨res, q1, q2⟩ := fill_ok hcs h (RVs.vals zv.cells.toList)
    refine SemAt.ret r (run_build W t vparts res ?_) (by simp only [RV]; exact ⟨res.toList, rfl, q2⟩)
    unfold Program.built
    unfold tySize at hsz
    cases hie : P.info? e with
    | none => rw [hie] at hsz; cases hsz
    | some ie =>
      rw [hie] at hsz
      simp only [Option.some.injEq] at hsz
      rw [hi, hu]
      simp only [hzv, hie, hsz, q1]
  · exact SemAt.fail
end
end Go.Proofs.Ytbgbjgedjmhcaaa
namespace Go.Proofs.Ytbgbjgedjmhcaaa
open Go.RowKit
inductive Hint where
  | none
  | tt (b : Bool)
  | wrap
  | eq (z : Int)
  | call (ids : List Nat) (ret : AV) (outs : List (Nat × Option Ob))
  | row (cs : List AV)
  | is (v : AV)
  | inpl
  | cell (v : AV)
  | ext (v : AV)
  | inv (f : FuncId) (rx : AV) (ids : List Nat) (ret : AV) (outs : List (Nat × Option Ob))
def loadH (P : Program) (h : Hint) (t : TypeId) (v : AV) : Ac AV := match h with
  | .row cs => match v with
    | .ptr id i es j => .get id fun o => winA o i es j fun ds => .need (ds = cs) (partA P t cs)
    | _ => .fail
  | .cell w => match v with
    | .ptr id 0 _ j => .get id fun o => match o with
      | .blk _ cs => .need (nth cs j = some w) (partA P t [w])
      | _ => .fail
    | _ => .fail
  | _ => loadA P t v
section
variable {P : Program} {E : Env} {s : St} {W : World} {sem : Sem Value}
theorem loadH_ok (r : RH E s.heap W) (h : Hint) {t : TypeId} {v : AV} {c : Value} (hv : RV E v c) : SemAt P E s W (Instr.loadAt t c) (loadH P h t v) := by
  unfold loadH
  split
  · split
    · rename_i id i es j
      refine (SemQ.get fun o ho => win_ok (r.holds id o ho) i es j _ fun a kk cs xs h1 h2 h3 => SemQ.need fun e => ?_).at r
      subst e
      simp only [RV] at hv
      obtain ⟨a', k', e, rfl⟩ := hv
      rw [e] at h1
      obtain ⟨rfl, rfl⟩ : a' = a ∧ k' = kk := by simpa using h1
      refine loadVar_ok h2 h3 ?_
      simp only [Instr.loadAt, Instr.sureAddr, Sem.run_bind, Sem.run_pure, Result.andThen_ok]
    · exact SemQ.fail.at r
  · split
    · rename_i w id es j
      simp only [RV] at hv
      obtain ⟨a, k, he, rfl⟩ := hv
      refine (SemQ.get fun o ho => ?_).at r
      split
      · rename_i ty cs
        refine SemQ.need fun e => ?_
        obtain ⟨b, k', xs, h1, h2, h3, _⟩ := r.holds id _ ho
        rw [he] at h1
        simp only [Option.some.injEq, Prod.mk.injEq] at h1
        obtain ⟨rfl, rfl⟩ := h1
        obtain ⟨y, hy, hy2⟩ := h3.get _ _ e
        refine loadVar_ok (a := ⟨b, 0, none⟩) (n := 0 + (0 * es + j)) (xs := [y]) (by simp only [RVs]; exact ⟨_, _, rfl, hy2, rfl⟩) (fun d u hu => ?_) ?_
        · cases d with
          | zero =>
            simp only [List.getElem?_cons_zero, Option.some.injEq] at hu
            subst hu
            simpa [World.cell?, h2] using hy
          | succ d => simp at hu
        · simp only [Instr.loadAt, Instr.sureAddr, Sem.run_bind, Sem.run_pure, Result.andThen_ok]
      · exact SemQ.fail
    · exact SemQ.fail.at r
  · exact load_ok r hv
theorem part_ok (r : RH E s.heap W) {t : TypeId} {cs : List AV} {xs : List Value} (hc : RVs E cs xs) (off : Nat) (hs : sem.run P W = (part t xs.toArray off).run P W) : SemAt P E s W sem (partA P t (cs.drop off)) := by
  unfold partA
  cases hg : tyAgg P t with
  | none => exact SemAt.fail
  | some b =>
    cases b with
    | true =>
      dsimp only
      cases hz : tySize P t with
      | none => exact SemAt.fail
      | some z =>
        dsimp only
        cases hl : lenGe (cs.drop off) z with
        | false => exact SemAt.fail
        | true =>
          dsimp only
          refine SemAt.ret r (cv := .agg ((xs.drop off).take z).toArray) ?_ (by simp only [RV]; exact ⟨_, rfl, (hc.drop off).take z⟩)
          rw [hs]
          have e : xs.toArray.extract off (off + z) = ((xs.drop off).take z).toArray := by
            apply Array.ext'
            simp [List.take_drop]
          simp only [part, Sem.run_bind, run_isAgg hg, run_size hz, Result.andThen_ok, if_true, Sem.run_pure, e]
    | false =>
      dsimp only
      cases hd : cs.drop off with
      | nil => exact SemAt.fail
      | cons v l =>
        have hn : nth cs off = some v := by rw [nth_eq]; have := congrArg (fun l => l[0]?) hd; simpa using this
        obtain ⟨y, hy, hy2⟩ := hc.get off v hn
        refine SemAt.ret r (cv := y) ?_ hy2
        rw [hs]
        have : xs.toArray[off]? = some y := by simpa using hy
        simp only [part, Sem.run_bind, run_isAgg hg, Result.andThen_ok, Bool.false_eq_true, if_false, this, Sem.run_pure]
def fieldOf (P : Program) (t : TypeId) (f : Nat) : Option Field := match P.underlying t with
  | some (.struct fs) => nth fs.toList f
  | _ => none
theorem fieldOf_ok {t f : Nat} {fd : Field} (h : fieldOf P t f = some fd) : ∃ fs, P.underlying t = some (.struct fs) ∧ fs[f]? = some fd := by
  unfold fieldOf at h
  split at h
  · rename_i fs hu
    rw [nth_eq] at h
    exact ⟨fs, hu, by simpa using h⟩
  · cases h
def fieldA (P : Program) (t : TypeId) (v : AV) (f : Nat) : Ac AV := match v with
  | .agg cs => match fieldOf P t f with
    | some fd => partA P fd.type (cs.drop fd.offset)
    | none => .fail
  | _ => .fail
theorem field_ok (r : RH E s.heap W) (t : TypeId) {v : AV} {c : Value} (h : RV E v c) (f : Nat) : SemAt P E s W (Instr.field t c f) (fieldA P t v f) := by
  unfold fieldA
  split
  case h_2 => exact SemAt.fail
  rename_i cs
  split
  case h_2 => exact SemAt.fail
  rename_i fd hf
  obtain ⟨fs, hu, hfd⟩ := fieldOf_ok hf
  simp only [RV] at h
  obtain ⟨xs, rfl, h1⟩ := h
  refine part_ok r h1 fd.offset ?_
  simp only [Instr.field, Sem.run_bind, run_underlying hu, Result.andThen_ok, hfd, asAgg, Sem.run_pure]
def fieldAddrA (P : Program) (t : TypeId) (v : AV) (f : Nat) : Ac AV := match v with
  | .ptr id i es j => match fieldOf P t f with
    | some fd => match tySize P fd.type with
      | some (_ + 1) => .ret (.ptr id i es (j + fd.offset))
      | _ => .fail
    | none => .fail
  | _ => .fail
theorem fieldAddr_ok (r : RH E s.heap W) (t : TypeId) {v : AV} {c : Value} (h : RV E v c) (f : Nat) : SemAt P E s W (Instr.fieldAt t c f) (fieldAddrA P t v f) := by
  unfold fieldAddrA
  split
  case h_2 => exact SemAt.fail
  rename_i id i es j
  split
  case h_2 => exact SemAt.fail
  rename_i fd hf
  obtain ⟨fs, hu, hfd⟩ := fieldOf_ok hf
  split
  case h_2 => exact SemAt.fail
  rename_i q hz
  simp only [RV] at h
  obtain ⟨a, k, he, rfl⟩ := h
  refine SemAt.ret r (cv := .pointer (some ⟨a.block, a.off + (i * es + j) + fd.offset, none⟩)) ?_ (by simp only [RV]; exact ⟨a, k, he, by congr 3; omega⟩)
  simp only [Instr.fieldAt, Sem.run_bind, run_underlying hu, Result.andThen_ok, hfd, Instr.sureAddr, Sem.run_pure, fieldPlace, run_size hz, Nat.succ_ne_zero, if_false, add_at]
def addN : Nat → Nat → Nat
  | 0, k => k
  | i + 1, k => i + 1 + k
theorem addN_eq (i k : Nat) : addN i k = i + k := by cases i <;> simp [addN]
def indexAddrA (P : Program) (t : TypeId) (x ix : AV) : Ac AV := match ix with
  | .val (.int k z) => match x with
    | .sl id i es n c => match P.underlying t with
      | some (.slice e) => match tySize P e with
        | some q => match q == es with
          | true => .need (0 ≤ z ∧ z < (n : Int)) (.ret (.ptr id (addN i z.toNat) es 0))
          | false => .fail
        | none => .fail
      | _ => .fail
    | .ptr id i es j => match P.underlying t with
      | some (.array len e) => match tySize P e with
        | some 1 => .need (0 ≤ z ∧ z < (len : Int)) (.ret (.ptr id i es (j + z.toNat)))
        | some q => .need (0 ≤ z ∧ z < (len : Int)) (.ret (.ptr id i es (j + z.toNat * q)))
        | none => .fail
      | _ => .fail
    | _ => .fail
  | _ => .fail
theorem indexAddr_ok (r : RH E s.heap W) (t : TypeId) {x ix : AV} {cx ci : Value} (hx : RV E x cx) (hi : RV E ix ci) : SemAt P E s W (Instr.indexAt t cx ci) (indexAddrA P t x ix) := by
  unfold indexAddrA
  split
  case h_2 => exact SemAt.fail
  rename_i k z
  simp only [RV] at hi
  subst hi
  split
  · rename_i id i es n c
    split
    case h_2 => exact SemAt.fail
    rename_i e hu
    split
    case h_2 => exact SemAt.fail
    rename_i q hq
    split
    case h_2 => exact SemAt.fail
    rename_i hqe
    have hqe' : q = es := by simpa using hqe
    subst hqe'
    refine SemAt.need fun hz => ?_
    simp only [RV] at hx
    obtain ⟨b, kk, he, h2⟩ := hx
    cases b with
    | none => obtain ⟨_, _, rfl, _⟩ := h2; omega
    | some a =>
      obtain ⟨o, m, rfl, h3, h4, h5, _⟩ := h2
      have ho := h5 (by omega)
      refine SemAt.ret r (cv := .pointer (some ⟨a.block, o + z.toNat * q, none⟩)) ?_ (by simp only [RV]; exact ⟨a, kk, he, by rw [ho, addN_eq, Nat.add_mul]; congr 3; omega⟩)
      have hc : (0 ≤ z ∧ z < (n : Int)) := hz
      simp only [Instr.indexAt, asIntOf, Sem.run_bind, Sem.run_pure, Result.andThen_ok, run_underlying hu, Bool.and_false, Sem.run_ite, hc, and_self, if_true, run_size hq, add_at]
  · rename_i id i es j
    split
    case h_2 => exact SemAt.fail
    rename_i len e hu
    simp only [RV] at hx
    obtain ⟨a, kk, he, rfl⟩ := hx
    have key : ∀ q, tySize P e = some q → (0 ≤ z ∧ z < (len : Int)) → (Instr.indexAt t (.pointer (some ⟨a.block, a.off + (i * es + j), none⟩)) (.int k z)).run P W = .ok (.pointer (some ⟨a.block, a.off + (i * es + j) + z.toNat * q, none⟩)) W := fun q hq hc => by
      simp only [Instr.indexAt, asIntOf, Sem.run_bind, Sem.run_pure, Result.andThen_ok, run_underlying hu, Instr.sureAddr, Sem.run_ite, hc, and_self, if_true, run_size hq, add_at]
    split
    case h_3 => exact SemAt.fail
    · rename_i hq
      refine SemAt.need fun hz => ?_
      exact SemAt.ret r (key 1 hq hz) (by simp only [RV]; exact ⟨a, kk, he, by congr 3; omega⟩)
    · rename_i q hq _
      refine SemAt.need fun hz => ?_
      exact SemAt.ret r (key q (by assumption) hz) (by simp only [RV]; exact ⟨a, kk, he, by congr 3; omega⟩)
  · exact SemAt.fail
def byteAt (s : ByteArray) (k : Nat) : Int := ((s.data.toList[k]?.getD 0).toNat : Nat)
def indexA (P : Program) (t : TypeId) (x ix : AV) : Ac AV := match ix with
  | .val (.int k z) => match P.underlying t with
    | some .string => match x with
      | .val (.string s) => .need (0 ≤ z ∧ z < (s.size : Int)) (.ret (.val (.int .u8 (byteAt s z.toNat))))
      | _ => .fail
    | some (.array len e) => match x with
      | .agg cs => match tySize P e with
        | some q => .need (0 ≤ z ∧ z < (len : Int)) (partA P e (cs.drop (z.toNat * q)))
        | none => .fail
      | _ => .fail
    | _ => .fail
  | _ => .fail
theorem index_ok (r : RH E s.heap W) (t : TypeId) {x ix : AV} {cx ci : Value} (hx : RV E x cx) (hi : RV E ix ci) : SemAt P E s W (Instr.index t cx ci) (indexA P t x ix) := by
  unfold indexA
  split
  case h_2 => exact SemAt.fail
  rename_i k z
  simp only [RV] at hi
  subst hi
  split
  · rename_i hu
    split
    case h_2 => exact SemAt.fail
    rename_i str
    refine SemAt.need fun hz => ?_
    simp only [RV] at hx
    subst hx
    refine SemAt.ret r (cv := .int .u8 (byteAt str z.toNat)) ?_ (by simp only [RV])
    have hlt : z.toNat < str.size := by omega
    have hlt2 : z.toNat < str.data.toList.length := by simpa using hlt
    have hb : byteAt str z.toNat = ((str[z.toNat]'hlt).toNat : Int) := by
      unfold byteAt
      rw [List.getElem?_eq_getElem hlt2]
      rfl
    have hg : (if 0 ≤ z then str[z.toNat]? else none) = some (str[z.toNat]'hlt) := by
      rw [if_pos hz.1]
      simp [hlt]
    simp only [Instr.index, asIntOf, Sem.run_bind, Sem.run_pure, Result.andThen_ok, run_underlying hu, hg, hb]
  · rename_i len e hu
    split
    case h_2 => exact SemAt.fail
    rename_i cs
    split
    case h_2 => exact SemAt.fail
    rename_i q hq
    refine SemAt.need fun hz => ?_
    simp only [RV] at hx
    obtain ⟨xs, rfl, h1⟩ := hx
    refine part_ok r h1 (z.toNat * q) ?_
    have hc : (0 ≤ z ∧ z < (len : Int)) := hz
    simp only [Instr.index, asIntOf, Sem.run_bind, Sem.run_pure, Result.andThen_ok, run_underlying hu, Sem.run_ite, hc, and_self, if_true, run_size hq]
  · exact SemAt.fail
def extractA (v : AV) (i : Nat) : Ac AV := match v with
  | .tup vs => match nth vs i with
    | some x => .ret x
    | none => .fail
  | _ => .fail
theorem extract_ok (r : RH E s.heap W) {v : AV} {c : Value} (h : RV E v c) (i : Nat) : SemAt P E s W (Instr.extract c i) (extractA v i) := by
  unfold extractA
  split
  case h_2 => exact SemAt.fail
  split
  case h_2 => exact SemAt.fail
  rename_i vs x hx
  simp only [RV] at h
  obtain ⟨xs, rfl, h1⟩ := h
  obtain ⟨y, hy, hy2⟩ := h1.get i x hx
  refine SemAt.ret r (cv := y) ?_ hy2
  have : xs.toArray[i]? = some y := by simpa using hy
  simp only [Instr.extract, this, Sem.run_pure]
def inK : IntKind → Int → Prop
  | .i64, z => -9223372036854775808 ≤ z ∧ z ≤ 9223372036854775807
  | .i32, z => -2147483648 ≤ z ∧ z ≤ 2147483647
  | .i16, z => -32768 ≤ z ∧ z ≤ 32767
  | .i8, z => -128 ≤ z ∧ z ≤ 127
  | .u64, z => 0 ≤ z ∧ z ≤ 18446744073709551615
  | .u32, z => 0 ≤ z ∧ z ≤ 4294967295
  | .u16, z => 0 ≤ z ∧ z ≤ 65535
  | .u8, z => 0 ≤ z ∧ z ≤ 255
theorem wrap_in {k : IntKind} {z : Int} (h : inK k z) : k.wrap z = z := by
  cases k with
  | i64 => exact IntWalk.i64_in z h
  | i32 => exact IntWalk.i32_in z h
  | i16 => exact IntWalk.i16_in z h
  | i8 => exact IntWalk.i8_in z h
  | u64 => exact IntWalk.u64_in z h
  | u32 => exact IntWalk.u32_in z h
  | u16 => exact IntWalk.u16_in z h
  | u8 => exact IntWalk.u8_in z h
def arithA (h : Hint) (k : IntKind) (z : Int) : Ac AV := match h with
  | .wrap => .ret (.val (.int k (k.wrap z)))
  | .eq y => .need (k.wrap z = y) (.ret (.val (.int k y)))
  | _ => .need (inK k z) (.ret (.val (.int k z)))
theorem arith_ok (r : RH E s.heap W) (h : Hint) {k : IntKind} {z : Int} (hs : sem.run P W = .ok (.int k (k.wrap z)) W) : SemAt P E s W sem (arithA h k z) := by
  unfold arithA
  split
  · exact SemAt.ret r hs (by simp only [RV])
  · exact SemAt.need fun e => SemAt.ret r hs (by simp only [RV]; rw [e])
  · exact SemAt.need fun e => SemAt.ret r hs (by simp only [RV]; rw [wrap_in e])
def cmpA (h : Hint) (b : Bool) : Ac AV := .ret (.val (.bool b))
theorem cmp_ok (r : RH E s.heap W) (h : Hint) {b : Bool} (hs : sem.run P W = .ok (.bool b) W) : SemAt P E s W sem (cmpA h b) := SemAt.ret r hs (by simp only [RV])
def bitsV (op : BinOp) (k : IntKind) (x y : Int) : Int := match op with
  | .and => ((BitVec.ofInt k.bits x) &&& (BitVec.ofInt k.bits y)).toNat
  | .or => ((BitVec.ofInt k.bits x) ||| (BitVec.ofInt k.bits y)).toNat
  | .xor => ((BitVec.ofInt k.bits x) ^^^ (BitVec.ofInt k.bits y)).toNat
  | _ => ((BitVec.ofInt k.bits x) &&& ~~~(BitVec.ofInt k.bits y)).toNat
def sameK : IntKind → IntKind → Bool
  | .i8, .i8 => true | .i16, .i16 => true | .i32, .i32 => true | .i64, .i64 => true
  | .u8, .u8 => true | .u16, .u16 => true | .u32, .u32 => true | .u64, .u64 => true
  | _, _ => false
theorem sameK_ok {a b : IntKind} (h : sameK a b = true) : a = b := by cases a <;> cases b <;> first | rfl | cases h
def intBin (h : Hint) (op : BinOp) (k : IntKind) (a : Int) (k' : IntKind) (b : Int) : Ac AV := match op with
  | .shl => .need (0 ≤ b ∧ b ≤ (k.bits : Int)) (arithA h k (a * 2 ^ b.toNat))
  | .shr => .need (0 ≤ b ∧ b ≤ (k.bits : Int)) (.ret (.val (.int k (a / 2 ^ b.toNat))))
  | op => match sameK k k' with
    | false => .fail
    | true => match op with
      | .add => arithA h k (a + b)
      | .sub => arithA h k (a - b)
      | .mul => arithA h k (a * b)
      | .quo => match h with
        | .wrap => .need (b ≠ 0) (.ret (.val (.int k (k.wrap (a.tdiv b)))))
        | h => .need (0 ≤ a ∧ 0 < b) (arithA h k (a / b))
      | .rem => match h with
        | .wrap => .need (b ≠ 0) (.ret (.val (.int k (a.tmod b))))
        | _ => .need (0 ≤ a ∧ 0 < b) (.ret (.val (.int k (a % b))))
      | .and => arithA h k (bitsV .and k a b)
      | .or => arithA h k (bitsV .or k a b)
      | .xor => arithA h k (bitsV .xor k a b)
      | .andNot => arithA h k (bitsV .andNot k a b)
      | .eql => cmpA h (decide (a = b))
      | .neq => cmpA h (decide (¬ a = b))
      | .lss => cmpA h (decide (a < b))
      | .leq => cmpA h (decide (a ≤ b))
      | .gtr => cmpA h (decide (a > b))
      | .geq => cmpA h (decide (a ≥ b))
      | _ => .fail
theorem beq_dec (a b : Int) : (a == b) = decide (a = b) := by by_cases h : a = b <;> simp [h]
theorem intBin_ok (r : RH E s.heap W) (h : Hint) (op : BinOp) (t : TypeId) (k : IntKind) (a : Int) (k' : IntKind) (b : Int) : SemAt P E s W (binOp op t (.int k a) (.int k' b)) (intBin h op k a k' b) := by
  have hm : ∀ b : Int, 0 ≤ b ∧ b ≤ (k.bits : Int) → min b.toNat k.bits = b.toNat := fun b hb => by omega
  unfold intBin
  split
  · refine SemAt.need fun hb => arith_ok r h ?_
    have h0 : ¬ b < 0 := by omega
    simp only [binOp, Op.shift, if_neg h0, hm b hb, Sem.run_pure]
  · refine SemAt.need fun hb => SemAt.ret r (cv := .int k (a.fdiv (2 ^ b.toNat))) ?_ ?_
    · have h0 : ¬ b < 0 := by omega
      simp only [binOp, Op.shift, if_neg h0, hm b hb, Sem.run_pure]
    · simp only [RV]
      rw [Int.fdiv_eq_ediv_of_nonneg _ (by exact Int.le_of_lt (Int.pow_pos (by decide)))]
  · rename_i hn1 hn2
    split
    · exact SemAt.fail
    rename_i hk
    obtain rfl := sameK_ok hk
    cases op <;> first | exact SemAt.fail | exact absurd rfl hn1 | exact absurd rfl hn2 | skip
    case add => exact arith_ok r h (by simp [binOp, Op.intArith])
    case sub => exact arith_ok r h (by simp [binOp, Op.intArith])
    case mul => exact arith_ok r h (by simp [binOp, Op.intArith])
    case quo =>
      dsimp only
      split
      · refine SemAt.need fun hb => SemAt.ret r (cv := .int k (k.wrap (a.tdiv b))) (by simp [binOp, Op.intDiv, hb]) (by simp only [RV])
      · refine SemAt.need fun hb => arith_ok r h ?_
        have h0 : ¬ b = 0 := by omega
        simp [binOp, Op.intDiv, h0, Int.tdiv_eq_ediv_of_nonneg hb.1]
    case rem =>
      dsimp only
      split
      · refine SemAt.need fun hb => SemAt.ret r (cv := .int k (a.tmod b)) (by simp [binOp, Op.intDiv, hb]) (by simp only [RV])
      · refine SemAt.need fun hb => SemAt.ret r (cv := .int k (a % b)) ?_ (by simp only [RV])
        have h0 : ¬ b = 0 := by omega
        simp [binOp, Op.intDiv, h0, Int.tmod_eq_emod_of_nonneg hb.1]
    case and => exact arith_ok r h (by simp [binOp, Op.intBits, bitsV])
    case or => exact arith_ok r h (by simp [binOp, Op.intBits, bitsV])
    case xor => exact arith_ok r h (by simp [binOp, Op.intBits, bitsV])
    case andNot => exact arith_ok r h (by simp [binOp, Op.intBits, bitsV])
    case eql => exact cmp_ok r h (by simp [binOp, Op.intCmp, beq_dec])
    case neq => exact cmp_ok r h (by simp [binOp, Op.intCmp, bne, beq_dec])
    case lss => exact cmp_ok r h (by simp [binOp, Op.intCmp])
    case leq => exact cmp_ok r h (by simp [binOp, Op.intCmp])
    case gtr => exact cmp_ok r h (by simp [binOp, Op.intCmp])
    case geq => exact cmp_ok r h (by simp [binOp, Op.intCmp])
end
end Go.Proofs.Ytbgbjgedjmhcaaa
namespace Go.Proofs.Ytbgbjgedjmhcaaa
open Go.RowKit
section
variable {P : Program} {E : Env} {s : St} {W : World} {sem : Sem Value}
theorem strEq (x y : ByteArray) : (x.toList == y.toList) = decide (x = y) := by
  have : (x.toList = y.toList) ↔ x = y := by
    rw [ByteArray.toList_eq, ByteArray.toList_eq]
    obtain ⟨⟨a⟩⟩ := x
    obtain ⟨⟨b⟩⟩ := y
    simp
  by_cases h : x = y
  · rw [decide_eq_true h, h]; simp
  · rw [decide_eq_false h]
    have h2 : ¬ x.toList = y.toList := fun e => h (this.1 e)
    simpa using h2
def strBin (h : Hint) (op : BinOp) (x y : ByteArray) : Ac AV := match op with
  | .add => .need (x.size + y.size ≤ 9223372036854775807) (.ret (.val (.string (x ++ y))))
  | .eql => cmpA h (decide (x = y))
  | .neq => cmpA h (decide (¬ x = y))
  | .lss => cmpA h (Op.bytesLess x.toList y.toList)
  | .geq => cmpA h (!Op.bytesLess x.toList y.toList)
  | .leq => cmpA h (Op.bytesLess x.toList y.toList || decide (x = y))
  | .gtr => cmpA h (!(Op.bytesLess x.toList y.toList || decide (x = y)))
  | _ => .fail
theorem strBin_ok (r : RH E s.heap W) (h : Hint) (op : BinOp) (t : TypeId) (x y : ByteArray) : SemAt P E s W (binOp op t (.string x) (.string y)) (strBin h op x y) := by
  unfold strBin
  cases op <;> first | exact SemAt.fail | skip
  case add =>
    refine SemAt.need fun hs => SemAt.ret r (cv := .string (x ++ y)) ?_ (by simp only [RV])
    have h0 : ¬ (((x.size + y.size : Nat) : Int) > IntKind.i64.max) := by
      have : IntKind.i64.max = 9223372036854775807 := by decide
      rw [this]; omega
    simp only [binOp, Op.stringOp, if_neg h0, Sem.run_pure]
  case eql => exact cmp_ok r h (by simp [binOp, Op.stringOp, strEq])
  case neq => exact cmp_ok r h (by simp [binOp, Op.stringOp, strEq])
  case lss => exact cmp_ok r h (by simp [binOp, Op.stringOp])
  case geq => exact cmp_ok r h (by simp [binOp, Op.stringOp])
  case leq => exact cmp_ok r h (by simp [binOp, Op.stringOp, strEq])
  case gtr => exact cmp_ok r h (by simp [binOp, Op.stringOp, strEq])
def eqCell (x y : AV) : Option Bool := match x, y with
  | .val (.int k a), .val (.int k' b) => match sameK k k' with
    | true => some (decide (a = b))
    | false => none
  | .val (.bool a), .val (.bool b) => some (a == b)
  | .val (.string a), .val (.string b) => some (decide (a = b))
  | _, _ => none
def plainTy (P : Program) (t : TypeId) : Bool := match P.underlying t with
  | some (.int _) => true
  | some .bool => true
  | some .string => true
  | _ => false
def kindOK (P : Program) (t : TypeId) (x : AV) : Bool := match P.underlying t, x with
  | some (.int _), .val (.int _ _) => true
  | some .bool, .val (.bool _) => true
  | some .string, .val (.string _) => true
  | _, _ => false
theorem eqCell_ok (d : Nat) {t : TypeId} {x y : AV} {cx cy : Value} {b : Bool} (hk : kindOK P t x = true) (he : eqCell x y = some b) (hx : RV E x cx) (hy : RV E y cy) (W : World) : (Op.equalIn (d + 1) t cx cy).run P W = .ok b W := by
  unfold eqCell at he
  split at he
  · rename_i k a k' b'
    split at he
    · rename_i hs
      obtain rfl := sameK_ok hs
      simp only [Option.some.injEq] at he
      subst he
      simp only [RV] at hx hy
      subst hx hy
      unfold kindOK at hk
      cases hu : P.underlying t with
      | none => rw [hu] at hk; simp at hk
      | some q =>
        rw [hu] at hk
        cases q <;> simp at hk
        rw [run_equalIn_int W d t k _ a b' hu, beq_dec]
    · cases he
  · rename_i a b'
    simp only [Option.some.injEq] at he
    subst he
    simp only [RV] at hx hy
    subst hx hy
    unfold kindOK at hk
    cases hu : P.underlying t with
    | none => rw [hu] at hk; simp at hk
    | some q =>
      rw [hu] at hk
      cases q <;> simp at hk
      exact run_equalIn_bool' W d t a b' hu
  · rename_i a b'
    simp only [Option.some.injEq] at he
    subst he
    simp only [RV] at hx hy
    subst hx hy
    unfold kindOK at hk
    cases hu : P.underlying t with
    | none => rw [hu] at hk; simp at hk
    | some q =>
      rw [hu] at hk
      cases q <;> simp at hk
      rw [run_equalIn_string W d t a b' hu, strEq]
  · cases he
def eqFields (P : Program) (xs ys : List AV) : List Field → Option Bool
  | [] => some true
  | f :: fs => match f.name == "_", tyAgg P f.type, nth xs f.offset, nth ys f.offset with
    | false, some false, some x, some y => match kindOK P f.type x, eqCell x y, eqFields P xs ys fs with
      | true, some b, some c => some (b && c)
      | _, _, _ => none
    | _, _, _, _ => none
theorem eqFields_ok (d : Nat) {xs ys : List AV} {vx vy : List Value} (hx : RVs E xs vx) (hy : RVs E ys vy) (W : World) : ∀ (fs : List Field) (b : Bool), eqFields P xs ys fs = some b → (Op.eqFields (d + 1) vx.toArray vy.toArray fs).run P W = .ok b W
  | [], b, h => by
    simp only [eqFields, Option.some.injEq] at h
    subst h
    simp [Op.eqFields]
  | f :: fs, b, h => by
    unfold eqFields at h
    split at h
    case h_2 => cases h
    rename_i x y hn ha hfx hfy
    split at h
    case h_2 => cases h
    rename_i b1 c1 hk he hr
    simp only [Option.some.injEq] at h
    subst h
    obtain ⟨u, hu, hu2⟩ := hx.get _ _ hfx
    obtain ⟨v, hv, hv2⟩ := hy.get _ _ hfy
    have hne : (f.name ≠ "_") = True := by simpa using hn
    have p1 : (part f.type vx.toArray f.offset).run P W = .ok u W := by
      have : vx.toArray[f.offset]? = some u := by simpa using hu
      simp only [part, Sem.run_bind, run_isAgg ha, Result.andThen_ok, Bool.false_eq_true, if_false, this, Sem.run_pure]
    have p2 : (part f.type vy.toArray f.offset).run P W = .ok v W := by
      have : vy.toArray[f.offset]? = some v := by simpa using hv
      simp only [part, Sem.run_bind, run_isAgg ha, Result.andThen_ok, Bool.false_eq_true, if_false, this, Sem.run_pure]
    have p3 := eqCell_ok (P := P) d hk he hu2 hv2 W
    simp only [Op.eqFields, hne, if_true, Sem.run_bind, p1, p2, p3, Result.andThen_ok]
    cases b1
    · simp
    · simpa using eqFields_ok d hx hy W fs c1 hr
def aggEq (P : Program) (t : TypeId) (xs ys : List AV) : Option Bool := match P.underlying t with
  | some (.struct fs) => match P.stoodInHeld t, P.eqGuardType P.depth t with
    | false, false => eqFields P xs ys fs.toList
    | _, _ => none
  | _ => none
def nilEq (x y : AV) : Option Bool := match x, y with
  | .ptr .., .val (.pointer none) => some false
  | .val (.pointer none), .ptr .. => some false
  | .val (.pointer none), .val (.pointer none) => some true
  | .fn .., .val .nilFunc => some false
  | .val .nilFunc, .fn .. => some false
  | .val .nilFunc, .val .nilFunc => some true
  | .val (.slice none _ _), .val (.slice none _ _) => some true
  | .ifc .., .val .nilIface => some false
  | .val .nilIface, .ifc .. => some false
  | _, _ => none
def nilTy (P : Program) (t : TypeId) (x y : AV) : Bool := match P.underlying t, x, y with
  | some (.pointer _), .ptr .., .val (.pointer none) => true
  | some (.pointer _), .val (.pointer none), .ptr .. => true
  | some (.pointer _), .val (.pointer none), .val (.pointer none) => true
  | some (.func ..), .fn .., .val .nilFunc => true
  | some (.func ..), .val .nilFunc, .fn .. => true
  | some (.func ..), .val .nilFunc, .val .nilFunc => true
  | some (.slice _), .val (.slice none _ _), .val (.slice none _ _) => true
  | some (.interface _), .ifc .., .val .nilIface => true
  | some (.interface _), .val .nilIface, .ifc .. => true
  | _, _, _ => false
theorem guard_no (op : BinOp) (t : TypeId) (x y : Operand) (a b : Value) (W : World) (h1 : ∀ p q, (a, b) ≠ (.agg p, .agg q)) (h2 : (a, b) ≠ (.nilIface, .nilIface)) : (eqGuard op t x y a b).run P W = .ok () W := by
  unfold eqGuard
  generalize (!(match op with | .eql => true | .neq => true | x => false)) = q
  cases q
  · rw [if_neg (by simp)]
    split
    · exact absurd rfl h2
    · exact absurd rfl (h1 _ _)
    · rfl
  · rw [if_pos rfl]; rfl
theorem nilEq_ok {t : TypeId} {x y : AV} {cx cy : Value} {b : Bool} (hk : nilTy P t x y = true) (he : nilEq x y = some b) (hx : RV E x cx) (hy : RV E y cy) (W : World) :
    (Op.equal t cx cy).run P W = .ok b W ∧ (∀ op a c, (eqGuard op t a c cx cy).run P W = .ok () W) ∧ (∀ op : BinOp, op = .eql ∨ op = .neq → (binOp op t cx cy).run P W = .ok (.bool (if op = .neq then !b else b)) W) := by
  unfold nilTy at hk
  have pack : ∀ {cx cy : Value} {b : Bool}, (Op.equal t cx cy).run P W = .ok b W → (∀ p q, (cx, cy) ≠ (.agg p, .agg q)) → (cx, cy) ≠ (.nilIface, .nilIface) → (∀ op : BinOp, op = .eql ∨ op = .neq → binOp op t cx cy = if op = .neq then (do pure (.bool (!(← Op.equal t cx cy)))) else (do pure (.bool (← Op.equal t cx cy)))) →
      (Op.equal t cx cy).run P W = .ok b W ∧ (∀ op a c, (eqGuard op t a c cx cy).run P W = .ok () W) ∧ (∀ op : BinOp, op = .eql ∨ op = .neq → (binOp op t cx cy).run P W = .ok (.bool (if op = .neq then !b else b)) W) := by
    intro cx cy b h2 g1 g2 h
    refine ⟨h2, fun op a c => guard_no op t a c _ _ W g1 g2, fun op ho => ?_⟩
    rw [h op ho]
    by_cases e : op = .neq
    · rw [if_pos e, if_pos e]; simp [h2]
    · rw [if_neg e, if_neg e]; simp [h2]
  split at hk
  case h_10 => cases hk
  all_goals
    rename_i hu
    simp only [nilEq, Option.some.injEq] at he
    subst he
    simp only [RV] at hx hy
    first
      | (obtain ⟨a, k, _, rfl⟩ := hx; subst hy)
      | (obtain ⟨a, k, _, rfl⟩ := hy; subst hx)
      | (obtain ⟨a, k, rfl, _⟩ := hx; subst hy)
      | (obtain ⟨a, k, rfl, _⟩ := hy; subst hx)
      | (obtain ⟨a, rfl, _⟩ := hx; subst hy)
      | (obtain ⟨a, rfl, _⟩ := hy; subst hx)
      | (subst hx hy)
    refine pack ?_ ?_ ?_ ?_
    · unfold Op.equal Op.maxDepth Op.equalIn
      rw [Sem.run_bind, run_underlying hu]
      rfl
    · intros; simp
    · simp
    · intro op ho; rcases ho with rfl | rfl <;> rfl
def slNil (P : Program) (t : TypeId) (x y : AV) (op : BinOp) : Option AV := match P.underlying t, x, y, op with
  | some (.slice _), .sl _ _ _ n _, .val (.slice none _ _), .eql => some (.anyB (n = 0) True)
  | some (.slice _), .sl _ _ _ n _, .val (.slice none _ _), .neq => some (.anyB True (n = 0))
  | _, _, _, _ => none
def binA (P : Program) (h : Hint) (op : BinOp) (t : TypeId) (x y : AV) : Ac AV := match x, y with
  | .val (.int k a), .val (.int k' b) => intBin h op k a k' b
  | .val (.string a), .val (.string b) => strBin h op a b
  | .val (.bool a), .val (.bool b) => match P.underlying t, op with
    | some .bool, .eql => cmpA h (a == b)
    | some .bool, .neq => cmpA h (!(a == b))
    | _, _ => .fail
  | .agg xs, .agg ys => match aggEq P t xs ys, op with
    | some b, .eql => cmpA h b
    | some b, .neq => cmpA h (!b)
    | _, _ => .fail
  | x, y => match nilTy P t x y, nilEq x y, op with
    | true, some b, .eql => .ret (.val (.bool b))
    | true, some b, .neq => .ret (.val (.bool (!b)))
    | _, _, _ => match slNil P t x y op with
      | some v => .ret v
      | none => .fail
theorem SemAt.after {pre : Sem Unit} {c : Ac AV} (hp : pre.run P W = .ok () W) (h : SemAt P E s W sem c) : SemAt P E s W (do pre; sem) c := fun out h1 h2 h3 => by
  obtain ⟨q, cv, W', E', h4, rest⟩ := h out h1 h2 h3
  exact ⟨q, cv, W', E', by rw [Sem.run_bind, hp]; exact h4, rest⟩
theorem slNil_ok (r : RH E s.heap W) {op : BinOp} {t : TypeId} (ox oy : Operand) {x y v : AV} {cx cy : Value} (hk : slNil P t x y op = some v) (hx : RV E x cx) (hy : RV E y cy) : SemAt P E s W (do eqGuard op t ox oy cx cy; binOp op t cx cy) (.ret v) := by
  have key : ∀ {b' : Option Addr} {n m l k : Nat} {e : TypeId}, P.underlying t = some (.slice e) → (Op.equal t (.slice b' n m) (.slice none l k)).run P W = .ok b'.isNone W := by
    intro b' n m l k e hu
    unfold Op.equal Op.maxDepth Op.equalIn
    rw [Sem.run_bind, run_underlying hu]
    cases b' <;> rfl
  unfold slNil at hk
  split at hk
  case h_3 => cases hk
  all_goals
    rename_i hu
    simp only [Option.some.injEq] at hk
    subst hk
    simp only [RV] at hx hy
    subst hy
    obtain ⟨b, k, _, h2⟩ := hx
    rename_i id0 i0 es0 n0 c0 l0 k0 hu0
    have hcx : ∃ b' n' m, cx = .slice b' n' m ∧ (b'.isNone = true → n' = 0) ∧ n' = n0 := by
      cases b with
      | none => obtain ⟨b', rfl, h3, _⟩ := h2; exact ⟨_, _, _, rfl, fun _ => rfl, h3.symm⟩
      | some a => obtain ⟨o, m, rfl, _⟩ := h2; exact ⟨_, _, _, rfl, (fun h => by cases h), rfl⟩
    obtain ⟨b', n', m', rfl, hn, hne⟩ := hcx
    have hb := key (b' := b') (n := n') (m := m') (l := l0) (k := k0) hu
    refine SemAt.after (guard_no _ _ _ _ _ _ _ (by intros; simp) (by simp)) ?_
    first
      | exact SemAt.ret r (cv := .bool b'.isNone) (by show (do pure (.bool (← Op.equal t _ _)) : Sem Value).run P W = _; rw [Sem.run_bind, hb]; rfl) (by simp only [RV]; exact ⟨_, rfl, fun h => by rw [← hne]; exact hn h, fun _ => trivial⟩)
      | exact SemAt.ret r (cv := .bool (!b'.isNone)) (by show (do pure (.bool (!(← Op.equal t _ _))) : Sem Value).run P W = _; rw [Sem.run_bind, hb]; rfl) (by simp only [RV]; exact ⟨_, rfl, fun _ => trivial, fun h => by rw [← hne]; exact hn (by simpa using h)⟩)
theorem bin_ok (r : RH E s.heap W) (h : Hint) (op : BinOp) (t : TypeId) (ox oy : Operand) {x y : AV} {cx cy : Value} (hx : RV E x cx) (hy : RV E y cy) : SemAt P E s W (do eqGuard op t ox oy cx cy; binOp op t cx cy) (binA P h op t x y) := by
  unfold binA
  split
  · simp only [RV] at hx hy
    subst hx hy
    exact SemAt.after (guard_no _ _ _ _ _ _ _ (by intros; simp) (by simp)) (intBin_ok r h op t _ _ _ _)
  · simp only [RV] at hx hy
    subst hx hy
    exact SemAt.after (guard_no _ _ _ _ _ _ _ (by intros; simp) (by simp)) (strBin_ok r h op t _ _)
  · simp only [RV] at hx hy
    subst hx hy
    rename_i a b
    split
    · rename_i hu
      exact SemAt.after (guard_no _ _ _ _ _ _ _ (by intros; simp) (by simp)) (cmp_ok r h (by
        have := run_equalIn_bool' (P := P) W 9999 t a b hu
        simp only [binOp, Op.equal, Op.maxDepth, Sem.run_bind, this, Result.andThen_ok, Sem.run_pure]))
    · rename_i hu
      exact SemAt.after (guard_no _ _ _ _ _ _ _ (by intros; simp) (by simp)) (cmp_ok r h (by
        have := run_equalIn_bool' (P := P) W 9999 t a b hu
        simp only [binOp, Op.equal, Op.maxDepth, Sem.run_bind, this, Result.andThen_ok, Sem.run_pure]))
    · exact SemAt.fail
  · rename_i xs ys
    simp only [RV] at hx hy
    obtain ⟨vx, rfl, hx⟩ := hx
    obtain ⟨vy, rfl, hy⟩ := hy
    cases hb : aggEq P t xs ys with
    | none => exact SemAt.fail
    | some b =>
      have hb2 := hb
      unfold aggEq at hb2
      split at hb2
      case h_2 => cases hb2
      rename_i fs hu
      split at hb2
      case h_2 => cases hb2
      rename_i hs hg
      have hgd : (eqGuard op t ox oy (.agg vx.toArray) (.agg vy.toArray)).run P W = .ok () W := run_eqGuard_agg W op t ox oy _ _ hg
      have hf : P.fieldsOf t = fs := by simp [Program.fieldsOf, hu]
      have he := run_equalIn_struct (P := P) W 9999 t vx.toArray vy.toArray (by rw [hf]; exact hu) hs
      rw [hf, eqFields_ok 9998 hx hy W _ _ hb2] at he
      cases op <;> first | exact SemAt.fail | skip
      · exact SemAt.after hgd (cmp_ok r h (by rw [run_eql_struct, he]; rfl))
      · exact SemAt.after hgd (cmp_ok r h (by rw [run_neq_struct, he]; rfl))
  · split
    · rename_i hk he
      obtain ⟨_, h1, h2⟩ := nilEq_ok hk he hx hy W
      exact SemAt.after (h1 _ _ _) (SemAt.ret r (h2 .eql (.inl rfl)) (by simp [RV]))
    · rename_i hk he
      obtain ⟨_, h1, h2⟩ := nilEq_ok hk he hx hy W
      exact SemAt.after (h1 _ _ _) (SemAt.ret r (h2 .neq (.inr rfl)) (by simp [RV]))
    · split
      · rename_i hk
        exact slNil_ok r ox oy hk hx hy
      · exact SemAt.fail
def unA (h : Hint) (op : UnOp) (x : AV) : Ac AV := match op, x with
  | .not, .val (.bool b) => .ret (.val (.bool (!b)))
  | .neg, .val (.int k n) => arithA h k (0 - n)
  | _, _ => .fail
theorem un_ok (r : RH E s.heap W) (h : Hint) (op : UnOp) {x : AV} {c : Value} (hx : RV E x c) : SemAt P E s W (Op.unary op c) (unA h op x) := by
  unfold unA
  split
  · simp only [RV] at hx
    subst hx
    exact SemAt.ret r (by simp [Op.unary]; rfl) (by simp only [RV])
  · simp only [RV] at hx
    subst hx
    exact arith_ok r h (by simp [Op.unary, Op.intArith])
  · exact SemAt.fail
def convA (P : Program) (h : Hint) (src dst : TypeId) (x : AV) : Ac AV := match x with
  | .val (.int _ n) => match P.underlying src, P.underlying dst with
    | some (.int _), some (.int k) => arithA h k n
    | _, _ => .fail
  | .val (.string s) => match P.underlying src, P.underlying dst with
    | some .string, some .string => .ret (.val (.string s))
    | _, _ => .fail
  | _ => .fail
theorem conv_ok (r : RH E s.heap W) (h : Hint) (src dst : TypeId) {x : AV} {c : Value} (hx : RV E x c) : SemAt P E s W (convert src dst c) (convA P h src dst x) := by
  unfold convA
  split
  · simp only [RV] at hx
    subst hx
    split
    · rename_i h1 h2
      exact arith_ok r h (by simp [convert, run_underlying h1, run_underlying h2, Conv.intToInt])
    · exact SemAt.fail
  · simp only [RV] at hx
    subst hx
    split
    · rename_i h1 h2
      exact SemAt.ret r (by simp [convert, run_underlying h1, run_underlying h2]; rfl) (by simp only [RV])
    · exact SemAt.fail
  · exact SemAt.fail
def ifaceA (P : Program) (t : TypeId) (x : AV) : Ac AV := match P.underlying t with
  | some (.interface _) => .fail
  | some _ => .ret (.ifc t x)
  | none => .fail
theorem iface_ok (r : RH E s.heap W) (t : TypeId) {x : AV} {c : Value} (hx : RV E x c) : SemAt P E s W (Instr.makeInterface t c) (ifaceA P t x) := by
  unfold ifaceA
  split
  · exact SemAt.fail
  · rename_i d hn hu
    refine SemAt.ret r (cv := .iface t c) ?_ (by simp only [RV]; exact ⟨c, rfl, hx⟩)
    simp only [Instr.makeInterface, Sem.run_bind, run_underlying hu, Result.andThen_ok]
    cases d <;> first | rfl | exact absurd hu (hn _)
  · exact SemAt.fail
end
end Go.Proofs.Ytbgbjgedjmhcaaa
namespace Go.Proofs.Ytbgbjgedjmhcaaa
open Go.RowKit
section
variable {P : Program} {E : Env} {s : St} {W : World} {sem : Sem Value}
def lenA (P : Program) (t : TypeId) (x : AV) : Ac AV := match P.underlying t with
  | some (.slice _) => match x with
    | .sl _ _ _ n _ => .ret (.val (.int .i64 (n : Int)))
    | .val (.slice _ n _) => .ret (.val (.int .i64 (n : Int)))
    | .len n => .ret (.val (.int .i64 (n : Int)))
    | _ => .fail
  | some .string => match x with
    | .val (.string s) => .ret (.val (.int .i64 (s.size : Int)))
    | _ => .fail
  | some (.array n _) => .ret (.val (.int .i64 (n : Int)))
  | some (.pointer e) => match P.underlying e with
    | some (.array n _) => .ret (.val (.int .i64 (n : Int)))
    | _ => .fail
  | _ => .fail
theorem len_ok (r : RH E s.heap W) (t ty : TypeId) {x : AV} {c : Value} (hx : RV E x c) (l : Array TypeId) (hl : l[0]? = some t) : SemAt P E s W (Builtin.len_ l ty #[c]) (lenA P t x) := by
  unfold lenA
  split
  · rename_i e hu
    split
    · rename_i id i es n cc
      simp only [RV] at hx
      obtain ⟨b, k, he, h2⟩ := hx
      refine SemAt.ret r (cv := goInt n) ?_ (by simp only [RV, goInt])
      cases b with
      | none => obtain ⟨b', rfl, rfl, _⟩ := h2; simp [Builtin.len_, hl, run_underlying hu]
      | some a => obtain ⟨o, m, rfl, _⟩ := h2; simp [Builtin.len_, hl, run_underlying hu]
    · rename_i a n m
      simp only [RV] at hx
      subst hx
      exact SemAt.ret r (cv := goInt n) (by simp [Builtin.len_, hl, run_underlying hu]) (by simp only [RV, goInt])
    · rename_i n
      simp only [RV] at hx
      obtain ⟨a, m, rfl⟩ := hx
      exact SemAt.ret r (cv := goInt n) (by simp [Builtin.len_, hl, run_underlying hu]) (by simp only [RV, goInt])
    · exact SemAt.fail
  · rename_i hu
    split
    · rename_i str
      simp only [RV] at hx
      subst hx
      exact SemAt.ret r (cv := goInt str.size) (by simp [Builtin.len_, hl, run_underlying hu]) (by simp only [RV, goInt])
    · exact SemAt.fail
  · rename_i n e hu
    exact SemAt.ret r (cv := goInt n) (by simp [Builtin.len_, hl, run_underlying hu]) (by simp only [RV, goInt])
  · rename_i e hu
    split
    · rename_i n e2 hu2
      exact SemAt.ret r (cv := goInt n) (by simp [Builtin.len_, hl, run_underlying hu, run_underlying hu2]) (by simp only [RV, goInt])
    · exact SemAt.fail
  · exact SemAt.fail
theorem bound_ok {k : IntKind} {z : Int} {y : Nat} {code : BoundsCode} (h0 : 0 ≤ z) (h1 : z ≤ (y : Int)) (W : World) : (Instr.sliceBound (.int k z) y code).run P W = .ok z.toNat W := by
  have : (0 ≤ z ∧ z ≤ (y : Int)) := ⟨h0, h1⟩
  simp only [Instr.sliceBound, asIntOf, Sem.run_bind, Sem.run_pure, Result.andThen_ok, this, and_self, if_true]
inductive OB (E : Env) : Option AV → Option Value → Option Int → Prop
  | none : OB E none none none
  | some (k : IntKind) (z : Int) : OB E (some (.val (.int k z))) (some (.int k z)) (some z)
def loN : Option Int → Nat
  | none => 0
  | some z => z.toNat
def hiN (n : Nat) : Option Int → Nat
  | none => n
  | some z => z.toNat
def subN (n : Nat) : Option Int → Nat
  | none => n
  | some z => n - z.toNat
theorem subN_eq (n : Nat) (l : Option Int) : subN n l = n - loN l := by cases l <;> simp [subN, loN]
def obOf : Option AV → Option (Option Int)
  | none => some none
  | some (.val (.int _ z)) => some (some z)
  | _ => none
theorem obOf_ok {E : Env} {x : Option AV} {c : Option Value} {o : Option Int} (h : obOf x = some o) (hx : (x = none ∧ c = none) ∨ ∃ v w, x = some v ∧ c = some w ∧ RV E v w) : OB E x c o := by
  rcases hx with ⟨rfl, rfl⟩ | ⟨v, w, rfl, rfl, hv⟩
  · simp only [obOf, Option.some.injEq] at h
    subst h
    exact .none
  · unfold obOf at h
    split at h
    · rename_i e; cases e
    · rename_i k z e
      cases e
      simp only [Option.some.injEq] at h
      subst h
      simp only [RV] at hv
      subst hv
      exact .some k z
    · cases h
def okLo (n : Nat) (l h : Option Int) : Prop := match l with
  | none => True
  | some z => 0 ≤ z ∧ z.toNat ≤ hiN n h
def okHi (n : Nat) (h : Option Int) : Prop := match h with
  | none => True
  | some z => 0 ≤ z ∧ z ≤ (n : Int)
theorem bounds_ok {n cap : Nat} {lo hi : Option AV} {cl ch : Option Value} {l h : Option Int} (hl : OB E lo cl l) (hh : OB E hi ch h) (isS : Bool) (hnc : n ≤ cap) (h1 : okLo n l h) (h2 : okHi n h) (W : World) :
    (Instr.sliceBounds isS n cap cl ch none).run P W = .ok (loN l, hiN n h, cap) W := by
  cases hh with
  | none =>
    cases hl with
    | none => simp [Instr.sliceBounds, loN, hiN]
    | some k z =>
      simp only [hiN, okLo] at h1
      simp [Instr.sliceBounds, loN, hiN, bound_ok (P := P) (k := k) h1.1 (show z ≤ (n : Int) by omega)]
  | some k2 z2 =>
    simp only [okHi] at h2
    have hb2 := bound_ok (P := P) (k := k2) (code := if isS = true then BoundsCode.sliceAcap else BoundsCode.sliceAlen) h2.1 (show z2 ≤ (cap : Int) by omega) W
    cases hl with
    | none => simp [Instr.sliceBounds, loN, hiN, hb2]
    | some k z =>
      simp only [hiN, okLo] at h1
      simp [Instr.sliceBounds, loN, hiN, hb2, bound_ok (P := P) (k := k) h1.1 (show z ≤ (z2.toNat : Int) by omega)]
theorem bounds3_ok {n cap : Nat} {lo : Option AV} {cl : Option Value} {l : Option Int} {k2 k3 : IntKind} {z2 z3 : Int} (hl : OB E lo cl l) (hnc : n ≤ cap) (h1 : okLo n l (some z2)) (h2 : 0 ≤ z2 ∧ z2 ≤ z3) (h3 : z3 ≤ (n : Int)) (W : World) :
    (Instr.sliceBounds true n cap cl (some (.int k2 z2)) (some (.int k3 z3))).run P W = .ok (loN l, z2.toNat, z3.toNat) W := by
  have hb3 := bound_ok (P := P) (k := k3) (code := BoundsCode.slice3Acap) (show 0 ≤ z3 by omega) (show z3 ≤ (cap : Int) by omega) W
  have hb2 := bound_ok (P := P) (k := k2) (code := BoundsCode.slice3B) h2.1 (show z2 ≤ (z3.toNat : Int) by omega) W
  cases hl with
  | none => simp [Instr.sliceBounds, loN, hb2, hb3]
  | some k z =>
    simp only [hiN, okLo] at h1
    simp [Instr.sliceBounds, loN, hb2, hb3, bound_ok (P := P) (k := k) h1.1 (show z ≤ (z2.toNat : Int) by omega)]
def needLo (l h : Option Int) (n : Nat) (k : Ac AV) : Ac AV := match l with
  | none => k
  | some z => match h with
    | none => .need (0 ≤ z ∧ z ≤ (n : Int)) k
    | some y => .need (0 ≤ z ∧ z ≤ y) k
def needHi (h : Option Int) (n : Nat) (k : Ac AV) : Ac AV := match h with
  | none => k
  | some z => .need (0 ≤ z ∧ z ≤ (n : Int)) k
theorem needs_ok {l h : Option Int} {n : Nat} {k : Ac AV} (hk : okLo n l h → okHi n h → loN l ≤ hiN n h → hiN n h ≤ n → SemAt P E s W sem k) : SemAt P E s W sem (needHi h n (needLo l h n k)) := by
  unfold needHi needLo
  cases h with
  | none =>
    cases l with
    | none => exact hk trivial trivial (Nat.zero_le _) (Nat.le_refl _)
    | some z => exact SemAt.need fun h => hk (by simp only [hiN, okLo]; omega) trivial (by simp only [loN, hiN]; omega) (Nat.le_refl _)
  | some y =>
    cases l with
    | none => exact SemAt.need fun h => hk trivial h (Nat.zero_le _) (by simp only [hiN]; omega)
    | some z => exact SemAt.need fun h => SemAt.need fun h' => hk (by simp only [hiN, okLo]; omega) h (by simp only [loN, hiN]; omega) (by simp only [hiN]; omega)
def cutSl (P : Program) (e : TypeId) (x : AV) (l h : Option Int) (m : Option Int) : Ac AV := match tySize P e with
  | none => .fail
  | some q => match x with
    | .sl id i es n c => match q == es with
      | true => needHi h n (needLo l h n (match m with
        | none => .ret (.sl id (addN i (loN l)) es (subN (hiN n h) l) (match c with | none => none | some m => some (subN m l)))
        | some z => match h with
          | none => .fail
          | some y => .need (y ≤ z ∧ z ≤ (n : Int)) (.ret (.sl id (addN i (loN l)) es (subN (hiN n h) l) (some (subN z.toNat l))))))
      | false => .fail
    | .val (.slice none 0 0) => needHi h 0 (needLo l h 0 (match m with
        | none => .ret (.val (.slice none 0 0))
        | some z => match h with
          | none => .fail
          | some y => .need (y ≤ z ∧ z ≤ 0) (.ret (.val (.slice none 0 0)))))
    | _ => .fail
def sliceA (P : Program) (t : TypeId) (x : AV) (lo hi mx : Option AV) : Ac AV := match obOf lo, obOf hi, obOf mx with
  | some l, some h, some m => match P.underlying t with
    | some .string => match x, m with
      | .val (.string s), none => needHi h s.size (needLo l h s.size (.ret (.val (.string (s.extract (loN l) (hiN s.size h))))))
      | _, _ => .fail
    | some (.slice e) => cutSl P e x l h m
    | _ => .fail
  | _, _, _ => .fail
theorem slice_ok (r : RH E s.heap W) (t : TypeId) {x : AV} {c : Value} (hx : RV E x c) {lo hi mx : Option AV} {cl ch cm : Option Value} (hl : (lo = none ∧ cl = none) ∨ ∃ v w, lo = some v ∧ cl = some w ∧ RV E v w) (hh : (hi = none ∧ ch = none) ∨ ∃ v w, hi = some v ∧ ch = some w ∧ RV E v w) (hm : (mx = none ∧ cm = none) ∨ ∃ v w, mx = some v ∧ cm = some w ∧ RV E v w) :
    SemAt P E s W (Instr.sliceAt t c cl ch cm) (sliceA P t x lo hi mx) := by
  unfold sliceA
  split
  case h_2 => exact SemAt.fail
  rename_i l h m e1 e2 e3
  have hl := obOf_ok e1 hl
  have hh := obOf_ok e2 hh
  have hm := obOf_ok e3 hm
  split
  · rename_i hu
    split
    case h_2 => exact SemAt.fail
    rename_i str
    cases hm
    simp only [RV] at hx
    subst hx
    refine needs_ok fun h1 h2 _ _ => ?_
    refine SemAt.ret r (cv := .string (str.extract (loN l) (hiN str.size h))) ?_ (by simp only [RV])
    have hb := bounds_ok (P := P) hl hh false (Nat.le_refl str.size) h1 h2 W
    simp [Instr.sliceAt, Instr.slice, run_underlying hu, hb]
  · rename_i e hu
    unfold cutSl
    split
    · exact SemAt.fail
    rename_i q hq
    split
    · rename_i id i es n cc
      split
      case h_2 => exact SemAt.fail
      rename_i hqe
      have hqe' : q = es := by simpa using hqe
      subst hqe'
      refine needs_ok fun h1 h2 h3 h4 => ?_
      simp only [RV] at hx
      obtain ⟨b, k, he, h5⟩ := hx
      cases b with
      | none =>
        obtain ⟨b', rfl, rfl, rfl⟩ := h5
        have hz : hiN 0 h = 0 := by omega
        have hz2 : loN l = 0 := by omega
        have hv : ∀ c, RV E (.sl id (addN 0 (loN l)) q (subN (hiN 0 h) l) c) (.slice b' 0 0) := fun c => by
          simp only [RV]; exact ⟨none, k, he, b', rfl, by rw [subN_eq, hz]; omega, by rw [hz2]; rfl⟩
        cases hm with
        | none =>
          have hb := bounds_ok (P := P) hl hh true (Nat.le_refl 0) h1 h2 W
          rw [hz, hz2] at hb
          refine SemAt.ret r (cv := .slice b' 0 0) ?_ (hv _)
          simp [Instr.sliceAt, Instr.slice, run_underlying hu, hb, run_size hq]
        | some k3 z3 =>
          cases hh with
          | none => exact SemAt.fail
          | some k2 z2 =>
            refine SemAt.need fun h6 => ?_
            simp only [okHi] at h2
            have hb := bounds3_ok (P := P) (k2 := k2) (k3 := k3) hl (Nat.le_refl 0) h1 ⟨h2.1, h6.1⟩ (by omega) W
            have hz3 : z2.toNat = 0 := by omega
            have hz4 : z3.toNat = 0 := by omega
            rw [hz3, hz2, hz4] at hb
            refine SemAt.ret r (cv := .slice b' 0 0) ?_ (hv _)
            simp [Instr.sliceAt, Instr.slice, run_underlying hu, hb, run_size hq]
      | some a =>
        obtain ⟨o, m', rfl, h6, h7, h8, h9⟩ := h5
        have hv : ∀ (hn mm : Nat) (c' : Option Nat), hn ≤ mm → mm ≤ m' → loN l ≤ hn → (match c' with | none => i + loN l + (mm - loN l) = k | some w => mm - loN l = w) → RV E (.sl id (addN i (loN l)) q (subN hn l) c') (.slice (some ⟨a.block, if mm = loN l then o else o + loN l * q, none⟩) (hn - loN l) (mm - loN l)) := fun hn mm c' g1 g2 g3 g4 => by
          simp only [RV]
          refine ⟨some a, k, he, _, mm - loN l, by rw [subN_eq], by rw [subN_eq]; omega, by rw [addN_eq]; omega, fun hne => ?_, ?_⟩
          · rw [if_neg (by omega), h8 (by omega), addN_eq, Nat.add_mul]
            omega
          · cases c' with
            | none => dsimp only at g4 ⊢; rw [addN_eq]; omega
            | some w => dsimp only at g4 ⊢; omega
        have hs : ∀ (hn mm : Nat), (Instr.sliceBounds true n m' cl ch cm).run P W = .ok (loN l, hn, mm) W → (Instr.sliceAt t (.slice (some ⟨a.block, o, none⟩) n m') cl ch cm).run P W = .ok (.slice (some ⟨a.block, if mm = loN l then o else o + loN l * q, none⟩) (hn - loN l) (mm - loN l)) W := fun hn mm hb => by
          simp only [Instr.sliceAt, Instr.slice, run_underlying hu, hb, run_size hq, Sem.run_bind, Result.andThen_ok, Sem.run_pure, Option.map_some]
          congr 2
          by_cases e : mm = loN l
          · rw [if_pos e, if_pos e]
          · rw [if_neg e, if_neg e, add_at]
        cases hm with
        | none =>
          have hb := bounds_ok (P := P) hl hh true h6 h1 h2 W
          refine SemAt.ret r (hs _ _ hb) (hv _ _ _ (by omega) (Nat.le_refl _) h3 ?_)
          cases cc with
          | none => dsimp only at h9 ⊢; omega
          | some w => dsimp only at h9 ⊢; rw [subN_eq]; omega
        | some k3 z3 =>
          cases hh with
          | none => exact SemAt.fail
          | some k2 z2 =>
            refine SemAt.need fun h10 => ?_
            simp only [okHi] at h2
            have hb := bounds3_ok (P := P) (k2 := k2) (k3 := k3) hl h6 h1 ⟨h2.1, h10.1⟩ h10.2 W
            have e9 : hiN n (some z2) = z2.toNat := rfl
            refine SemAt.ret r (hs _ _ hb) (hv _ _ _ (by omega) (by omega) h3 ?_)
            dsimp only; rw [subN_eq]
    · simp only [RV] at hx
      subst hx
      refine needs_ok fun h1 h2 h3 h4 => ?_
      have hz : hiN 0 h = 0 := by omega
      have hz2 : loN l = 0 := by omega
      cases hm with
      | none =>
        have hb := bounds_ok (P := P) hl hh true (Nat.le_refl 0) h1 h2 W
        rw [hz, hz2] at hb
        refine SemAt.ret r (cv := .slice none 0 0) ?_ (by simp only [RV])
        simp [Instr.sliceAt, Instr.slice, run_underlying hu, hb, run_size hq]
      | some k3 z3 =>
        cases hh with
        | none => exact SemAt.fail
        | some k2 z2 =>
          refine SemAt.need fun h6 => ?_
          simp only [okHi] at h2
          have hb := bounds3_ok (P := P) (k2 := k2) (k3 := k3) hl (Nat.le_refl 0) h1 ⟨h2.1, h6.1⟩ (by omega) W
          have hz3 : z2.toNat = 0 := by omega
          have hz4 : z3.toNat = 0 := by omega
          rw [hz3, hz2, hz4] at hb
          refine SemAt.ret r (cv := .slice none 0 0) ?_ (by simp only [RV])
          simp [Instr.sliceAt, Instr.slice, run_underlying hu, hb, run_size hq]
    · exact SemAt.fail
  · exact SemAt.fail
end
end Go.Proofs.Ytbgbjgedjmhcaaa
namespace Go.Proofs.Ytbgbjgedjmhcaaa
open Go.RowKit
def shiftR (row : Nat → List AV) : Nat → Nat → List AV
  | 0 => row
  | i + 1 => fun q => row (i + 1 + q)
def catR (n : Nat) (row row2 : Nat → List AV) : Nat → List AV := match n with
  | 0 => row2
  | n + 1 => fun q => if q < n + 1 then row q else row2 (q - (n + 1))
theorem shiftR_at (row : Nat → List AV) (i q : Nat) : shiftR row i q = row (i + q) := by cases i <;> simp [shiftR]
theorem catR_at (n : Nat) (row row2 : Nat → List AV) (q : Nat) : catR n row row2 q = if q < n then row q else row2 (q - n) := by cases n <;> simp [catR]
def infoOK (P : Program) (e : TypeId) : Option Nat := match P.info? e with
  | some i => match i.zero with
    | some z => match Nat.ble i.bytes 128, i.size == z.cells.toList.length, Nat.blt 0 i.size with
      | true, true, true => some i.size
      | _, _, _ => none
    | none => none
  | none => none
theorem infoOK_ok {P : Program} {e es : Nat} (h : infoOK P e = some es) : ∃ i z, P.info? e = some i ∧ i.zero = some z ∧ i.size = es ∧ i.bytes ≤ 128 ∧ z.cells.size = es ∧ 0 < es := by
  unfold infoOK at h
  split at h
  case h_2 => cases h
  rename_i i hi
  split at h
  case h_2 => cases h
  rename_i z hz
  split at h
  case h_2 => cases h
  rename_i h1 h2 h3
  simp only [Option.some.injEq] at h
  have h2' : i.size = z.cells.toList.length := by simpa using h2
  exact ⟨i, z, hi, hz, h, Nat.le_of_ble_eq_true h1, by rw [← h, h2']; simp, by rw [← h]; exact Nat.le_of_ble_eq_true h3⟩
section
variable {P : Program} {E : Env} {s : St} {W : World} {sem : Sem Value}
theorem cells_shift (xs : List Value) (es i m q : Nat) (hq : q < m) : cellsAt ((xs.drop (i * es)).take (m * es)) es q = cellsAt xs es (i + q) := by
  unfold cellsAt
  apply List.ext_getElem?
  intro d
  rw [List.getElem?_take, List.getElem?_take]
  by_cases hd : d < es
  · have : q * es + es ≤ m * es := by rw [← Nat.succ_mul]; exact Nat.mul_le_mul_right _ hq
    rw [if_pos hd, if_pos hd, List.getElem?_drop, List.getElem?_drop, List.getElem?_take, if_pos (by omega), List.getElem?_drop]
    congr 1
    rw [Nat.add_mul]; omega
  · rw [if_neg hd, if_neg hd]
theorem cells_cat (xs ys : List Value) (es n q : Nat) (hl : xs.length = n * es) : cellsAt (xs ++ ys) es q = if q < n then cellsAt xs es q else cellsAt ys es (q - n) := by
  unfold cellsAt
  apply List.ext_getElem?
  intro d
  by_cases hq : q < n
  · have : q * es + es ≤ n * es := by rw [← Nat.succ_mul]; exact Nat.mul_le_mul_right _ hq
    rw [if_pos hq, List.getElem?_take, List.getElem?_take]
    by_cases hd : d < es
    · rw [if_pos hd, if_pos hd, List.getElem?_drop, List.getElem?_drop, List.getElem?_append_left (by omega)]
    · rw [if_neg hd, if_neg hd]
  · have : n * es + (q - n) * es = q * es := by rw [← Nat.add_mul]; congr 1; omega
    rw [if_neg hq, List.getElem?_take, List.getElem?_take]
    by_cases hd : d < es
    · rw [if_pos hd, if_pos hd, List.getElem?_drop, List.getElem?_drop, List.getElem?_append_right (by omega)]
      congr 1; omega
    · rw [if_neg hd, if_neg hd]
def srcA (o : Ob) (i es m : Nat) (k : (Nat → List AV) → Ac AV) : Ac AV := match o with
  | .vec _ es' n row => match es == es' with
    | true => .need (i + m ≤ n) (k (shiftR row i))
    | false => .fail
  | .ro es' n row => match es == es' with
    | true => .need (i + m ≤ n) (k (shiftR row i))
    | false => .fail
  | .blk .. => .fail
  | .obj _ => .fail
  | .box _ => .fail
  | .lp .. => .fail
theorem alloc_old (w : World) (o : Obj) (i : Nat) (h : i < w.heap.size) : (w.alloc o).heap[i]? = w.heap[i]? := by
  show (w.heap.push o)[i]? = _
  rw [Array.getElem?_push, if_neg (by omega)]
def baseBlk : Option Addr × Nat → Option Nat
  | (some a, _) => some a.block
  | (none, _) => none
structure Src (E : Env) (W : World) (es m : Nat) (row : Nat → List AV) (c : Value) (news : List Value) : Prop where
  len : news.length = m * es
  one : ∀ u ∈ news, u.oneCell' = true
  rows : RowsOK E es m row news
  addr : (∃ ad mm, c = .slice (some ad) m mm ∧ ∀ j u, news[j]? = some u → W.cell? (ad.add j) = some u) ∨ (c = .slice none 0 0 ∧ m = 0)
theorem src_ok {id i es m : Nat} {cc : Option Nat} {o : Ob} {c : Value} (hh : Holds E W id o) (hc : RV E (.sl id i es m cc) c) (k : (Nat → List AV) → Ac AV)
    (h : ∀ row news, Src E W es m row c news → SemAt P E s W sem (k row)) : SemAt P E s W sem (srcA o i es m k) := by
  simp only [RV] at hc
  obtain ⟨b, kk, he, h2⟩ := hc
  have main : ∀ (n : Nat) (row : Nat → List AV) (xs : List Value), xs.length = n * es → (∀ u ∈ xs, u.oneCell' = true) → RowsOK E es n row xs → i + m ≤ n → (∀ a, b = some a → ∀ j u, xs[j]? = some u → W.cell? ⟨a.block, a.off + j, none⟩ = some u) → SemAt P E s W sem (k (shiftR row i)) := by
    intro n row xs hl h1 hr hle hcell
    have hmul : i * es + m * es ≤ n * es := by rw [← Nat.add_mul]; exact Nat.mul_le_mul_right _ hle
    refine h _ ((xs.drop (i * es)).take (m * es)) ⟨?_, fun u hu => h1 u (List.mem_of_mem_drop (List.mem_of_mem_take hu)), fun q hq => ?_, ?_⟩
    · rw [List.length_take, List.length_drop]; omega
    · rw [shiftR_at, cells_shift xs es i m q hq]; exact hr _ (by omega)
    · cases b with
      | none =>
        obtain ⟨b', rfl, rfl, rfl⟩ := h2
        cases b' with
        | none => exact .inr ⟨rfl, rfl⟩
        | some x => exact .inl ⟨x, 0, rfl, fun j u hu => by simp at hu⟩
      | some a =>
        obtain ⟨of, mm, rfl, h3, h4, h5, _⟩ := h2
        refine .inl ⟨_, mm, rfl, fun j u hu => ?_⟩
        rw [List.getElem?_take] at hu
        split at hu
        · rename_i hj
          rw [List.getElem?_drop] at hu
          have hm : m ≠ 0 := fun e => by rw [e] at hj; simp at hj
          have := hcell a rfl _ u hu
          rw [add_at, h5 (by omega)]
          rwa [show a.off + i * es + j = a.off + (i * es + j) by omega]
        · cases hu
  unfold srcA
  cases o with
  | blk => exact SemAt.fail
  | obj => exact SemAt.fail
  | box => exact SemAt.fail
  | lp => exact SemAt.fail
  | vec ty es' n row =>
    dsimp only
    cases hes : es == es' with
    | false => exact SemAt.fail
    | true =>
      have hes' : es = es' := by simpa using hes
      subst hes'
      refine SemAt.need fun hle => ?_
      obtain ⟨b2, k2, xs, g1, g2, g3, g4⟩ := hh
      rw [he] at g1
      simp only [Option.some.injEq, Prod.mk.injEq] at g1
      obtain ⟨rfl, rfl⟩ := g1
      refine main n row xs g2.1 g3 g4 hle fun a ha j u hu => ?_
      subst ha
      have hoff : a.off = 0 := by
        rcases g2.2 with ⟨hv, _⟩ | ⟨g, cap, cur, hv, _⟩
        · simp at hv
        · simp only [Value.slice.injEq, Option.some.injEq] at hv; rw [hv.1]
      have := g2.cells (g := a.block) rfl j u hu
      rw [add_at (⟨a.block, 0, none⟩ : Addr)] at this
      rw [hoff]; exact this
  | ro es' n row =>
    dsimp only
    cases hes : es == es' with
    | false => exact SemAt.fail
    | true =>
      have hes' : es = es' := by simpa using hes
      subst hes'
      refine SemAt.need fun hle => ?_
      obtain ⟨b2, k2, xs, g1, g2, g3, g4, g5⟩ := hh
      rw [he] at g1
      simp only [Option.some.injEq, Prod.mk.injEq] at g1
      obtain ⟨rfl, rfl⟩ := g1
      refine main n row xs g2 g4 g5 hle fun a ha j u hu => ?_
      rcases g3 with ⟨e, _⟩ | ⟨a', e, _, _, hc⟩
      · rw [ha] at e; cases e
      · rw [ha] at e
        obtain rfl := Option.some.inj e
        exact hc j u hu
theorem run_app_empty {t ty e es : Nat} {b' : Option Addr} {row : Nat → List AV} {c : Value} {m : Nat} {news : List Value} (ht : P.underlying t = some (.slice e)) (hi : infoOK P e = some es) (hs : Src E W es m row c news) (hb : m ≤ 1099511627776) :
    ∃ v' W', (Builtin.append_ #[t, t] ty #[.slice b' 0 0, c]).run P W = .ok v' W' ∧ ((m = 0 ∧ v' = .slice b' 0 0 ∧ W' = W) ∨ ∃ cap, v' = .slice (some ⟨W.heap.size, 0, none⟩) m cap ∧ W'.ownsRow 0 e es v' m news ∧ W.grownBy W' none) := by
  obtain ⟨i, z, hi1, hz, hsz, hby, hzs, hpos⟩ := infoOK_ok hi
  subst hsz
  rcases hs.addr with ⟨ad, mm, rfl, hc⟩ | ⟨rfl, rfl⟩
  · by_cases hm : m = 0
    · subst hm
      refine ⟨_, W, ?_, .inl ⟨rfl, rfl, rfl⟩⟩
      cases b' <;> simp [Builtin.append_, run_underlying ht, sizeOf, typeInfo, hi1, Builtin.lenOf, Builtin.firstCells, loadCells, loadCellsFrom, storeCells]
    · have hmb : m * i.bytes ≤ 140737488355328 := Nat.le_trans (Nat.mul_le_mul_left m hby) (by omega)
      cases b' with
      | none =>
        obtain ⟨v', w', hr, h2, h3, _, h5⟩ := run_append_own_at (P := P) W 0 t ty e i z i.size i.bytes ht hi1 hz rfl rfl hzs hpos (.slice none 0 0) 0 [] (World.ownsRow_nil W 0 e i.size) ad m mm news hs.len hc hs.one (by unfold maxLen; omega) (by simpa using hmb) (Nat.zero_le _)
        simp only [Nat.zero_add, List.nil_append] at h2
        obtain ⟨g, cap, rfl, _, _⟩ := h2.form (by omega)
        refine ⟨_, w', hr, .inr ⟨cap, ?_, h2, h3⟩⟩
        rcases h5 with h5 | h5
        · simp [Value.ownBlock] at h5
        · simp only [Value.ownBlock, Option.some.injEq] at h5; rw [h5]
      | some a0 =>
        have hr := run_append_grow (P := P) W t ty e i z ht hi1 hz a0 0 0 [] (by simp) (fun j v h => by simp at h) ad m mm news hs.len hc (by omega) (by omega) (growslice_fits (by omega) (by simpa using hmb))
        simp only [Nat.zero_add, Array.empty_append] at hr
        refine ⟨_, _, hr, .inr ⟨grownCap W m 0 e, rfl, ⟨hs.len, .inr ⟨W.heap.size, grownCap W m 0 e, _, rfl, Nat.zero_le _, heap_alloc_new W.drew _, grownCap_ge W m 0 e, grownCap_le_maxLen W m 0 e (by unfold maxLen; omega), ?_, ?_⟩⟩, ⟨rfl, rfl, rfl, by simp, fun k hk _ => alloc_old W.drew _ k hk⟩⟩⟩
        · have hge := grownCap_ge W m 0 e
          simp only [Array.size_append, List.size_toArray, size_zeroCells, hzs, hs.len, ← Nat.add_mul]
          congr 1
          omega
        · simp only [Array.toList_append, List.append_assoc]
          rw [← hs.len]
          simp
  · refine ⟨_, W, ?_, .inl ⟨rfl, rfl, rfl⟩⟩
    cases b' <;> simp [Builtin.append_, run_underlying ht, sizeOf, typeInfo, hi1, Builtin.lenOf, Builtin.firstCells, storeCells]
theorem run_app_own {t ty e es : Nat} {v : Value} {n : Nat} {xs : List Value} {row : Nat → List AV} {c : Value} {m : Nat} {news : List Value} (ht : P.underlying t = some (.slice e)) (hi : infoOK P e = some es) (hown : W.ownsRow 0 e es v n xs) (hs : Src E W es m row c news) (hb : n + m ≤ 1099511627776) :
    ∃ v' W', (Builtin.append_ #[t, t] ty #[v, c]).run P W = .ok v' W' ∧ W'.ownsRow 0 e es v' (n + m) (xs ++ news) ∧ W.grownBy W' v.ownBlock ∧ (v'.ownBlock = v.ownBlock ∨ v'.ownBlock = some W.heap.size) := by
  obtain ⟨i, z, hi1, hz, hsz, hby, hzs, hpos⟩ := infoOK_ok hi
  subst hsz
  rcases hs.addr with ⟨ad, mm, rfl, hc⟩ | ⟨rfl, rfl⟩
  · have hmb : (n + m) * i.bytes ≤ 140737488355328 := Nat.le_trans (Nat.mul_le_mul_left (n + m) hby) (by omega)
    obtain ⟨v', w', hr, h2, h3, _, h5⟩ := run_append_own_at (P := P) W 0 t ty e i z i.size i.bytes ht hi1 hz rfl rfl hzs hpos v n xs hown ad m mm news hs.len hc hs.one (by unfold maxLen; omega) hmb (Nat.zero_le _)
    exact ⟨v', w', hr, h2, h3, h5⟩
  · have hn : news = [] := List.eq_nil_of_length_eq_zero (by simpa using hs.len)
    subst hn
    exact ⟨v, W, run_append_owned_none W 0 t ty e i i.size ht hi1 v n xs hown, by simpa using hown, ⟨rfl, rfl, rfl, Nat.le_refl _, fun _ _ _ => rfl⟩, .inl rfl⟩
def appA (P : Program) (nm : Nat) (t : TypeId) (x y : AV) : Ac AV := match P.underlying t with
  | some (.slice e) => match infoOK P e with
    | none => .fail
    | some es => match y with
      | .sl id2 i2 es2 m c2 => match es2 == es with
        | false => .fail
        | true => .get id2 fun o2 => srcA o2 i2 es2 m fun row2 => match x with
          | .val (.slice none 0 0) => .need (m ≤ 1099511627776) (.new nm (.vec e es m row2) (.ret (.sl nm 0 es m none)))
          | .sl id 0 es' n none => match id == id2, es' == es with
            | false, true => .get id fun o => match o with
              | .vec e' es'' n' row => match e' == e, es'' == es with
                | true, true => .need (n' = n) (.need (n + m ≤ 1099511627776) (.del id (.new nm (.vec e es (addN n m) (catR n row row2)) (.ret (.sl nm 0 es (addN n m) none)))))
                | _, _ => .fail
              | _ => .fail
            | _, _ => .fail
          | .sl id i es' 0 (some 0) => .need (m ≤ 1099511627776) (.new nm (.vec e es m row2) (.ret (.sl nm 0 es m none)))
          | _ => .fail
      | _ => .fail
  | _ => .fail
theorem app_empty_ok (r : RH E s.heap W) {t ty e es nm : Nat} {b' : Option Addr} {row : Nat → List AV} {c : Value} {m : Nat} {news : List Value} (ht : P.underlying t = some (.slice e)) (hi : infoOK P e = some es) (hs : Src E W es m row c news) :
    SemAt P E s W (Builtin.append_ #[t, t] ty #[.slice b' 0 0, c]) (.need (m ≤ 1099511627776) (.new nm (.vec e es m row) (.ret (.sl nm 0 es m none)))) := by
  refine SemAt.need fun hb => fun out ho _ hn => ?_
  simp only [Ac.run] at ho
  split at ho
  · cases ho
  · rename_i hf
    simp only [Option.some.injEq] at ho
    subst ho
    have hne := hn nm (by simp)
    obtain ⟨v', W', hr, h⟩ := run_app_empty (P := P) (ty := ty) (b' := b') ht hi hs hb
    have fin : ∀ (x : Option Addr × Nat) (g : W.grownBy W' none), (∀ b, baseBlk x = some b → W.heap.size ≤ b) → (∀ E' : Env, (∀ i x, E i = some x → E' i = some x) → E' nm = some x → Holds E' W' nm (.vec e es m row) ∧ RV E' (.sl nm 0 es m none) v') →
        s.slots = s.slots ∧ ∃ cv W' E', (Builtin.append_ #[t, t] ty #[.slice b' 0 0, c]).run P W = .ok cv W' ∧ Ext E E' [nm] ∧ RV E' (.sl nm 0 es m none) cv ∧ RH E' (upd s.heap nm (.vec e es m row)) W' ∧ Mod E s.heap W E' (upd s.heap nm (.vec e es m row)) W' := by
      intro x g hx hh
      have hxt := nw_set E nm x hne
      obtain ⟨h1, h2⟩ := hh _ hxt.1 (by simp)
      obtain ⟨q1, q2⟩ := RH.change (h' := upd s.heap nm (.vec e es m row)) r hxt g (fun b hb => by cases hb) (by rw [find_upd]; simp) (fun x hx' y hy => by rw [find_upd, if_neg (fun e => hx' e.symm)] at hy; exact hy) h1 (fun b hb => .inr (hx b (by
        simp only [Foot, Ob.bx, FootB, blkOf, if_pos] at hb
        obtain ⟨q1, q2⟩ := x
        cases q1 <;> exact hb)))
      exact ⟨rfl, v', W', _, hr, hxt, h2, q1, q2⟩
    rcases h with ⟨rfl, rfl, rfl⟩ | ⟨cap, rfl, h2, h3⟩
    · have hnn : news = [] := List.eq_nil_of_length_eq_zero (by simpa using hs.len)
      refine fin (none, 0) ⟨rfl, rfl, rfl, Nat.le_refl _, fun _ _ _ => rfl⟩ (fun b hb => by cases hb) fun E' he hnm => ⟨⟨none, 0, [], hnm, World.ownsRow_nil _ _ _ _, (fun u hu => by cases hu), fun q hq => by omega⟩, ?_⟩
      simp only [RV]
      exact ⟨none, 0, hnm, b', rfl, rfl, rfl⟩
    · refine fin (some ⟨W.heap.size, 0, none⟩, cap) h3 (fun b hb => by simp [baseBlk] at hb; omega) fun E' he hnm => ⟨⟨_, cap, news, hnm, h2, hs.one, hs.rows.mono he⟩, ?_⟩
      simp only [RV]
      refine ⟨_, cap, hnm, 0, cap, rfl, ?_, by omega, fun _ => by simp, by simp⟩
      rcases h2.2 with ⟨hv, _⟩ | ⟨g, cap', cur, hv, _, _, h4, _⟩
      · simp at hv
      · simp only [Value.slice.injEq, true_and] at hv; rw [hv.2]; exact h4
theorem app_ok (r : RH E s.heap W) (nm : Nat) (t ty : TypeId) {x y : AV} {cx cy : Value} (hx : RV E x cx) (hy : RV E y cy) : SemAt P E s W (Builtin.append_ #[t, t] ty #[cx, cy]) (appA P nm t x y) := by
  unfold appA
  split
  case h_2 => exact SemAt.fail
  rename_i e ht
  split
  · exact SemAt.fail
  rename_i es hi
  split
  case h_2 => exact SemAt.fail
  rename_i id2 i2 es2 m c2
  split
  · exact SemAt.fail
  rename_i hes
  have hes' : es2 = es := by simpa using hes
  subst hes'
  refine SemAt.get fun o2 ho2 => src_ok (r.holds id2 o2 ho2) hy _ fun row2 news hs => ?_
  split
  · simp only [RV] at hx
    subst hx
    exact app_empty_ok r ht hi hs
  · rename_i id es' n
    split
    case h_2 => exact SemAt.fail
    rename_i hid hes2
    have hes3 : es' = es2 := by simpa using hes2
    subst hes3
    refine SemAt.get fun o ho => ?_
    split
    case h_2 => exact SemAt.fail
    rename_i e' es'' n' row
    split
    case h_2 => exact SemAt.fail
    rename_i hee hes4
    have hee' : e' = e := by simpa using hee
    have hes5 : es'' = es' := by simpa using hes4
    subst hee' hes5
    refine SemAt.need fun hn' => SemAt.need fun hb => ?_
    subst hn'
    intro out hout _ hnw
    simp only [Ac.run] at hout
    split at hout
    · cases hout
    rename_i q hq
    split at hq
    · cases hq
    rename_i hf
    simp only [Option.some.injEq] at hq
    subst hq
    simp only [Option.some.injEq] at hout
    subst hout
    have hne := hnw nm (by simp)
    obtain ⟨b, k, xs, h1, h2, h3, h4⟩ := r.holds id _ ho
    simp only [RV] at hx
    obtain ⟨b2, k2, h5, h6⟩ := hx
    rw [h1] at h5
    simp only [Option.some.injEq, Prod.mk.injEq] at h5
    obtain ⟨rfl, rfl⟩ := h5
    have hnd : nm ≠ id := fun e => by rw [e, h1] at hne; cases hne
    have hrest : ∀ (o' : Ob), ∀ x, x ≠ nm → ∀ y, find (upd (del s.heap id) nm o') x = some y → find s.heap x = some y := fun o' x hx y hy => by
      rw [find_upd, if_neg (fun e => hx e.symm), find_del] at hy
      split at hy
      · cases hy
      · exact hy
    have hgone : ∀ (o' : Ob), find (upd (del s.heap id) nm o') id = none := fun o' => by
      rw [find_upd, if_neg hnd, find_del]; simp
    have hlen := h2.1
    have fin : ∀ (v' : Value) (W' : World) (xx : Option Addr × Nat) (rw' : Option Nat) (g : W.grownBy W' rw'), (rw' = none ∨ rw' = blkOf E id) → (∀ b, baseBlk xx = some b → rw' = some b ∨ W.heap.size ≤ b) → (Builtin.append_ #[t, t] ty #[cx, cy]).run P W = .ok v' W' →
        (∀ E' : Env, (∀ i x, E i = some x → E' i = some x) → E' nm = some xx → Holds E' W' nm (.vec e' es'' (addN n' m) (catR n' row row2)) ∧ RV E' (.sl nm 0 es'' (addN n' m) none) v') →
        s.slots = s.slots ∧ ∃ cv W' E', (Builtin.append_ #[t, t] ty #[cx, cy]).run P W = .ok cv W' ∧ Ext E E' [nm] ∧ RV E' (.sl nm 0 es'' (addN n' m) none) cv ∧ RH E' (upd (del s.heap id) nm (.vec e' es'' (addN n' m) (catR n' row row2))) W' ∧ Mod E s.heap W E' (upd (del s.heap id) nm (.vec e' es'' (addN n' m) (catR n' row row2))) W' := by
      intro v' W' xx rw' g hrw hxx hr hh
      have hxt := nw_set E nm xx hne
      obtain ⟨g1, g2⟩ := hh _ hxt.1 (by simp)
      obtain ⟨q1, q2⟩ := RH.change (h' := upd (del s.heap id) nm (.vec e' es'' (addN n' m) (catR n' row row2))) r hxt g (fun b hb => by
        rcases hrw with e | e
        · rw [e] at hb; cases hb
        · exact ⟨id, _, ho, rfl, by show blkOf E id = some b; rw [← e]; exact hb, .inr (hgone _)⟩) (by rw [find_upd]; simp) (hrest _) g1 (fun b hb => hxx b (by
        simp only [Foot, Ob.bx, FootB, blkOf, if_pos] at hb
        obtain ⟨q1, q2⟩ := xx
        cases q1 <;> exact hb))
      exact ⟨rfl, v', W', _, hr, hxt, g2, q1, q2⟩
    have hrow : ∀ E' : Env, (∀ i x, E i = some x → E' i = some x) → RowsOK E' es'' (addN n' m) (catR n' row row2) (xs ++ news) := fun E' he q hq => by
      rw [catR_at, cells_cat xs news es'' n' q hlen]
      rw [addN_eq] at hq
      by_cases e : q < n'
      · rw [if_pos e, if_pos e]; exact (h4.mono he) q e
      · rw [if_neg e, if_neg e]; exact (hs.rows.mono he) _ (by omega)
    have hone : ∀ u ∈ xs ++ news, u.oneCell' = true := fun u hu => (List.mem_append.1 hu).elim (h3 u) (hs.one u)
    cases b with
    | none =>
      obtain ⟨b', rfl, rfl, _⟩ := h6
      obtain ⟨v', W', hr, h⟩ := run_app_empty (P := P) (ty := ty) (b' := b') ht hi hs (by omega)
      have hxs : xs = [] := List.eq_nil_of_length_eq_zero (by simpa using hlen)
      subst hxs
      rcases h with ⟨rfl, rfl, rfl⟩ | ⟨cap, rfl, g2, g3⟩
      · have hnn : news = [] := List.eq_nil_of_length_eq_zero (by simpa using hs.len)
        refine fin _ _ (none, 0) none ⟨rfl, rfl, rfl, Nat.le_refl _, fun _ _ _ => rfl⟩ (.inl rfl) (fun b hb => by cases hb) hr fun E' he hnm => ⟨⟨none, 0, [], hnm, World.ownsRow_nil _ _ _ _, (fun u hu => by cases hu), fun q hq => by simp only [addN] at hq; omega⟩, ?_⟩
        simp only [RV]
        exact ⟨none, 0, hnm, b', rfl, rfl, rfl⟩
      · refine fin _ _ (some ⟨W.heap.size, 0, none⟩, cap) none g3 (.inl rfl) (fun b hb => by simp [baseBlk] at hb; omega) hr fun E' he hnm => ⟨⟨_, cap, news, hnm, g2, hone, hrow E' he⟩, ?_⟩
        simp only [RV]
        refine ⟨_, cap, hnm, 0, cap, rfl, ?_, by omega, fun _ => by simp, by simp⟩
        rcases g2.2 with ⟨hv, _⟩ | ⟨g, cap', cur, hv, _, _, h4, _⟩
        · simp at hv
        · simp only [Value.slice.injEq, true_and] at hv; rw [hv.2]; exact h4
    | some a =>
      obtain ⟨o', mm, rfl, g1, g2, g3, g4⟩ := h6
      have hmm : mm = k := by simpa using g4
      subst hmm
      have hform : a.off = 0 ∧ a.spot = none ∧ (n' = 0 ∨ True) := by
        rcases h2.2 with ⟨hv, _⟩ | ⟨g, cap, cur, hv, _⟩
        · simp at hv
        · simp only [Value.slice.injEq, Option.some.injEq] at hv; rw [hv.1]; exact ⟨rfl, rfl, .inr trivial⟩
      have hcx : (Value.slice (some ⟨a.block, o', none⟩) n' mm) = .slice (some a) n' mm ∨ mm = 0 := by
        by_cases e : mm = 0
        · exact .inr e
        · left
          have := g3 e
          rw [this, hform.1]
          obtain ⟨ab, ao, asp⟩ := a
          simp only at hform
          simp [hform.1, hform.2.1]
      rcases hcx with hcx | hcx
      · rw [hcx]
        rw [hcx] at fin
        obtain ⟨v', W', hr, g5, g6, g7⟩ := run_app_own (P := P) (ty := ty) ht hi h2 hs hb
        have hv' : ∃ x cap, v' = .slice x (n' + m) cap ∧ (x = none → cap = 0 ∧ n' + m = 0) ∧ (∀ y, x = some y → y.off = 0 ∧ y.spot = none ∧ n' + m ≤ cap) := by
          rcases g5.2 with ⟨rfl, h0⟩ | ⟨g, cap, cur, rfl, _, _, h7, _⟩
          · exact ⟨none, 0, by rw [h0], (fun _ => ⟨rfl, h0⟩), fun y hy => by cases hy⟩
          · exact ⟨_, cap, rfl, (fun h => by cases h), fun y hy => by cases hy; exact ⟨rfl, rfl, h7⟩⟩
        obtain ⟨x, cap, rfl, hx0, hx1⟩ := hv'
        refine fin _ W' (x, cap) (some a.block) g6 (.inr (by simp [blkOf, h1])) (fun b hb => ?_) hr fun E' he hnm => ⟨⟨x, cap, xs ++ news, hnm, by rw [addN_eq]; exact g5, hone, hrow E' he⟩, ?_⟩
        · cases x with
          | none => cases hb
          | some y =>
            have hb : y.block = b := Option.some.inj hb
            subst hb
            rcases g7 with g7 | g7
            · left; simpa [Value.ownBlock] using g7.symm
            · right; simp only [Value.ownBlock, Option.some.injEq] at g7; omega
        · simp only [RV]
          refine ⟨x, cap, hnm, ?_⟩
          rw [addN_eq]
          cases x with
          | none => obtain ⟨rfl, h0⟩ := hx0 rfl; rw [h0]; exact ⟨none, rfl, rfl, rfl⟩
          | some y =>
            obtain ⟨y1, y2, y3⟩ := hx1 y rfl
            refine ⟨0, cap, ?_, y3, by omega, fun _ => by simp [y1], by simp⟩
            obtain ⟨yb, yo, ys⟩ := y
            simp only at y1 y2
            rw [y1, y2]
      · subst hcx
        have hn0 : n' = 0 := by omega
        subst hn0
        obtain ⟨v', W', hr, h⟩ := run_app_empty (P := P) (ty := ty) (b' := some ⟨a.block, o', none⟩) ht hi hs (by omega)
        have hxs : xs = [] := List.eq_nil_of_length_eq_zero (by simpa using hlen)
        subst hxs
        rcases h with ⟨rfl, rfl, rfl⟩ | ⟨cap, rfl, g5, g6⟩
        · have hnn : news = [] := List.eq_nil_of_length_eq_zero (by simpa using hs.len)
          refine fin _ _ (none, 0) none ⟨rfl, rfl, rfl, Nat.le_refl _, fun _ _ _ => rfl⟩ (.inl rfl) (fun b hb => by cases hb) hr fun E' he hnm => ⟨⟨none, 0, [], hnm, World.ownsRow_nil _ _ _ _, (fun u hu => by cases hu), fun q hq => by simp only [addN] at hq; omega⟩, ?_⟩
          simp only [RV]
          exact ⟨none, 0, hnm, _, rfl, rfl, rfl⟩
        · refine fin _ _ (some ⟨W.heap.size, 0, none⟩, cap) none g6 (.inl rfl) (fun b hb => by simp [baseBlk] at hb; omega) hr fun E' he hnm => ⟨⟨_, cap, news, hnm, g5, hone, hrow E' he⟩, ?_⟩
          simp only [RV]
          refine ⟨_, cap, hnm, 0, cap, rfl, ?_, by omega, fun _ => by simp, by simp⟩
          rcases g5.2 with ⟨hv, _⟩ | ⟨g, cap', cur, hv, _, _, h4, _⟩
          · simp at hv
          · simp only [Value.slice.injEq, true_and] at hv; rw [hv.2]; exact h4
  · rename_i id i es' 
    simp only [RV] at hx
    obtain ⟨b, k, h1, h2⟩ := hx
    have hcx : ∃ b', cx = .slice b' 0 0 := by
      cases b with
      | none => obtain ⟨b', rfl, _⟩ := h2; exact ⟨b', rfl⟩
      | some a => obtain ⟨o, m, rfl, _, _, _, h3⟩ := h2; exact ⟨_, by rw [show m = 0 from h3]⟩
    obtain ⟨b', rfl⟩ := hcx
    exact app_empty_ok r ht hi hs
  · exact SemAt.fail
end
end Go.Proofs.Ytbgbjgedjmhcaaa
namespace Go.Proofs.Ytbgbjgedjmhcaaa
open Go.RowKit
section
variable {P : Program} {E : Env} {s : St} {W : World} {sem : Sem Value}
theorem newVec (r : RH E s.heap W) {nm e es n cap : Nat} {row : Nat → List AV} {cur : Array Value} (h : sem.run P W = .ok (.slice (some ⟨W.heap.size, 0, none⟩) n cap) (W.alloc (.cells cur e))) (hc : cur.size = cap * es) (hn : n ≤ cap) (hm : cap ≤ maxLen)
    (h1 : ∀ u ∈ cur.toList.take (n * es), u.oneCell' = true) (hr : RowsOK E es n row (cur.toList.take (n * es))) : SemAt P E s W sem (.new nm (.vec e es n row) (.ret (.sl nm 0 es n none))) := by
  have hle : n * es ≤ cap * es := Nat.mul_le_mul_right _ hn
  refine SemAt.new r (k := cap) h fun E' he hnm => ⟨⟨_, _, cur.toList.take (n * es), hnm, ⟨by rw [List.length_take, Array.length_toList]; omega, .inr ⟨W.heap.size, cap, cur, rfl, Nat.zero_le _, heap_alloc_new W _, hn, hm, hc, rfl⟩⟩, h1, hr.mono he⟩, ?_⟩
  simp only [RV]
  exact ⟨_, _, hnm, 0, cap, rfl, hn, by omega, fun _ => by simp, by simp⟩
def mkSliceA (P : Program) (nm : Nat) (t : TypeId) (l c : AV) : Ac AV := match P.underlying t with
  | some (.slice e) => match infoOK P e, zeroA P e with
    | some es, some zs => match l, c, allB one1 zs with
      | .val (.int _ zl), .val (.int _ zc), true => .need (0 ≤ zl ∧ zl ≤ zc ∧ zc ≤ 1099511627776) (.new nm (.vec e es zl.toNat (fun _ => zs)) (.ret (.sl nm 0 es zl.toNat none)))
      | _, _, _ => .fail
    | _, _ => .fail
  | _ => .fail
theorem mkSlice_ok (r : RH E s.heap W) (nm : Nat) (t : TypeId) {l c : AV} {cl cc : Value} (hl : RV E l cl) (hc : RV E c cc) : SemAt P E s W (Instr.makeSlice t cl cc) (mkSliceA P nm t l c) := by
  unfold mkSliceA
  split
  case h_2 => exact SemAt.fail
  rename_i e ht
  split
  case h_2 => exact SemAt.fail
  rename_i es zs hi hzs
  split
  case h_2 => exact SemAt.fail
  rename_i kl zl kc zc h1
  simp only [RV] at hl hc
  subst hl hc
  obtain ⟨i, z, hi1, hz, hsz, hby, hzc, hpos⟩ := infoOK_ok hi
  obtain ⟨i', z', hi1', hz', rfl⟩ := zeroA_ok hzs
  rw [hi1] at hi1'
  obtain rfl := Option.some.inj hi1'
  rw [hz] at hz'
  obtain rfl := Option.some.inj hz'
  refine SemAt.need fun hb => ?_
  have hbz : (i.bytes : Int) * zc ≤ 281474976710656 := by
    have h2 : i.bytes * zc.toNat ≤ 128 * 1099511627776 := Nat.mul_le_mul hby (by omega)
    have h3 : (i.bytes : Int) * zc = ((i.bytes * zc.toNat : Nat) : Int) := by rw [Int.natCast_mul, Int.toNat_of_nonneg (by omega)]
    rw [h3]; omega
  have hr := run_make (P := P) W t e i z ht hi1 hz kl kc zl zc hb.1 hb.2.1 hbz (by omega)
  rw [hsz] at hr
  have hcell : ∀ j, j < zc.toNat * es → (madeCells z.cells (zc.toNat * es)).toList[j]? = z.cells.toList[j % es]? := fun j hj => by
    have hlt : j % es < z.cells.size := by rw [hzc]; exact Nat.mod_lt _ hpos
    simp only [madeCells, Array.toList_map, Array.toList_range, List.getElem?_map, List.getElem?_range hj, Option.map_some, hzc]
    rw [getElem!_pos z.cells (j % es) hlt]
    simp [hlt]
  refine newVec r hr (size_madeCells _ _) (by omega) (by unfold maxLen; omega) (fun u hu => ?_) (fun q hq => ?_)
  · obtain ⟨j, hj⟩ := List.getElem?_of_mem hu
    rw [List.getElem?_take] at hj
    split at hj
    · rename_i hj2
      have hle : zl.toNat * es ≤ zc.toNat * es := Nat.mul_le_mul_right _ (by omega)
      rw [hcell j (by omega)] at hj
      have hm := List.mem_of_getElem? hj
      have := allB_ok h1 (.val u) (List.mem_map.2 ⟨u, hm, rfl⟩)
      simpa [one1] using this
    · cases hj
  · have hle : zl.toNat * es ≤ zc.toNat * es := Nat.mul_le_mul_right _ (by omega)
    have hq2 : q * es + es ≤ zl.toNat * es := by rw [← Nat.succ_mul]; exact Nat.mul_le_mul_right _ hq
    have : cellsAt ((madeCells z.cells (zc.toNat * es)).toList.take (zl.toNat * es)) es q = z.cells.toList := by
      apply List.ext_getElem?
      intro d
      unfold cellsAt
      rw [List.getElem?_take]
      by_cases hd : d < es
      · rw [if_pos hd, List.getElem?_drop, List.getElem?_take, if_pos (by omega), hcell _ (by omega)]
        congr 1
        rw [Nat.mul_comm, Nat.mul_add_mod]
        exact Nat.mod_eq_of_lt hd
      · rw [if_neg hd, List.getElem?_eq_none]
        rw [Array.length_toList]; omega
    rw [this]
    exact RVs.vals _
def rowsOf (cs : List AV) (es : Nat) : Nat → List AV := fun q => (cs.drop (q * es)).take es
def bsA1 (P : Program) (nm : Nat) (t : TypeId) (len : Nat) (parts : List (Nat × AV)) : Ac AV := match P.underlying t with
  | some (.slice e) => match tySize P e, P.info? e with
    | some es, some i => match i.zero with
      | some z => match fillA (fun i => some (i * es, es)) (((Array.range (len * es)).map (z.cells[· % z.cells.size]!)).toList.map .val) parts with
        | some cs => match allB one1 cs, lenEq cs (len * es), Nat.ble (len * es) 16777216, Nat.ble 1 (len * es) with
          | true, true, true, true => .new nm (.vec e es len (rowsOf cs es)) (.ret (.sl nm 0 es len none))
          | _, _, _, _ => .fail
        | none => .fail
      | none => .fail
    | _, _ => .fail
  | _ => .fail
theorem bs1_ok (r : RH E s.heap W) (nm : Nat) (t : TypeId) (len : Nat) {parts : List (Nat × AV)} {vparts : Array (Nat × Value)} (h : RPs E parts vparts.toList) : SemAt P E s W (Instr.buildSlice t len vparts) (bsA1 P nm t len parts) := by
  unfold bsA1
  split
  case h_2 => exact SemAt.fail
  rename_i e ht
  split
  case h_2 => exact SemAt.fail
  rename_i es i hes hi
  split
  case h_2 => exact SemAt.fail
  rename_i z hz
  split
  case h_2 => exact SemAt.fail
  rename_i cs hcs
  split
  case h_2 => exact SemAt.fail
  rename_i h1 hl hb h0
  obtain ⟨res, q1, q2⟩ := fill_ok (cur := (Array.range (len * es)).map (z.cells[· % z.cells.size]!)) hcs h (RVs.vals _)
  have hle := lenEq_ok hl
  have hrl : res.toList.length = len * es := by rw [q2.length]; exact hle
  have hb' := Nat.le_of_ble_eq_true hb
  have h0' := Nat.le_of_ble_eq_true h0
  have hne : ¬ (len * es > 2 ^ 24) := by omega
  have hnz : ¬ (len * es = 0) := by omega
  have hrun : (Instr.buildSlice t len vparts).run P W = .ok (.slice (some ⟨W.heap.size, 0, none⟩) len len) (W.alloc (.cells res e)) := by
    have e1 : (Instr.fill (fun i => some (i * es, es)) ((Array.range (len * es)).map (z.cells[· % z.cells.size]!)) vparts.toList) = some res := q1
    simp only [Instr.buildSlice, Sem.run_bind, run_underlying ht, run_size hes, Result.andThen_ok, if_neg hne, if_neg hnz, zeroValue, typeInfo, run_program, hi, hz, Sem.run_pure, e1, newRow, newObj, Sem.run]
    rfl
  have hlen : len ≤ 16777216 := by
    have : 0 < es := Nat.pos_of_ne_zero fun e => by rw [e] at h0'; omega
    exact Nat.le_trans (Nat.le_mul_of_pos_right len this) hb'
  have htk : res.toList.take (len * es) = res.toList := List.take_of_length_le (by omega)
  refine newVec r hrun (by simpa using hrl) (Nat.le_refl _) (by unfold maxLen; omega) (fun u hu => ?_) (fun q hq => ?_)
  · rw [htk] at hu
    obtain ⟨j, hj⟩ := List.getElem?_of_mem hu
    have hj2 : j < cs.length := by have := (List.getElem?_eq_some_iff.1 hj).1; omega
    obtain ⟨y, hy, hy2⟩ := q2.get j cs[j] (by rw [nth_eq, List.getElem?_eq_getElem hj2])
    rw [hj] at hy
    obtain rfl := Option.some.inj hy
    exact one1_ok (allB_ok h1 _ (List.getElem_mem hj2)) hy2
  · rw [htk]
    exact (q2.drop _).take _
def bsA0 (P : Program) (nm : Nat) (t : TypeId) : Ac AV := match P.underlying t with
  | some (.slice e) => match tySize P e with
    | some es => .new nm (.vec e es 0 (fun _ => [])) (.ret (.sl nm 0 es 0 none))
    | none => .fail
  | _ => .fail
def bsA (P : Program) (nm : Nat) (t : TypeId) (len : Nat) (parts : List (Nat × AV)) : Ac AV := match len, parts with
  | 0, [] => bsA0 P nm t
  | _, _ => bsA1 P nm t len parts
theorem bs_ok (r : RH E s.heap W) (nm : Nat) (t : TypeId) (len : Nat) {parts : List (Nat × AV)} {vparts : Array (Nat × Value)} (h : RPs E parts vparts.toList) : SemAt P E s W (Instr.buildSlice t len vparts) (bsA P nm t len parts) := by
  unfold bsA
  split
  case h_2 => exact bs1_ok r nm t _ h
  have hv : vparts = #[] := by
    cases hv : vparts.toList with
    | nil => exact Array.toList_eq_nil_iff.1 hv
    | cons y ys => rw [hv] at h; simp [RPs] at h
  subst hv
  unfold bsA0
  split
  case h_2 => exact SemAt.fail
  rename_i e ht
  split
  case h_2 => exact SemAt.fail
  rename_i es hes
  have hrun : (Instr.buildSlice t 0 #[]).run P W = .ok (.slice (some ⟨W.heap.size, 0, none⟩) 0 0) (W.alloc (.cells #[] e)) := by
    simp only [Instr.buildSlice, Sem.run_bind, run_underlying ht, run_size hes, Result.andThen_ok, Nat.zero_mul, if_neg (show ¬ (0 > 2 ^ 24) by omega), if_true, Sem.run_pure, Instr.fill, newRow, newObj, Sem.run]
    rw [show (Array.map (fun x => (#[] : Array Value)[x % (#[] : Array Value).size]!) (Array.range 0)) = #[] from Array.eq_empty_of_size_eq_zero (by rw [Array.size_map, Array.size_range])]
    rfl
  exact newVec r hrun (by simp) (Nat.le_refl _) (by unfold maxLen; omega) (fun u hu => by simp at hu) (fun q hq => by omega)
def minA : List AV → Ac AV
  | [.val (.int k a)] => .ret (.val (.int k a))
  | [.val (.int k a), .val (.int _ b)] => .ret (.val (.int k (min a b)))
  | [.val (.int k a), .val (.int _ b), .val (.int _ c)] => .ret (.val (.int k (min (min a b) c)))
  | _ => .fail
def maxA : List AV → Ac AV
  | [.val (.int k a)] => .ret (.val (.int k a))
  | [.val (.int k a), .val (.int _ b)] => .ret (.val (.int k (max a b)))
  | [.val (.int k a), .val (.int _ b), .val (.int _ c)] => .ret (.val (.int k (max (max a b) c)))
  | _ => .fail
theorem min_if (a b : Int) : (if b < a then b else a) = min a b := by
  by_cases h : b < a
  · rw [if_pos h]; omega
  · rw [if_neg h]; omega
theorem min_ok (r : RH E s.heap W) (l : Array TypeId) (ty : TypeId) {xs : List AV} {cs : List Value} (h : RVs E xs cs) : SemAt P E s W (Builtin.min_ l ty cs.toArray) (minA xs) := by
  unfold minA
  split
  · simp only [RVs, RV] at h
    obtain ⟨y, m, rfl, rfl, rfl⟩ := h
    exact SemAt.ret r (by simp [Builtin.min_]; rfl) (by simp only [RV])
  · simp only [RVs, RV] at h
    obtain ⟨y, m, rfl, rfl, y2, m2, rfl, rfl, rfl⟩ := h
    exact SemAt.ret r (by simp [Builtin.min_, Builtin.min2]; rfl) (by simp only [RV, min_if])
  · simp only [RVs, RV] at h
    obtain ⟨y, m, rfl, rfl, y2, m2, rfl, rfl, y3, m3, rfl, rfl, rfl⟩ := h
    exact SemAt.ret r (by simp [Builtin.min_, Builtin.min2]; rfl) (by simp only [RV, min_if])
  · exact SemAt.fail
theorem max_if (a b : Int) : (if b > a then b else a) = max a b := by
  by_cases h : b > a
  · rw [if_pos h]; omega
  · rw [if_neg h]; omega
theorem max_ok (r : RH E s.heap W) (l : Array TypeId) (ty : TypeId) {xs : List AV} {cs : List Value} (h : RVs E xs cs) : SemAt P E s W (Builtin.max_ l ty cs.toArray) (maxA xs) := by
  unfold maxA
  split
  · simp only [RVs, RV] at h
    obtain ⟨y, m, rfl, rfl, rfl⟩ := h
    exact SemAt.ret r (by simp [Builtin.max_]; rfl) (by simp only [RV])
  · simp only [RVs, RV] at h
    obtain ⟨y, m, rfl, rfl, y2, m2, rfl, rfl, rfl⟩ := h
    exact SemAt.ret r (by simp [Builtin.max_, Builtin.max2]; rfl) (by simp only [RV, max_if])
  · simp only [RVs, RV] at h
    obtain ⟨y, m, rfl, rfl, y2, m2, rfl, rfl, y3, m3, rfl, rfl, rfl⟩ := h
    exact SemAt.ret r (by simp [Builtin.max_, Builtin.max2]; rfl) (by simp only [RV, max_if])
  · exact SemAt.fail
end
end Go.Proofs.Ytbgbjgedjmhcaaa
namespace Go.Proofs.Ytbgbjgedjmhcaaa
open Go.RowKit Go.MapKept
section
variable {α : Type} [DecidableEq α]
structure KeyKind (d : TypeDesc) (kf : Value → Option α) (mk : α → Value) : Prop where
  kf_mk : ∀ n, kf (mk n) = some n
  same : ∀ n m, Instr.sameNow d (mk n) (mk m) = some (decide (n = m))
  bits : ∀ n, Instr.sameBits 10000 (mk n) (mk n) = true
  key : ∀ n, IsKey d (mk n)
def EntOK (mk : α → Value) (es : List MapEntry) : Prop := ∀ e ∈ es, ∃ n b, e.key = mk n ∧ e.val = .bool b
theorem find_spec {d : TypeDesc} {kf : Value → Option α} {mk : α → Value} (K : KeyKind d kf mk) (n : α) : ∀ (es : List MapEntry) (i : Nat), EntOK mk es →
    (Instr.findNow d (mk n) es i = some none ∧ lookK kf es n = false ∧ ∀ b c m, lookK kf (es ++ [⟨mk n, .bool b, c⟩]) m = if m = n then b else lookK kf es m) ∨
    (∃ j, Instr.findNow d (mk n) es i = some (some (i + j, .bool (lookK kf es n))) ∧ (es[j]?).map (·.key) = some (mk n) ∧ ∀ b m, lookK kf (es.modify j fun e => { e with key := mk n, val := .bool b }) m = if m = n then b else lookK kf es m)
  | [], i, _ => .inl ⟨rfl, rfl, fun b c m => by
      simp only [List.nil_append, lookK, K.kf_mk, boolOf]
      by_cases e : n = m
      · rw [if_pos e, if_pos e.symm]
      · rw [if_neg e, if_neg (fun h => e h.symm)]⟩
  | e :: es, i, h => by
    obtain ⟨m0, b0, h1, h2⟩ := h e List.mem_cons_self
    have ih := find_spec K n es (i + 1) (fun x hx => h x (List.mem_cons_of_mem _ hx))
    by_cases hn : n = m0
    · right
      subst hn
      refine ⟨0, ?_, by simp [h1], fun b m => ?_⟩
      · simp only [Instr.findNow, h1, K.same, decide_true, lookK, K.kf_mk, if_true, h2, boolOf, Nat.add_zero]
      · simp only [List.modify_zero_cons, lookK, K.kf_mk, boolOf, h1]
        by_cases e : n = m
        · rw [if_pos e, if_pos e.symm]
        · rw [if_neg e, if_neg (fun h => e h.symm), if_neg e]
    · have hs : decide (n = m0) = false := by simpa using hn
      have hf : Instr.findNow d (mk n) (e :: es) i = Instr.findNow d (mk n) es (i + 1) := by
        simp only [Instr.findNow, h1, K.same, hs]
      have hl : ∀ l m, lookK kf (e :: l) m = if m0 = m then b0 else lookK kf l m := fun l m => by
        simp only [lookK, h1, K.kf_mk, h2, boolOf]
      rw [hf, hl, if_neg (fun e => hn e.symm)]
      have two : ∀ (b : Bool) (m : α) (x : Bool), (if m0 = m then b0 else if m = n then b else x) = if m = n then b else if m0 = m then b0 else x := fun b m x => by
        by_cases e1 : m0 = m
        · rw [if_pos e1, if_pos e1, if_neg (fun e2 => hn (by rw [← e2, ← e1]))]
        · rw [if_neg e1, if_neg e1]
      rcases ih with ⟨g1, g2, g3⟩ | ⟨j, g1, g2, g3⟩
      · refine .inl ⟨g1, g2, fun b c m => ?_⟩
        rw [List.cons_append, hl, g3, hl, two]
      · refine .inr ⟨j + 1, by rw [g1]; congr 3; omega, by simpa using g2, fun b m => ?_⟩
        rw [List.modify_succ_cons, hl, g3, hl, two]
end
theorem keysI (kd : IntKind) : KeyKind (.int kd) kfI (fun n => Value.int kd n) := ⟨fun _ => rfl, fun n m => by simp only [Instr.sameNow, if_true]; rfl, fun n => by simp [Instr.sameBits], fun n => by simp [IsKey]⟩
theorem keysS : KeyKind .string kfS (fun n => Value.string n) := ⟨fun _ => rfl, fun n m => by
    simp only [Instr.sameNow]
    congr 1
    by_cases e : n = m
    · rw [decide_eq_true e]; exact (bytes_beq n m).2 e
    · rw [decide_eq_false e]; exact Bool.eq_false_iff.2 fun h => e ((bytes_beq n m).1 h), fun n => by simp only [Instr.sameBits]; exact (bytes_beq n n).2 rfl, fun n => by simp [IsKey]⟩
def mapTy (P : Program) (t : TypeId) : Option (TypeId × TypeId) := match P.underlying t with
  | some (.map k e) => some (k, e)
  | _ => none
theorem mapTy_ok {P : Program} {t k e : TypeId} (h : mapTy P t = some (k, e)) : P.underlying t = some (.map k e) := by
  unfold mapTy at h
  split at h
  · simp only [Option.some.injEq, Prod.mk.injEq] at h
    rename_i h2; rw [h2, h.1, h.2]
  · cases h
def keyInt (P : Program) (k : TypeId) : Option IntKind := match P.underlying k with
  | some (.int kd) => some kd
  | _ => none
theorem keyInt_ok {P : Program} {k : TypeId} {kd : IntKind} (h : keyInt P k = some kd) : P.underlying k = some (.int kd) := by
  unfold keyInt at h
  split at h
  · simp only [Option.some.injEq] at h
    rename_i h2; rw [h2, h]
  · cases h
def keyStr (P : Program) (k : TypeId) : Bool := match P.underlying k with
  | some .string => true
  | _ => false
theorem keyStr_ok {P : Program} {k : TypeId} (h : keyStr P k = true) : P.underlying k = some .string := by
  unfold keyStr at h
  split at h
  · assumption
  · cases h
def elemBool (P : Program) (e : TypeId) : Bool := match P.info? e with
  | some i => match i.zero with
    | some (.bool b) => !b
    | _ => false
  | none => false
section
variable {P : Program} {E : Env} {s : St} {W : World} {sem : Sem Value}
theorem elemBool_ok {e : TypeId} (h : elemBool P e = true) : (zeroValue e).run P W = .ok (.bool false) W := by
  unfold elemBool at h
  split at h
  · rename_i i hi
    split at h
    · rename_i b hz
      have hb : b = false := by simpa using h
      subst hb
      have : (typeInfo e).run P W = .ok i W := by
        simp [typeInfo, hi]
      simp only [zeroValue, Sem.run_bind, this, Result.andThen_ok, hz, Sem.run_pure]
    · cases h
  · cases h
def makeMapA (P : Program) (nm : Nat) (t : TypeId) : Ac AV := match mapTy P t with
  | some (k, e) => match elemBool P e with
    | true => match keyInt P k with
      | some kd => .new nm (.obj (.iset kd fun _ => false)) (.ret (.mp nm))
      | none => match keyStr P k with
        | true => .new nm (.obj (.sset fun _ => false)) (.ret (.mp nm))
        | false => .fail
    | false => .fail
  | none => .fail
theorem makeMap_ok (r : RH E s.heap W) (nm : Nat) (t : TypeId) : SemAt P E s W (Instr.makeMap t none) (makeMapA P nm t) := by
  unfold makeMapA
  have run : (Instr.makeMap t none).run P W = .ok (.map (some W.heap.size)) (W.alloc (.map #[] 0)) := rfl
  split
  case h_2 => exact SemAt.fail
  split
  case h_2 => exact SemAt.fail
  split
  · refine SemAt.new r (k := 0) run fun E' he hn => ⟨⟨_, _, _, hn, heap_alloc_new W _, #[], 0, rfl, fun e h => by simp at h, fun n => rfl⟩, ?_⟩
    simp only [RV]
    exact ⟨_, _, hn, rfl⟩
  · split
    · refine SemAt.new r (k := 0) run fun E' he hn => ⟨⟨_, _, _, hn, heap_alloc_new W _, #[], 0, rfl, fun e h => by simp at h, fun n => rfl⟩, ?_⟩
      simp only [RV]
      exact ⟨_, _, hn, rfl⟩
    · exact SemAt.fail
def lookupA (P : Program) (t : TypeId) (m key : AV) (ok : Bool) : Ac AV := match ok with
  | true => .fail
  | false => match mapTy P t with
    | some (k, e) => match elemBool P e with
      | true => match m with
        | .mp id => .get id fun o => match o with
          | .obj (.iset kd g) => match key with
            | .val (.int kd' n) => match keyInt P k with
              | some kd2 => match sameK kd kd', sameK kd kd2 with
                | true, true => .ret (.val (.bool (g n)))
                | _, _ => .fail
              | none => .fail
            | _ => .fail
          | .obj (.sset g) => match key with
            | .val (.string n) => match keyStr P k with
              | true => .ret (.val (.bool (g n)))
              | false => .fail
            | _ => .fail
          | _ => .fail
        | _ => .fail
      | false => .fail
    | none => .fail
theorem look_run {α : Type} [DecidableEq α] {d : TypeDesc} {kf : Value → Option α} {mk : α → Value} (K : KeyKind d kf mk) {t k e : TypeId} {b : Nat} {es : Array MapEntry} {c : Nat} {n : α} (ht : P.underlying t = some (.map k e)) (hk : P.underlying k = some d) (he : elemBool P e = true) (hb : W.heap[b]? = some (.map es c)) (hes : EntOK mk es.toList) : (Instr.lookup t (.map (some b)) (mk n) false).run P W = .ok (.bool (lookK kf es.toList n)) W := by
  have h1 := Go.MapKept.run_checkKey (w := W) hk (K.key n) es.isEmpty 9999
  simp only [Instr.lookup, Sem.run_bind, run_underlying ht, Result.andThen_ok, Go.MapKept.run_getObj_map hb, Sem.run_pure, h1]
  rcases find_spec K n es.toList 0 hes with ⟨g1, g2, g3⟩ | ⟨j, g1, g2, g3⟩
  · simp only [Go.MapKept.run_findKey (w := W) hk g1, Result.andThen_ok, Sem.run_bind, elemBool_ok he, Sem.run_pure, g2]
    rfl
  · simp only [Go.MapKept.run_findKey (w := W) hk g1, Result.andThen_ok, Sem.run_bind, Sem.run_pure]
    rfl
theorem lookup_ok (r : RH E s.heap W) (t : TypeId) {m key : AV} {cm ck : Value} (ok : Bool) (hm : RV E m cm) (hk : RV E key ck) : SemAt P E s W (Instr.lookup t cm ck ok) (lookupA P t m key ok) := by
  unfold lookupA
  split
  · exact SemAt.fail
  split
  case h_2 => exact SemAt.fail
  rename_i k e hmt
  have hmt := mapTy_ok hmt
  split
  case h_2 => exact SemAt.fail
  rename_i heb
  split
  case h_2 => exact SemAt.fail
  rename_i id
  refine SemAt.get fun o ho => ?_
  have hh := r.holds id o ho
  simp only [RV] at hm
  obtain ⟨a, q, e1, rfl⟩ := hm
  split
  · rename_i kd g
    obtain ⟨b, k', ob, g1, g2, es, c, rfl, g4, g5⟩ := hh
    rw [e1] at g1
    simp only [Option.some.injEq, Prod.mk.injEq] at g1
    obtain ⟨rfl, _⟩ := g1
    split
    case h_2 => exact SemAt.fail
    rename_i kd' n
    simp only [RV] at hk
    subst hk
    split
    case h_2 => exact SemAt.fail
    rename_i kd2 hkk
    split
    case h_2 => exact SemAt.fail
    rename_i s1 s2
    have s1 := sameK_ok s1
    have s2 := sameK_ok s2
    subst s1; subst s2
    exact SemAt.ret r (look_run (keysI kd) hmt (keyInt_ok hkk) heb g2 g4) (by simp only [RV]; rw [g5])
  · rename_i g
    obtain ⟨b, k', ob, g1, g2, es, c, rfl, g4, g5⟩ := hh
    rw [e1] at g1
    simp only [Option.some.injEq, Prod.mk.injEq] at g1
    obtain ⟨rfl, _⟩ := g1
    split
    case h_2 => exact SemAt.fail
    rename_i n
    simp only [RV] at hk
    subst hk
    split
    case h_2 => exact SemAt.fail
    rename_i hkk
    exact SemAt.ret r (look_run keysS hmt (keyStr_ok hkk) heb g2 g4) (by simp only [RV]; rw [g5])
  · exact SemAt.fail
def updA (P : Program) (t : TypeId) (m key v : AV) : Ac AV := match mapTy P t with
  | some (k, e) => match m with
    | .mp id => .get id fun o => match o with
      | .obj (.iset kd g) => match key, v with
        | .val (.int kd' n), .val (.bool b) => match keyInt P k with
          | some kd2 => match sameK kd kd', sameK kd kd2 with
            | true, true => .put id (.obj (.iset kd fun y => if y = n then b else g y)) (.ret undefA)
            | _, _ => .fail
          | none => .fail
        | _, _ => .fail
      | .obj (.sset g) => match key, v with
        | .val (.string n), .val (.bool b) => match keyStr P k with
          | true => .put id (.obj (.sset fun y => if y = n then b else g y)) (.ret undefA)
          | false => .fail
        | _, _ => .fail
      | _ => .fail
    | _ => .fail
  | none => .fail
theorem upd_run {α : Type} [DecidableEq α] {d : TypeDesc} {kf : Value → Option α} {mk : α → Value} (K : KeyKind d kf mk) {t k e : TypeId} {b : Nat} {es : Array MapEntry} {c : Nat} {n : α} {x : Bool} (ht : P.underlying t = some (.map k e)) (hk : P.underlying k = some d) (hb : W.heap[b]? = some (.map es c)) (hes : EntOK mk es.toList) :
    ∃ es' c', (do Instr.mapUpdate t (.map (some b)) (mk n) (.bool x); pure undef : Sem Value).run P W = .ok undef { W with heap := W.heap.setIfInBounds b (.map es' c') } ∧ EntOK mk es'.toList ∧ ∀ m, lookK kf es'.toList m = if m = n then x else lookK kf es.toList m := by
  have h1 := Go.MapKept.run_checkKey (w := W) hk (K.key n) false 9999
  rcases find_spec K n es.toList 0 hes with ⟨g1, g2, g3⟩ | ⟨j, g1, g2, g3⟩
  · refine ⟨es.push ⟨mk n, .bool x, c⟩, c + 1, ?_, ?_, ?_⟩
    · simp only [Instr.mapUpdate, Sem.run_bind, run_underlying ht, Result.andThen_ok, Go.MapKept.run_getObj_map hb, h1, Go.MapKept.run_findKey (w := W) hk g1, Go.MapKept.run_setObj_map _ hb, Sem.run_pure]
    · intro e he
      rw [Array.toList_push] at he
      rcases List.mem_append.1 he with h | h
      · exact hes e h
      · rw [List.mem_singleton.1 h]; exact ⟨n, x, rfl, rfl⟩
    · intro m
      rw [Array.toList_push]; exact g3 x c m
  · refine ⟨es.modify j fun e => { e with key := mk n, val := .bool x }, c, ?_, ?_, ?_⟩
    · have hkey : ((es[0 + j]?).map (·.key)).getD (mk n) = mk n := by
        rw [Nat.zero_add]
        have : (es[j]?).map (·.key) = some (mk n) := by simpa using g2
        rw [this]; rfl
      have hst : (Instr.keyThatStays (mk n) (mk n)).run P W = .ok (mk n) W := by
        simp only [Instr.keyThatStays, K.bits, if_true, Sem.run_pure]
      simp only [Instr.mapUpdate, Sem.run_bind, run_underlying ht, Result.andThen_ok, Go.MapKept.run_getObj_map hb, h1, Go.MapKept.run_findKey (w := W) hk g1, hkey, hst, Go.MapKept.run_setObj_map _ hb, Sem.run_pure]
      rw [Nat.zero_add]
    · intro e he
      rw [Array.toList_modify] at he
      obtain ⟨i, hi, rfl⟩ := List.getElem_of_mem he
      rw [List.getElem_modify]
      split
      · exact ⟨n, x, rfl, rfl⟩
      · exact hes _ (List.getElem_mem _)
    · intro m
      rw [Array.toList_modify]; exact g3 x m
theorem grown_set (W : World) (b : Nat) (o : Obj) : W.grownBy { W with heap := W.heap.setIfInBounds b o } (some b) :=
  ⟨rfl, rfl, rfl, by simp, fun k _ hk => by
    have hne : b ≠ k := fun e => hk (by rw [e])
    simp [hne]⟩
theorem upd_ok (r : RH E s.heap W) (t : TypeId) {m key v : AV} {cm ck cv : Value} (hm : RV E m cm) (hk : RV E key ck) (hv : RV E v cv) : SemAt P E s W (do Instr.mapUpdate t cm ck cv; pure undef) (updA P t m key v) := by
  unfold updA
  split
  case h_2 => exact SemAt.fail
  rename_i k e hmt
  have hmt := mapTy_ok hmt
  split
  case h_2 => exact SemAt.fail
  rename_i id
  refine SemAt.get fun o ho => ?_
  have hh := r.holds id o ho
  simp only [RV] at hm
  obtain ⟨a, q, e1, rfl⟩ := hm
  split
  · rename_i kd g
    obtain ⟨b, k', ob, g1, g2, es, c, rfl, g4, g5⟩ := hh
    rw [e1] at g1
    simp only [Option.some.injEq, Prod.mk.injEq] at g1
    obtain ⟨rfl, _⟩ := g1
    split
    case h_2 => exact SemAt.fail
    rename_i kd' n x
    simp only [RV] at hk hv
    subst hk; subst hv
    split
    case h_2 => exact SemAt.fail
    rename_i kd2 hkk
    split
    case h_2 => exact SemAt.fail
    rename_i s1 s2
    have s1 := sameK_ok s1
    have s2 := sameK_ok s2
    subst s1; subst s2
    obtain ⟨es', c', u1, u2, u3⟩ := upd_run (P := P) (keysI kd) (n := n) (x := x) hmt (keyInt_ok hkk) g2 g4
    have hlt := (Array.getElem?_eq_some_iff.1 g2).1
    refine SemAt.put r ho rfl (b := b) (by simp [blkOf, e1]) u1 (grown_set W b _) ⟨b, k', _, by rw [e1]; simp_all, ?_, es', c', rfl, u2, fun m => ?_⟩ (by simp [undefA, RV])
    · simp [hlt]
    · rw [u3, g5]
  · rename_i g
    obtain ⟨b, k', ob, g1, g2, es, c, rfl, g4, g5⟩ := hh
    rw [e1] at g1
    simp only [Option.some.injEq, Prod.mk.injEq] at g1
    obtain ⟨rfl, _⟩ := g1
    split
    case h_2 => exact SemAt.fail
    rename_i n x
    simp only [RV] at hk hv
    subst hk; subst hv
    split
    case h_2 => exact SemAt.fail
    rename_i hkk
    obtain ⟨es', c', u1, u2, u3⟩ := upd_run (P := P) keysS (n := n) (x := x) hmt (keyStr_ok hkk) g2 g4
    have hlt := (Array.getElem?_eq_some_iff.1 g2).1
    refine SemAt.put r ho rfl (b := b) (by simp [blkOf, e1]) u1 (grown_set W b _) ⟨b, k', _, by rw [e1]; simp_all, ?_, es', c', rfl, u2, fun m => ?_⟩ (by simp [undefA, RV])
    · simp [hlt]
    · rw [u3, g5]
  · exact SemAt.fail
def copyRow (row : Nat → List AV) (i k : Nat) (row2 : Nat → List AV) : Nat → List AV := fun q => if i ≤ q ∧ q < i + k then row2 (q - i) else row q
def copyA (P : Program) (t : TypeId) (x y : AV) : Ac AV := match P.underlying t with
  | some (.slice e) => match tySize P e with
    | none => .fail
    | some es => match x, y with
      | .sl id i es' n c, .sl id2 i2 es2 m c2 => match es' == es, es2 == es with
        | true, true => .get id2 fun o2 => srcA o2 i2 es m fun row2 => .get id fun o => match o with
          | .vec ty es'' N row => match es'' == es with
            | true => .need (i + min n m ≤ N) (.put id (.vec ty es N (copyRow row i (min n m) row2)) (.ret (.val (.int .i64 ((min n m : Nat) : Int)))))
            | false => .fail
          | _ => .fail
        | _, _ => .fail
      | _, _ => .fail
  | _ => .fail
theorem cells_take (xs : List Value) (es k q : Nat) (h : q < k) : cellsAt (xs.take (k * es)) es q = cellsAt xs es q := by
  have := cells_shift xs es 0 k q h
  simpa using this
theorem cells_copy (xs vs : List Value) (es N i k : Nat) (hl : xs.length = N * es) (hv : vs.length = k * es) (hle : i + k ≤ N) (q : Nat) (hq : q < N) :
    cellsAt (xs.take (i * es) ++ vs ++ xs.drop (i * es + vs.length)) es q = if i ≤ q ∧ q < i + k then cellsAt vs es (q - i) else cellsAt xs es q := by
  have h1 : i * es ≤ N * es := Nat.mul_le_mul_right _ (by omega)
  have h2 : (xs.take (i * es) ++ vs).length = (i + k) * es := by
    rw [List.length_append, List.length_take, hl, hv, Nat.add_mul, Nat.min_eq_left h1]
  rw [cells_cat _ _ es (i + k) q h2]
  by_cases c1 : q < i + k
  · rw [if_pos c1, cells_cat _ _ es i q (by rw [List.length_take, hl, Nat.min_eq_left h1])]
    by_cases c2 : q < i
    · rw [if_pos c2, if_neg (by omega), cells_take _ _ _ _ c2]
    · rw [if_neg c2, if_pos (by omega)]
  · rw [if_neg c1, if_neg (by omega)]
    have h3 : i * es + vs.length = (i + k) * es := by rw [hv, Nat.add_mul]
    rw [h3]
    unfold cellsAt
    rw [List.drop_drop]
    have : (i + k) * es + (q - (i + k)) * es = q * es := by rw [← Nat.add_mul]; congr 1; omega
    rw [this]
theorem SemAt.put0 (r : RH E s.heap W) {id : Nat} {o o0 : Ob} {v : AV} {cv : Value} (hf : find s.heap id = some o0) (ho : o0.owned = true) (ho2 : o.owned = true) (h : sem.run P W = .ok cv W)
    (hh : Holds E W id o) (hv : RV E v cv) (hbx : o.bx = o0.bx := by rfl) : SemAt P E s W sem (.put id o (.ret v)) := fun out ho' _ hn => by
  simp only [Ac.run, hf, Option.some.injEq] at ho'
  subst ho'
  have rh : RH E (upd s.heap id o) W := by
    refine ⟨fun x p hp => ?_, fun a b p q hp hq hne hw c hc hc2 => ?_⟩
    · rw [find_upd] at hp
      by_cases e : id = x
      · rw [if_pos e] at hp; obtain rfl := Option.some.inj hp; rw [← e]; exact hh
      · rw [if_neg e] at hp; exact r.holds x p hp
    · rw [find_upd] at hp hq
      have key : ∀ y z, (if id = y then some o else find s.heap y) = some z → ∃ z', find s.heap y = some z' ∧ (z.owned = true → z'.owned = true) ∧ z'.bx = z.bx := fun y z hz => by
        by_cases e : id = y
        · rw [if_pos e] at hz; obtain rfl := Option.some.inj hz; exact ⟨o0, by rw [← e]; exact hf, fun _ => ho, hbx.symm⟩
        · rw [if_neg e] at hz; exact ⟨z, hz, fun h => h, rfl⟩
      obtain ⟨p', h1, h2, h5⟩ := key a p hp
      obtain ⟨q', h3, h4, h6⟩ := key b q hq
      exact r.apart a b p' q' h1 h3 hne (h2 hw) c (hc.congr h5 rfl) (hc2.congr h6 rfl)
  refine ⟨rfl, cv, W, E, h, Ext.refl E, hv, rh, ⟨rfl, rfl, rfl, Nat.le_refl _, fun _ _ _ => rfl, fun x p b hp hb => ?_⟩⟩
  rw [find_upd] at hp
  by_cases e : id = x
  · rw [if_pos e] at hp; obtain rfl := Option.some.inj hp; exact .inl ⟨id, o0, hf, fun _ => ho, by rw [e]; exact hb.congr hbx.symm rfl⟩
  · rw [if_neg e] at hp; exact .inl ⟨x, p, hp, fun h => h, hb⟩
theorem vec_write (r : RH E s.heap W) {id vty es N p k kk : Nat} {row row2 : Nat → List AV} {v : AV} {cv : Value} {a : Addr} {vs : List Value} (ho : find s.heap id = some (.vec vty es N row)) (hE : E id = some (some a, kk))
    (hvl : vs.length = k * es) (hone : ∀ u ∈ vs, u.oneCell' = true) (hrow : ∀ q, q < k → RVs E (row2 q) (cellsAt vs es q)) (hle : p + k ≤ N)
    (hrun : ∀ cur : Array Value, a.off = 0 → W.heap[a.block]? = some (.cells cur vty (0, 0)) → N ≤ kk → cur.size = kk * es → sem.run P W = .ok cv (W.setRow a.block (cur.toList.take (p * es) ++ vs ++ cur.toList.drop (p * es + vs.length)).toArray)) (hv : RV E v cv) : SemAt P E s W sem (.put id (.vec vty es N (copyRow row p k row2)) (.ret v)) := by
  obtain ⟨b', k', xs, g1, g2, g3, g4⟩ := r.holds id _ ho
  rw [hE] at g1
  simp only [Option.some.injEq, Prod.mk.injEq] at g1
  obtain ⟨rfl, rfl⟩ := g1
  rcases g2.2 with ⟨hv', _⟩ | ⟨g, cap, cur, hv', hg0, hcur, hnc, hcm, hsz, htk⟩
  · simp at hv'
  simp only [Value.slice.injEq, Option.some.injEq, true_and] at hv'
  obtain ⟨rfl, rfl⟩ := hv'
  have hlN := g2.1
  have m1 : (p + k) * es ≤ N * es := Nat.mul_le_mul_right _ hle
  have m2 : N * es ≤ kk * es := Nat.mul_le_mul_right _ hnc
  rw [Nat.add_mul] at m1
  have hrun := hrun cur rfl hcur hnc (by simpa using hsz)
  refine SemAt.put r ho rfl (b := g) (by simp [blkOf, hE]) hrun (grown_setRow _ _ _)
    ⟨_, _, xs.take (p * es) ++ vs ++ xs.drop (p * es + vs.length), hE, ⟨?_, .inr ⟨g, kk, _, rfl, hg0, setRow_heap W g _ _ vty _ hcur, hnc, hcm, ?_, ?_⟩⟩, ?_, ?_⟩ hv
  · simp only [List.length_append, List.length_take, List.length_drop] at *
    omega
  · simp only [List.size_toArray, List.length_append, List.length_take, List.length_drop, Array.length_toList] at *
    omega
  · rw [← htk]
    apply List.ext_getElem?
    intro d
    have l1 : (List.take (p * es) cur.toList).length = p * es := by rw [List.length_take]; simp; omega
    have l2 : (List.take (p * es) (List.take (N * es) cur.toList)).length = p * es := by rw [List.length_take, List.length_take]; simp; omega
    rw [List.getElem?_take, app3, app3, l1, l2]
    by_cases hd : d < N * es
    · rw [if_pos hd]
      by_cases h6 : d < p * es
      · rw [if_pos h6, if_pos h6, List.getElem?_take, List.getElem?_take, if_pos h6, if_pos h6, List.getElem?_take, if_pos hd]
      · rw [if_neg h6, if_neg h6]
        by_cases h7 : d - p * es < vs.length
        · rw [if_pos h7, if_pos h7]
        · rw [if_neg h7, if_neg h7, List.getElem?_drop, List.getElem?_drop, List.getElem?_take, if_pos (by omega)]
    · rw [if_neg hd, if_neg (by omega), if_neg (by omega), List.getElem?_eq_none]
      rw [List.length_drop, List.length_take, Array.length_toList]
      omega
  · intro u hu
    rcases List.mem_append.1 hu with hu | hu
    · rcases List.mem_append.1 hu with hu | hu
      · exact g3 u (List.mem_of_mem_take hu)
      · exact hone u hu
    · exact g3 u (List.mem_of_mem_drop hu)
  · intro q hq
    rw [cells_copy xs _ es N p k hlN hvl hle q hq]
    unfold copyRow
    by_cases c : p ≤ q ∧ q < p + k
    · rw [if_pos c, if_pos c]; exact hrow _ (by omega)
    · rw [if_neg c, if_neg c]; exact g4 q hq
theorem vec_none (r : RH E s.heap W) {id vty es N p : Nat} {row row2 : Nat → List AV} {v : AV} {cv : Value} (ho : find s.heap id = some (.vec vty es N row)) (hrun : sem.run P W = .ok cv W) (hv : RV E v cv) : SemAt P E s W sem (.put id (.vec vty es N (copyRow row p 0 row2)) (.ret v)) := by
  obtain ⟨b', k', xs, g1, g2, g3, g4⟩ := r.holds id _ ho
  refine SemAt.put0 r ho rfl rfl hrun ⟨b', k', xs, g1, g2, g3, fun q hq => ?_⟩ hv
  unfold copyRow
  rw [if_neg (by omega)]
  exact g4 q hq
theorem copy_ok (r : RH E s.heap W) (t t2 ty : TypeId) {x y : AV} {cx cy : Value} (hx : RV E x cx) (hy : RV E y cy) : SemAt P E s W (Builtin.copy_ #[t, t2] ty #[cx, cy]) (copyA P t x y) := by
  unfold copyA
  split
  case h_2 => exact SemAt.fail
  rename_i e ht
  split
  · exact SemAt.fail
  rename_i es hz
  split
  case h_2 => exact SemAt.fail
  rename_i id i es' n c id2 i2 es2 m c2
  split
  case h_2 => exact SemAt.fail
  rename_i he1 he2
  have he1 : es' = es := by simpa using he1
  have he2 : es2 = es := by simpa using he2
  subst he1; subst he2
  refine SemAt.get fun o2 ho2 => src_ok (r.holds id2 o2 ho2) hy _ fun row2 news hs => SemAt.get fun o ho => ?_
  have hh := r.holds id o ho
  split
  case h_2 => exact SemAt.fail
  rename_i vty es'' N row
  split
  case h_2 => exact SemAt.fail
  rename_i he3
  have he3 : es'' = es2 := by simpa using he3
  subst he3
  refine SemAt.need fun hle => ?_
  have hlen : (Builtin.lenOf cy).run P W = .ok m W := by
    rcases hs.addr with ⟨ad, mm, rfl, _⟩ | ⟨rfl, rfl⟩ <;> rfl
  have hvl : (news.take (min n m * es'')).length = min n m * es'' := by
    rw [List.length_take, hs.len]
    exact Nat.min_eq_left (Nat.mul_le_mul_right _ (Nat.min_le_right _ _))
  have hfirst : (Builtin.firstCells es'' (min n m) cy).run P W = .ok (news.take (min n m * es'')).toArray W := by
    rcases hs.addr with ⟨ad, mm, rfl, hcell⟩ | ⟨rfl, rfl⟩
    · exact run_firstCells_some (w := W) es'' (min n m) ad m mm _ hvl (fun j v hv => hcell j v (by
        rw [List.getElem?_take] at hv
        split at hv
        · exact hv
        · cases hv))
    · simp [Builtin.firstCells]
  have hone : ∀ u ∈ news.take (min n m * es''), u.oneCell' = true := fun u hu => hs.one u (List.mem_of_mem_take hu)
  have hrow : ∀ q, q < min n m → RVs E (row2 q) (cellsAt (news.take (min n m * es'')) es'' q) := fun q hq => by
    rw [cells_take _ _ _ _ hq]; exact hs.rows q (by omega)
  have hx' := hx
  simp only [RV] at hx
  obtain ⟨b, kk, hE, hsl⟩ := hx
  obtain ⟨b', k', xs, g1, g2, g3, g4⟩ := hh
  rw [hE] at g1
  simp only [Option.some.injEq, Prod.mk.injEq] at g1
  obtain ⟨rfl, rfl⟩ := g1
  generalize hkk : min n m = k at *
  by_cases h0 : k = 0
  · -- nothing is copied
    subst h0
    have hnil : news.take (0 * es'') = [] := by simp
    rw [hnil] at hfirst
    have hrun : (Builtin.copy_ #[t, t2] ty #[cx, cy]).run P W = .ok (goInt 0) W := by
      cases b with
      | none =>
        obtain ⟨bb, rfl, rfl, _⟩ := hsl
        cases bb <;> simp [Builtin.copy_, run_underlying ht, run_size hz, hlen, hfirst, storeCells]
      | some a =>
        obtain ⟨of, mm, rfl, _⟩ := hsl
        have e0 : n.min m = 0 := hkk
        have e1 : m.min n = 0 := by rw [← hkk]; exact Nat.min_comm m n
        simp [Builtin.copy_, run_underlying ht, run_size hz, hlen, hfirst, storeCells, e1]
    refine SemAt.put0 r ho rfl rfl hrun ⟨b, kk, xs, hE, g2, g3, fun q hq => ?_⟩ (by simp [RV, goInt])
    unfold copyRow
    rw [if_neg (by omega)]
    exact g4 q hq
  · cases b with
    | none =>
      obtain ⟨bb, rfl, rfl, _⟩ := hsl
      exfalso; omega
    | some a =>
      obtain ⟨of, mm, rfl, q1, q2, q3, _⟩ := hsl
      have hoff := q3 (by omega)
      subst hoff
      have e1 : m.min n = k := by rw [← hkk]; exact Nat.min_comm m n
      refine vec_write r ho hE (cv := goInt k) hvl hone hrow hle (fun cur ha hcur hnc hsz => ?_) (by simp [RV, goInt])
      have m1 : (i + k) * es'' ≤ N * es'' := Nat.mul_le_mul_right _ hle
      have m2 : N * es'' ≤ kk * es'' := Nat.mul_le_mul_right _ hnc
      rw [Nat.add_mul] at m1
      have hst := run_storeCells_at (P := P) a.block (i * es'') vty (news.take (k * es'')) 0 cur W hcur (by rw [hvl]; omega) hone
      simp only [Nat.add_zero] at hst
      simp [Builtin.copy_, run_underlying ht, run_size hz, hlen, hfirst, e1, ha, hst]
def appInA (P : Program) (t : TypeId) (x y : AV) : Ac AV := match P.underlying t with
  | some (.slice e) => match infoOK P e with
    | none => .fail
    | some es => match x, y with
      | .sl id i es' n none, .sl id2 i2 es2 m c2 => match es' == es, es2 == es with
        | true, true => .get id2 fun o2 => srcA o2 i2 es m fun row2 => .get id fun o => match o with
          | .vec ty es'' N row => match es'' == es with
            | true => .need (i + n + m ≤ N) (.put id (.vec ty es N (copyRow row (i + n) m row2)) (.ret (.sl id i es (addN n m) none)))
            | false => .fail
          | _ => .fail
        | _, _ => .fail
      | _, _ => .fail
  | _ => .fail
theorem appIn_ok (r : RH E s.heap W) (t ty : TypeId) {x y : AV} {cx cy : Value} (hx : RV E x cx) (hy : RV E y cy) : SemAt P E s W (Builtin.append_ #[t, t] ty #[cx, cy]) (appInA P t x y) := by
  unfold appInA
  split
  case h_2 => exact SemAt.fail
  rename_i e ht
  split
  · exact SemAt.fail
  rename_i es hi
  split
  case h_2 => exact SemAt.fail
  rename_i id i es' n id2 i2 es2 m c2
  split
  case h_2 => exact SemAt.fail
  rename_i he1 he2
  have he1 : es' = es := by simpa using he1
  have he2 : es2 = es := by simpa using he2
  subst he1; subst he2
  refine SemAt.get fun o2 ho2 => src_ok (r.holds id2 o2 ho2) hy _ fun row2 news hs => SemAt.get fun o ho => ?_
  split
  case h_2 => exact SemAt.fail
  rename_i vty es'' N row
  split
  case h_2 => exact SemAt.fail
  rename_i he3
  have he3 : es'' = es2 := by simpa using he3
  subst he3
  refine SemAt.need fun hle => ?_
  obtain ⟨ti, z, hi1, hz, hsz1, hby, hzc, hpos⟩ := infoOK_ok hi
  have hlen : (Builtin.lenOf cy).run P W = .ok m W := by
    rcases hs.addr with ⟨ad, mm, rfl, _⟩ | ⟨rfl, rfl⟩ <;> rfl
  have hfirst : (Builtin.firstCells es'' m cy).run P W = .ok news.toArray W := by
    rcases hs.addr with ⟨ad, mm, rfl, hcell⟩ | ⟨rfl, rfl⟩
    · exact run_firstCells_some (w := W) es'' m ad m mm _ hs.len hcell
    · have : news = [] := List.eq_nil_of_length_eq_zero (by simpa using hs.len)
      rw [this]; simp [Builtin.firstCells]
  simp only [RV] at hx
  obtain ⟨b, kk, hE, hsl⟩ := hx
  have hNk : ∀ a, b = some a → N ≤ kk ∧ a.off = 0 := fun a hb => by
    obtain ⟨b', k', xs, g1, g2, g3, g4⟩ := r.holds id _ ho
    rw [hE, hb] at g1
    simp only [Option.some.injEq, Prod.mk.injEq] at g1
    obtain ⟨rfl, rfl⟩ := g1
    rcases g2.2 with ⟨hv', _⟩ | ⟨g, cap, cur, hv', hg0, hcur, hnc, _⟩
    · simp at hv'
    · simp only [Value.slice.injEq, Option.some.injEq, true_and] at hv'
      obtain ⟨rfl, rfl⟩ := hv'
      exact ⟨hnc, rfl⟩
  cases b with
  | none =>
    obtain ⟨bb, rfl, rfl, rfl⟩ := hsl
    have hm : m = 0 := by
      obtain ⟨b', k', xs, g1, g2, g3, g4⟩ := r.holds id _ ho
      rw [hE] at g1
      simp only [Option.some.injEq, Prod.mk.injEq] at g1
      obtain ⟨rfl, rfl⟩ := g1
      rcases g2.2 with ⟨_, h0⟩ | ⟨g, cap, cur, hv', _⟩
      · omega
      · simp at hv'
    subst hm
    have hn : news = [] := List.eq_nil_of_length_eq_zero (by simpa using hs.len)
    subst hn
    refine vec_none r ho (cv := .slice bb 0 0) ?_ ?_
    · cases bb <;> simp [Builtin.append_, run_underlying ht, sizeOf, typeInfo, hi1, hsz1, hlen, hfirst, storeCells]
    · simp only [RV, addN_eq]
      exact ⟨none, kk, hE, bb, rfl, rfl, rfl⟩
  | some a =>
    obtain ⟨of, mm, rfl, q1, q2, q3, q4⟩ := hsl
    obtain ⟨hNk, ha0⟩ := hNk a rfl
    dsimp only at q4
    have hroom : n + m ≤ mm := by omega
    have hres : RV E (.sl id i es'' (addN n m) none) (.slice (some ⟨a.block, of, none⟩) (n + m) mm) := by
      simp only [RV, addN_eq]
      exact ⟨some a, kk, hE, of, mm, rfl, hroom, q2, q3, q4⟩
    by_cases h0 : m = 0
    · subst h0
      have hn : news = [] := List.eq_nil_of_length_eq_zero (by simpa using hs.len)
      subst hn
      refine vec_none r ho (cv := .slice (some ⟨a.block, of, none⟩) (n + 0) mm) ?_ hres
      have : n ≤ mm := q1
      simp [Builtin.append_, run_underlying ht, sizeOf, typeInfo, hi1, hsz1, hlen, hfirst, storeCells, this]
    · have hoff := q3 (by omega)
      subst hoff
      refine vec_write r ho hE hs.len hs.one hs.rows hle (fun cur ha hcur hnc hsz => ?_) hres
      have m1 : (i + n + m) * es'' ≤ N * es'' := Nat.mul_le_mul_right _ hle
      have m2 : N * es'' ≤ kk * es'' := Nat.mul_le_mul_right _ hnc
      rw [Nat.add_mul] at m1
      have hst := run_storeCells_at (P := P) a.block ((i + n) * es'') vty news 0 cur W hcur (by rw [hs.len]; omega) hs.one
      simp only [Nat.add_zero] at hst
      have hadd : (⟨a.block, i * es'', none⟩ : Addr).add (n * es'') = ⟨a.block, (i + n) * es'', none⟩ := by
        rw [add_at (⟨a.block, 0, none⟩ : Addr), Nat.add_mul]
      simp [Builtin.append_, run_underlying ht, sizeOf, typeInfo, hi1, hsz1, hlen, hfirst, hroom, ha, hadd, hst]
def clearA (P : Program) (t : TypeId) (x : AV) : Ac AV := match P.underlying t with
  | some (.slice e) => match infoOK P e, zeroA P e with
    | some es, some zs => match x, allB one1 zs with
      | .sl id i es' n c, true => match es' == es with
        | true => .get id fun o => match o with
          | .vec ty es'' N row => match es'' == es with
            | true => .need (i + n ≤ N) (.put id (.vec ty es N (copyRow row i n fun _ => zs)) (.ret undefA))
            | false => .fail
          | _ => .fail
        | false => .fail
      | _, _ => .fail
    | _, _ => .fail
  | _ => .fail
theorem zcells (z : Array Value) (es n : Nat) (hz : z.size = es) (hpos : 0 < es) : (Builtin.zeroCells z n).toList.length = n * es ∧ ∀ j, j < n * es → (Builtin.zeroCells z n).toList[j]? = z.toList[j % es]? := by
  refine ⟨by simp [Builtin.zeroCells, hz], fun j hj => ?_⟩
  have hlt : j % es < z.size := by rw [hz]; exact Nat.mod_lt _ hpos
  simp only [Builtin.zeroCells, hz, Array.toList_map, Array.toList_range, List.getElem?_map, List.getElem?_range hj, Option.map_some]
  rw [getElem!_pos z (j % es) hlt]
  simp [hlt]
theorem clear_ok (r : RH E s.heap W) (t ty : TypeId) {x : AV} {cx : Value} (hx : RV E x cx) : SemAt P E s W (Builtin.clear_ #[t] ty #[cx]) (clearA P t x) := by
  unfold clearA
  split
  case h_2 => exact SemAt.fail
  rename_i e ht
  split
  case h_2 => exact SemAt.fail
  rename_i es zs hi hzs
  split
  case h_2 => exact SemAt.fail
  rename_i id i es' n c h1
  split
  case h_2 => exact SemAt.fail
  rename_i he1
  have he1 : es' = es := by simpa using he1
  subst he1
  refine SemAt.get fun o ho => ?_
  split
  case h_2 => exact SemAt.fail
  rename_i vty es'' N row
  split
  case h_2 => exact SemAt.fail
  rename_i he3
  have he3 : es'' = es' := by simpa using he3
  subst he3
  refine SemAt.need fun hle => ?_
  obtain ⟨ti, z, hi1, hz, hsz1, hby, hzc, hpos⟩ := infoOK_ok hi
  obtain ⟨i', z', hi1', hz', rfl⟩ := zeroA_ok hzs
  rw [hi1] at hi1'
  obtain rfl := Option.some.inj hi1'
  rw [hz] at hz'
  obtain rfl := Option.some.inj hz'
  have hzv : (zeroValue e).run P W = .ok z W := by simp [zeroValue, typeInfo, hi1, hz]
  obtain ⟨zl, zg⟩ := zcells z.cells es'' n hzc hpos
  simp only [RV] at hx
  obtain ⟨b, kk, hE, hsl⟩ := hx
  by_cases h0 : n = 0
  · subst h0
    refine vec_none r ho (cv := undef) ?_ (by simp [undefA, RV])
    cases b with
    | none =>
      obtain ⟨bb, rfl, _, _⟩ := hsl
      cases bb <;> simp [Builtin.clear_, run_underlying ht, undef]
    | some a =>
      obtain ⟨of, mm, rfl, _⟩ := hsl
      simp [Builtin.clear_, run_underlying ht, undef]
  · cases b with
    | none =>
      obtain ⟨bb, rfl, h, _⟩ := hsl
      exact absurd h h0
    | some a =>
      obtain ⟨of, mm, rfl, q1, q2, q3, q4⟩ := hsl
      have hoff := q3 (by omega)
      subst hoff
      have hone : ∀ u ∈ (Builtin.zeroCells z.cells n).toList, u.oneCell' = true := fun u hu => by
        obtain ⟨j, hj⟩ := List.getElem?_of_mem hu
        have hlt : j < n * es'' := by have := (List.getElem?_eq_some_iff.1 hj).1; omega
        rw [zg j hlt] at hj
        have hm := List.mem_of_getElem? hj
        have := allB_ok h1 (.val u) (List.mem_map.2 ⟨u, hm, rfl⟩)
        simpa [one1] using this
      refine vec_write r ho hE (cv := undef) zl hone (fun q hq => ?_) hle (fun cur ha hcur hnc hsz => ?_) (by simp [undefA, RV])
      · have hq2 : q * es'' + es'' ≤ n * es'' := by rw [← Nat.succ_mul]; exact Nat.mul_le_mul_right _ hq
        have : cellsAt (Builtin.zeroCells z.cells n).toList es'' q = z.cells.toList := by
          apply List.ext_getElem?
          intro d
          unfold cellsAt
          rw [List.getElem?_take]
          by_cases hd : d < es''
          · rw [if_pos hd, List.getElem?_drop, zg _ (by omega)]
            congr 1
            rw [Nat.mul_comm, Nat.mul_add_mod]
            exact Nat.mod_eq_of_lt hd
          · rw [if_neg hd, List.getElem?_eq_none]
            simp [hzc]; omega
        rw [this]
        exact RVs.vals _
      · have m1 : (i + n) * es'' ≤ N * es'' := Nat.mul_le_mul_right _ hle
        have m2 : N * es'' ≤ kk * es'' := Nat.mul_le_mul_right _ hnc
        rw [Nat.add_mul] at m1
        have hst := run_storeCells_at (P := P) a.block (i * es'') vty (Builtin.zeroCells z.cells n).toList 0 cur W hcur (by rw [zl]; omega) hone
        simp only [Nat.add_zero] at hst
        cases n with
        | zero => exact absurd rfl h0
        | succ n => simp [Builtin.clear_, run_underlying ht, hzv, ha, hst, undef]
def sliceInA (P : Program) (t : TypeId) (x : AV) (lo hi mx : Option AV) : Ac AV := match P.underlying t with
  | some (.slice e) => match tySize P e with
    | none => .fail
    | some q => match x, lo, hi, mx with
      | .sl id i es n none, some (.val (.int _ z)), some (.val (.int _ y)), none => match q == es with
        | true => .get id fun o => match o with
          | .vec _ es' N _ => match es == es' with
            | true => .need (0 ≤ z ∧ z ≤ y ∧ (i : Int) + y ≤ N) (.ret (.sl id (addN i z.toNat) es (y.toNat - z.toNat) none))
            | false => .fail
          | _ => .fail
        | false => .fail
      | _, _, _, _ => .fail
  | _ => .fail
theorem sliceIn_ok (r : RH E s.heap W) (t : TypeId) {x : AV} {c : Value} (hx : RV E x c) {lo hi mx : Option AV} {cl ch cm : Option Value} (hl : (lo = none ∧ cl = none) ∨ ∃ v w, lo = some v ∧ cl = some w ∧ RV E v w) (hh : (hi = none ∧ ch = none) ∨ ∃ v w, hi = some v ∧ ch = some w ∧ RV E v w) (hm : (mx = none ∧ cm = none) ∨ ∃ v w, mx = some v ∧ cm = some w ∧ RV E v w) :
    SemAt P E s W (Instr.sliceAt t c cl ch cm) (sliceInA P t x lo hi mx) := by
  unfold sliceInA
  split
  case h_2 => exact SemAt.fail
  rename_i e hu
  split
  · exact SemAt.fail
  rename_i q hq
  split
  case h_2 => exact SemAt.fail
  rename_i id i es n kz z ky y
  split
  case h_2 => exact SemAt.fail
  rename_i hqe
  have hqe' : q = es := by simpa using hqe
  subst hqe'
  obtain rfl : cl = some (.int kz z) := by
    rcases hl with ⟨h, _⟩ | ⟨v, w, h, rfl, h2⟩
    · cases h
    · cases h; simp only [RV] at h2; rw [h2]
  obtain rfl : ch = some (.int ky y) := by
    rcases hh with ⟨h, _⟩ | ⟨v, w, h, rfl, h2⟩
    · cases h
    · cases h; simp only [RV] at h2; rw [h2]
  obtain rfl : cm = none := by
    rcases hm with ⟨_, h⟩ | ⟨v, w, h, _⟩
    · exact h
    · cases h
  refine SemAt.get fun o ho => ?_
  split
  case h_2 => exact SemAt.fail
  rename_i vty es' N row
  split
  case h_2 => exact SemAt.fail
  rename_i hes
  have hes' : q = es' := by simpa using hes
  subst hes'
  refine SemAt.need fun hb => ?_
  simp only [RV] at hx
  obtain ⟨b, k, he, h5⟩ := hx
  obtain ⟨b', k', xs, g1, g2, g3, g4⟩ := r.holds id _ ho
  rw [he] at g1
  simp only [Option.some.injEq, Prod.mk.injEq] at g1
  obtain ⟨rfl, rfl⟩ := g1
  have hbd : ∀ cap : Nat, y ≤ (cap : Int) → (Instr.sliceBounds true n cap (some (.int kz z)) (some (.int ky y)) none).run P W = .ok (z.toNat, y.toNat, cap) W := fun cap hc => by
    have hb2 := bound_ok (P := P) (k := ky) (code := BoundsCode.sliceAcap) (show 0 ≤ y by omega) hc W
    simp [Instr.sliceBounds, hb2, bound_ok (P := P) (k := kz) hb.1 (show z ≤ (y.toNat : Int) by omega)]
  cases b with
  | none =>
    obtain ⟨bb, rfl, rfl, rfl⟩ := h5
    have hN : N = 0 := by
      rcases g2.2 with ⟨_, h0⟩ | ⟨g, cap, cur, hv', _⟩
      · exact h0
      · simp at hv'
    have hy : y = 0 := by omega
    have hz : z = 0 := by omega
    subst hy; subst hz
    have := hbd 0 (by simp)
    refine SemAt.ret r (cv := .slice bb 0 0) ?_ ?_
    · simp at this
      simp [Instr.sliceAt, Instr.slice, run_underlying hu, this, run_size hq]
    · simp only [RV]
      exact ⟨none, k, he, bb, rfl, rfl, rfl⟩
  | some a =>
    obtain ⟨o, m', rfl, h6, h7, h8, h9⟩ := h5
    dsimp only at h9
    have hNk : N ≤ k := by
      rcases g2.2 with ⟨hv', _⟩ | ⟨g, cap, cur, hv', hg0, hcur, hnc, _⟩
      · simp at hv'
      · simp only [Value.slice.injEq, Option.some.injEq, true_and] at hv'
        rw [hv'.2]; exact hnc
    have hs := hbd m' (by omega)
    refine SemAt.ret r (cv := .slice (some ⟨a.block, if m' = z.toNat then o else o + z.toNat * q, none⟩) (y.toNat - z.toNat) (m' - z.toNat)) ?_ ?_
    · simp only [Instr.sliceAt, Instr.slice, run_underlying hu, hs, run_size hq, Sem.run_bind, Result.andThen_ok, Sem.run_pure, Option.map_some]
      congr 2
      by_cases e : m' = z.toNat
      · rw [if_pos e, if_pos e]
      · rw [if_neg e, if_neg e, add_at]
    · simp only [RV]
      refine ⟨some a, k, he, _, m' - z.toNat, rfl, by omega, by rw [addN_eq]; omega, fun hne => ?_, by rw [addN_eq]; omega⟩
      rw [if_neg (by omega), h8 (by omega), addN_eq, Nat.add_mul]
      omega
end
end Go.Proofs.Ytbgbjgedjmhcaaa
