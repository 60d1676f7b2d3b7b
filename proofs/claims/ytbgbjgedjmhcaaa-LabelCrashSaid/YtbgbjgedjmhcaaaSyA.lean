/- The engine, part A: abstract values, objects, states; acts and their logs; the order of a region's operations. No conditions but those of each theorem. -/
import GoSem.Step
import Derived.WalkKit
import Derived.ProofKit
import Derived.Below
import Derived.Laws.OwnMore
import Derived.Laws.AppendOwn
import Derived.Laws.AppendOwnNone
import Derived.Deep.AppendLies
import Derived.OrdersIn
import Derived.CallsIn
namespace Go.Proofs.Ytbgbjgedjmhcaaa
open Go.RowKit
set_option linter.unusedVariables false
set_option linter.unusedSimpArgs false

/-- a value whose blocks are named -/
inductive AV where
  | val (v : Value)
  | ptr (id i es j : Nat)
  | sl (id i es n : Nat) (c : Option Nat)
  | agg (cs : List AV)
  | tup (vs : List AV)
  | fn (f : Fn) (first cap : List AV)
  | ifc (t : TypeId) (v : AV)
  | mp (id : Nat)
  | anyB (p q : Prop)
  | len (n : Nat)
  | junk
instance : Inhabited AV := ⟨.junk⟩
/-- where a name's block lies: its base, and the number of elements from there on -/
abbrev Env := Nat → Option (Option Addr × Nat)
/-- a slice's value -/
def SlOK (b : Option Addr) (k i es n : Nat) (cc : Option Nat) (c : Value) : Prop := match b with
  | none => ∃ b' : Option Addr, c = .slice b' 0 0 ∧ n = 0 ∧ i = 0
  | some a => ∃ o m, c = .slice (some ⟨a.block, o, none⟩) n m ∧ n ≤ m ∧ i + m ≤ k ∧ (m ≠ 0 → o = a.off + i * es) ∧ (match cc with | none => i + m = k | some q => m = q)
mutual
/-- what a value stands for -/
def RV (E : Env) : AV → Value → Prop
  | .val v, c => c = v
  | .ptr id i es j, c => ∃ a k, E id = some (some a, k) ∧ c = .pointer (some ⟨a.block, a.off + (i * es + j), none⟩)
  | .sl id i es n cc, c => ∃ b k, E id = some (b, k) ∧ SlOK b k i es n cc c
  | .agg cs, c => ∃ xs : List Value, c = .agg xs.toArray ∧ RVs E cs xs
  | .tup cs, c => ∃ xs : List Value, c = .tuple xs.toArray ∧ RVs E cs xs
  | .fn f l m, c => ∃ xs ys : List Value, c = .func f xs.toArray ys.toArray ∧ RVs E l xs ∧ RVs E m ys
  | .ifc t v, c => ∃ x, c = .iface t x ∧ RV E v x
  | .mp id, c => ∃ a k, E id = some (some a, k) ∧ c = .map (some a.block)
  | .anyB p q, c => ∃ b, c = .bool b ∧ (b = true → p) ∧ (b = false → q)
  | .len n, c => ∃ b m, c = .slice b n m
  | .junk, _ => True
def RVs (E : Env) : List AV → List Value → Prop
  | [], ys => ys = []
  | x :: xs, ys => ∃ y l, ys = y :: l ∧ RV E x y ∧ RVs E xs l
end
/-- data of an object that is no row of cells: a set as a map from numbers, from texts, to truth values -/
inductive MD where
  | iset (kd : IntKind) (g : Int → Bool)
  | sset (g : ByteArray → Bool)
def kfI : Value → Option Int
  | .int _ m => some m
  | _ => none
def kfS : Value → Option ByteArray
  | .string m => some m
  | _ => none
def boolOf : Value → Bool
  | .bool b => b
  | _ => false
/-- what a list of entries tells of a key -/
def lookK {α : Type} [DecidableEq α] (kf : Value → Option α) : List MapEntry → α → Bool
  | [], _ => false
  | e :: l, n => match kf e.key with
    | some m => if m = n then boolOf e.val else lookK kf l n
    | none => lookK kf l n
def MDOK : MD → Obj → Prop
  | .iset kd g, ob => ∃ es clock, ob = .map es clock ∧ (∀ e ∈ es.toList, ∃ n b, e.key = .int kd n ∧ e.val = .bool b) ∧ ∀ n, lookK kfI es.toList n = g n
  | .sset g, ob => ∃ es clock, ob = .map es clock ∧ (∀ e ∈ es.toList, ∃ n b, e.key = .string n ∧ e.val = .bool b) ∧ ∀ n, lookK kfS es.toList n = g n
/-- blocks that belong together: what they are, seen from the block that leads to them; which blocks they are -/
structure Box where
  ok : Array Obj → Nat → Prop
  foot : Array Obj → Nat → Nat → Prop
  lt : ∀ H a b, ok H a → foot H a b → b < H.size
  kept : ∀ H H' a, ok H a → H.size ≤ H'.size → (∀ b, foot H a b → H'[b]? = H[b]?) → ok H' a ∧ ∀ b, foot H' a b → foot H a b
/-- an object of memory: a block of cells; a slice of the call's own (es cells each); a slice that is only read -/
inductive Ob where
  | blk (ty : TypeId) (cs : List AV)
  | vec (ty es n : Nat) (row : Nat → List AV)
  | ro (es n : Nat) (row : Nat → List AV)
  | obj (m : MD)
  | box (B : Box)
def Ob.owned : Ob → Bool
  | .ro .. => false
  | _ => true
/-- the cells of element q -/
def cellsAt (xs : List Value) (es q : Nat) : List Value := (xs.drop (q * es)).take es
def RowsOK (E : Env) (es n : Nat) (row : Nat → List AV) (xs : List Value) : Prop := ∀ q, q < n → RVs E (row q) (cellsAt xs es q)
def Holds (E : Env) (W : World) (id : Nat) : Ob → Prop
  | .blk ty cs => ∃ b k, ∃ xs : List Value, E id = some (some ⟨b, 0, none⟩, k) ∧ W.heap[b]? = some (.cells xs.toArray ty (0, 0)) ∧ RVs E cs xs ∧ k = xs.length
  | .vec ty es n row => ∃ b k, ∃ xs : List Value, E id = some (b, k) ∧ W.ownsRow 0 ty es (.slice b n k) n xs ∧ (∀ u ∈ xs, u.oneCell' = true) ∧ RowsOK E es n row xs
  | .ro es n row => ∃ b k, ∃ xs : List Value, E id = some (b, k) ∧ xs.length = n * es ∧ ((b = none ∧ n = 0 ∧ k = 0) ∨ ∃ a, b = some a ∧ a.block < W.heap.size ∧ n ≤ k ∧ (∀ j u, xs[j]? = some u → W.cell? ⟨a.block, a.off + j, none⟩ = some u)) ∧ (∀ u ∈ xs, u.oneCell' = true) ∧ RowsOK E es n row xs
  | .obj m => ∃ b k ob, E id = some (some ⟨b, 0, none⟩, k) ∧ W.heap[b]? = some ob ∧ MDOK m ob
  | .box B => ∃ b k, E id = some (some ⟨b, 0, none⟩, k) ∧ B.ok W.heap b
/-- the block of a name -/
def blkOf (E : Env) (id : Nat) : Option Nat := match E id with
  | some (some a, _) => some a.block
  | _ => none
def Ob.bx : Ob → Option Box
  | .box B => some B
  | _ => none
def FootB (E : Env) (W : World) (id : Nat) : Option Box → Nat → Prop
  | none, b => blkOf E id = some b
  | some B, b => ∃ a, blkOf E id = some a ∧ B.foot W.heap a b
/-- the blocks of a name's object -/
def Foot (E : Env) (W : World) (id : Nat) (o : Ob) (b : Nat) : Prop := FootB E W id o.bx b
theorem Foot.congr {E E' : Env} {W : World} {id id' : Nat} {o o' : Ob} {b : Nat} (ho : o'.bx = o.bx) (he : blkOf E' id' = blkOf E id) (h : Foot E W id o b) : Foot E' W id' o' b := by
  unfold Foot at h ⊢
  rw [ho]
  cases hb : o.bx with
  | none => rw [hb] at h; exact he.trans h
  | some B =>
    rw [hb] at h
    obtain ⟨a, h1, h2⟩ := h
    exact ⟨a, he.trans h1, h2⟩
theorem Foot.cg {E E' : Env} {W : World} {id : Nat} {o : Ob} {b : Nat} (h : Foot E W id o b) (he : blkOf E' id = blkOf E id) : Foot E' W id o b := h.congr rfl he
theorem Foot.plain {E : Env} {W W' : World} {id : Nat} {o : Ob} {b : Nat} (ho : o.bx = none) (h : Foot E W id o b) : Foot E W' id o b := by
  unfold Foot at h ⊢
  rw [ho] at h ⊢
  exact h
theorem Foot.none {E : Env} {W : World} {id : Nat} {o : Ob} {b : Nat} (he : blkOf E id = none) (h : Foot E W id o b) : False := by
  unfold Foot at h
  cases hb : o.bx with
  | none => rw [hb] at h; simp [FootB, he] at h
  | some B => rw [hb] at h; obtain ⟨a, h1, _⟩ := h; rw [he] at h1; cases h1
abbrev Hp := List (Nat × Ob)
def find : Hp → Nat → Option Ob
  | [], _ => none
  | (k, o) :: h, id => if k == id then some o else find h id
def upd : Hp → Nat → Ob → Hp
  | [], id, o => [(id, o)]
  | (k, x) :: h, id, o => if k == id then (k, o) :: h else (k, x) :: upd h id o
def del : Hp → Nat → Hp
  | [], _ => []
  | (k, x) :: h, id => if k == id then del h id else (k, x) :: del h id
theorem find_upd (h : Hp) (id : Nat) (o : Ob) (x : Nat) : find (upd h id o) x = if id = x then some o else find h x := by
  induction h with
  | nil =>
    unfold upd find find
    by_cases e : id = x <;> simp [e]
  | cons p h ih =>
    obtain ⟨k, y⟩ := p
    unfold upd
    by_cases e : k = id
    · subst e
      simp only [beq_self_eq_true, if_true]
      unfold find
      by_cases e2 : k = x <;> simp [e2]
    · rw [if_neg (by simpa using e)]
      unfold find
      by_cases e2 : k = x
      · subst e2
        simp [Ne.symm e]
      · simp only [beq_iff_eq, e2, if_false]
        exact ih
theorem find_del (h : Hp) (id : Nat) (x : Nat) : find (del h id) x = if id = x then none else find h x := by
  induction h with
  | nil => unfold del find; simp
  | cons p h ih =>
    obtain ⟨k, y⟩ := p
    unfold del
    by_cases e : k = id
    · subst e
      simp only [beq_self_eq_true, if_true]
      rw [ih]
      by_cases e2 : k = x
      · simp [e2]
      · simp [e2, find]
    · rw [if_neg (by simpa using e)]
      unfold find
      by_cases e2 : k = x
      · subst e2
        simp [Ne.symm e]
      · simp only [beq_iff_eq, e2, if_false]
        exact ih
def nth {α : Type} : List α → Nat → Option α
  | [], _ => none
  | x :: _, 0 => some x
  | _ :: l, n + 1 => nth l n
def setN {α : Type} : List α → Nat → α → List α
  | [], _, _ => []
  | _ :: l, 0, v => v :: l
  | x :: l, n + 1, v => x :: setN l n v
theorem nth_eq {α : Type} : ∀ (l : List α) (n : Nat), nth l n = l[n]?
  | [], _ => rfl
  | x :: _, 0 => rfl
  | x :: l, n + 1 => by simp [nth, nth_eq l n]
theorem setN_eq {α : Type} : ∀ (l : List α) (n : Nat) (v : α), setN l n v = l.set n v
  | [], _, _ => rfl
  | x :: _, 0, _ => rfl
  | x :: l, n + 1, v => by simp [setN, setN_eq l n v]

structure St where
  slots : List AV
  heap : Hp
inductive Loc where
  | slot (t : Nat)
  | ob (id : Nat)
  deriving DecidableEq
/-- what stands at a place -/
inductive Cont where
  | slot (v : Option AV)
  | ob (o : Option Ob)
def St.at (s : St) : Loc → Cont
  | .slot t => .slot (nth s.slots t)
  | .ob id => .ob (find s.heap id)

/-- what an operation does -/
inductive Ac (α : Type) where
  | ret (a : α)
  | slot (t : Nat) (k : AV → Ac α)
  | get (id : Nat) (k : Ob → Ac α)
  | new (id : Nat) (o : Ob) (k : Ac α)
  | put (id : Nat) (o : Ob) (k : Ac α)
  | del (id : Nat) (k : Ac α)
  | set (t : Nat) (v : AV) (k : Ac α)
  | need (p : Prop) (k : Ac α)
  | fail
def Ac.bind {α β : Type} : Ac α → (α → Ac β) → Ac β
  | .ret a, f => f a
  | .slot t k, f => .slot t fun v => (k v).bind f
  | .get id k, f => .get id fun o => (k o).bind f
  | .new id o k, f => .new id o (k.bind f)
  | .put id o k, f => .put id o (k.bind f)
  | .del id k, f => .del id (k.bind f)
  | .set t v k, f => .set t v (k.bind f)
  | .need p k, f => .need p (k.bind f)
  | .fail, _ => .fail
instance : Monad Ac where
  pure := Ac.ret
  bind := Ac.bind

/-- what became of it: the value, the state, what was read, written, made, and what is owed -/
structure Out (α : Type) where
  a : α
  s : St
  rd : List Loc
  wr : List Loc
  nw : List Nat
  ob : List Prop
def Ac.run {α : Type} : Ac α → St → Option (Out α)
  | .ret a, s => some ⟨a, s, [], [], [], []⟩
  | .slot t k, s => match nth s.slots t with
    | none => none
    | some v => match (k v).run s with
      | none => none
      | some o => some ⟨o.a, o.s, .slot t :: o.rd, o.wr, o.nw, o.ob⟩
  | .get id k, s => match find s.heap id with
    | none => none
    | some v => match (k v).run s with
      | none => none
      | some o => some ⟨o.a, o.s, .ob id :: o.rd, o.wr, o.nw, o.ob⟩
  | .new id v k, s => match find s.heap id with
    | some _ => none
    | none => match k.run ⟨s.slots, upd s.heap id v⟩ with
      | none => none
      | some o => some ⟨o.a, o.s, .ob id :: o.rd, .ob id :: o.wr, id :: o.nw, o.ob⟩
  | .put id v k, s => match find s.heap id with
    | none => none
    | some _ => match k.run ⟨s.slots, upd s.heap id v⟩ with
      | none => none
      | some o => some ⟨o.a, o.s, .ob id :: o.rd, .ob id :: o.wr, o.nw, o.ob⟩
  | .del id k, s => match k.run ⟨s.slots, Go.Proofs.Ytbgbjgedjmhcaaa.del s.heap id⟩ with
      | none => none
      | some o => some ⟨o.a, o.s, o.rd, .ob id :: o.wr, o.nw, o.ob⟩
  | .set t v k, s => match nth s.slots t with
    | none => none
    | some _ => match k.run ⟨setN s.slots t v, s.heap⟩ with
      | none => none
      | some o => some ⟨o.a, o.s, .slot t :: o.rd, .slot t :: o.wr, o.nw, o.ob⟩
  | .need p k, s => match k.run s with
      | none => none
      | some o => some ⟨o.a, o.s, o.rd, o.wr, o.nw, p :: o.ob⟩
  | .fail, _ => none
def AllP : List Prop → Prop
  | [] => True
  | p :: l => p ∧ AllP l
theorem AllP.append {a b : List Prop} : AllP (a ++ b) ↔ AllP a ∧ AllP b := by
  induction a with
  | nil => simp [AllP]
  | cons p a ih => simp only [List.cons_append, AllP, ih, and_assoc]

theorem at_set (s : St) (t : Nat) (v : AV) (h : (nth s.slots t).isSome = true) (x : Loc) : (⟨setN s.slots t v, s.heap⟩ : St).at x = if x = .slot t then .slot (some v) else s.at x := by
  cases x with
  | ob id => simp [St.at]
  | slot u =>
    simp only [St.at, Loc.slot.injEq, nth_eq, setN_eq]
    rw [nth_eq] at h
    rw [List.getElem?_set]
    by_cases e : u = t
    · subst e
      have : u < s.slots.length := by
        rcases Nat.lt_or_ge u s.slots.length with h1 | h1
        · exact h1
        · rw [List.getElem?_eq_none h1] at h; simp at h
      simp [this]
    · simp [e, Ne.symm e]
theorem at_upd (s : St) (id : Nat) (o : Ob) (x : Loc) : (⟨s.slots, upd s.heap id o⟩ : St).at x = if x = .ob id then .ob (some o) else s.at x := by
  cases x with
  | slot u => simp [St.at]
  | ob u =>
    simp only [St.at, Loc.ob.injEq, find_upd]
    by_cases e : u = id
    · simp [e]
    · simp [e, Ne.symm e]
theorem at_del (s : St) (id : Nat) (x : Loc) : (⟨s.slots, Go.Proofs.Ytbgbjgedjmhcaaa.del s.heap id⟩ : St).at x = if x = .ob id then .ob none else s.at x := by
  cases x with
  | slot u => simp [St.at]
  | ob u =>
    simp only [St.at, Loc.ob.injEq, find_del]
    by_cases e : u = id
    · simp [e]
    · simp [e, Ne.symm e]

/-- an act looks only at what it reads, and changes only what it writes -/
theorem run_local {α : Type} (c : Ac α) : ∀ (s s' : St) (o : Out α), c.run s = some o → (∀ x ∈ o.rd, s'.at x = s.at x) →
    ∃ o', c.run s' = some o' ∧ o'.a = o.a ∧ o'.rd = o.rd ∧ o'.wr = o.wr ∧ o'.nw = o.nw ∧ o'.ob = o.ob ∧ (∀ x ∈ o.wr, o'.s.at x = o.s.at x) ∧ (∀ x, x ∉ o.wr → o'.s.at x = s'.at x) ∧ (∀ x, x ∉ o.wr → o.s.at x = s.at x) := by
  induction c with
  | ret a =>
    intro s s' o h _
    simp only [Ac.run, Option.some.injEq] at h
    subst h
    exact ⟨_, rfl, rfl, rfl, rfl, rfl, rfl, fun x hx => (by cases hx), fun _ _ => rfl, fun _ _ => rfl⟩
  | slot t k ih =>
    intro s s' o h hrd
    simp only [Ac.run] at h
    split at h
    · cases h
    · rename_i v hv
      split at h
      · cases h
      · rename_i q hq
        simp only [Option.some.injEq] at h
        subst h
        have h1 := hrd (.slot t) (List.mem_cons_self ..)
        simp only [St.at, Cont.slot.injEq] at h1
        obtain ⟨o', r1, r2, r3, r4, r5, r6, r7, r8, r9⟩ := ih v s s' q hq (fun x hx => hrd x (List.mem_cons_of_mem _ hx))
        refine ⟨⟨o'.a, o'.s, .slot t :: o'.rd, o'.wr, o'.nw, o'.ob⟩, ?_, r2, by simp only [r3], r4, r5, r6, r7, r8, r9⟩
        simp only [Ac.run, h1, hv, r1]
  | get id k ih =>
    intro s s' o h hrd
    simp only [Ac.run] at h
    split at h
    · cases h
    · rename_i v hv
      split at h
      · cases h
      · rename_i q hq
        simp only [Option.some.injEq] at h
        subst h
        have h1 := hrd (.ob id) (List.mem_cons_self ..)
        simp only [St.at, Cont.ob.injEq] at h1
        obtain ⟨o', r1, r2, r3, r4, r5, r6, r7, r8, r9⟩ := ih v s s' q hq (fun x hx => hrd x (List.mem_cons_of_mem _ hx))
        refine ⟨⟨o'.a, o'.s, .ob id :: o'.rd, o'.wr, o'.nw, o'.ob⟩, ?_, r2, by simp only [r3], r4, r5, r6, r7, r8, r9⟩
        simp only [Ac.run, h1, hv, r1]
  | new id v k ih =>
    intro s s' o h hrd
    simp only [Ac.run] at h
    split at h
    · cases h
    · rename_i hv
      split at h
      · cases h
      · rename_i q hq
        simp only [Option.some.injEq] at h
        subst h
        have h1 := hrd (.ob id) (List.mem_cons_self ..)
        simp only [St.at, Cont.ob.injEq] at h1
        obtain ⟨o', r1, r2, r3, r4, r5, r6, r7, r8, r9⟩ := ih ⟨s.slots, upd s.heap id v⟩ ⟨s'.slots, upd s'.heap id v⟩ q hq (fun x hx => by
          rw [at_upd, at_upd, hrd x (List.mem_cons_of_mem _ hx)])
        refine ⟨⟨o'.a, o'.s, .ob id :: o'.rd, .ob id :: o'.wr, id :: o'.nw, o'.ob⟩, ?_, r2, by simp only [r3], by simp only [r4], by simp only [r5], r6, fun x hx => ?_, fun x hx => ?_, fun x hx => ?_⟩
        · simp only [Ac.run, h1, hv, r1]
        · by_cases hq' : x ∈ q.wr
          · exact r7 x hq'
          · have : x = .ob id := by rcases List.mem_cons.1 hx with h | h; exact h; exact absurd h hq'
            rw [r8 x hq', r9 x hq', at_upd, at_upd, this]; simp
        · have hx' : x ∉ q.wr := fun h => hx (List.mem_cons_of_mem _ h)
          have hne : x ≠ .ob id := fun h => hx (by rw [h]; exact List.mem_cons_self ..)
          rw [r8 x hx', at_upd, if_neg hne]
        · have hx' : x ∉ q.wr := fun h => hx (List.mem_cons_of_mem _ h)
          have hne : x ≠ .ob id := fun h => hx (by rw [h]; exact List.mem_cons_self ..)
          rw [r9 x hx', at_upd, if_neg hne]
  | put id v k ih =>
    intro s s' o h hrd
    simp only [Ac.run] at h
    split at h
    · cases h
    · rename_i w hv
      split at h
      · cases h
      · rename_i q hq
        simp only [Option.some.injEq] at h
        subst h
        have h1 := hrd (.ob id) (List.mem_cons_self ..)
        simp only [St.at, Cont.ob.injEq] at h1
        obtain ⟨o', r1, r2, r3, r4, r5, r6, r7, r8, r9⟩ := ih ⟨s.slots, upd s.heap id v⟩ ⟨s'.slots, upd s'.heap id v⟩ q hq (fun x hx => by
          rw [at_upd, at_upd, hrd x (List.mem_cons_of_mem _ hx)])
        refine ⟨⟨o'.a, o'.s, .ob id :: o'.rd, .ob id :: o'.wr, o'.nw, o'.ob⟩, ?_, r2, by simp only [r3], by simp only [r4], r5, r6, fun x hx => ?_, fun x hx => ?_, fun x hx => ?_⟩
        · simp only [Ac.run, h1, hv, r1]
        · by_cases hq' : x ∈ q.wr
          · exact r7 x hq'
          · have : x = .ob id := by rcases List.mem_cons.1 hx with h | h; exact h; exact absurd h hq'
            rw [r8 x hq', r9 x hq', at_upd, at_upd, this]; simp
        · have hx' : x ∉ q.wr := fun h => hx (List.mem_cons_of_mem _ h)
          have hne : x ≠ .ob id := fun h => hx (by rw [h]; exact List.mem_cons_self ..)
          rw [r8 x hx', at_upd, if_neg hne]
        · have hx' : x ∉ q.wr := fun h => hx (List.mem_cons_of_mem _ h)
          have hne : x ≠ .ob id := fun h => hx (by rw [h]; exact List.mem_cons_self ..)
          rw [r9 x hx', at_upd, if_neg hne]
  | del id k ih =>
    intro s s' o h hrd
    simp only [Ac.run] at h
    split at h
    · cases h
    · rename_i q hq
      simp only [Option.some.injEq] at h
      subst h
      obtain ⟨o', r1, r2, r3, r4, r5, r6, r7, r8, r9⟩ := ih ⟨s.slots, Go.Proofs.Ytbgbjgedjmhcaaa.del s.heap id⟩ ⟨s'.slots, Go.Proofs.Ytbgbjgedjmhcaaa.del s'.heap id⟩ q hq (fun x hx => by
        rw [at_del, at_del, hrd x hx])
      refine ⟨⟨o'.a, o'.s, o'.rd, .ob id :: o'.wr, o'.nw, o'.ob⟩, ?_, r2, r3, by simp only [r4], r5, r6, fun x hx => ?_, fun x hx => ?_, fun x hx => ?_⟩
      · simp only [Ac.run, r1]
      · by_cases hq' : x ∈ q.wr
        · exact r7 x hq'
        · have : x = .ob id := by rcases List.mem_cons.1 hx with h | h; exact h; exact absurd h hq'
          rw [r8 x hq', r9 x hq', at_del, at_del, this]; simp
      · have hx' : x ∉ q.wr := fun h => hx (List.mem_cons_of_mem _ h)
        have hne : x ≠ .ob id := fun h => hx (by rw [h]; exact List.mem_cons_self ..)
        rw [r8 x hx', at_del, if_neg hne]
      · have hx' : x ∉ q.wr := fun h => hx (List.mem_cons_of_mem _ h)
        have hne : x ≠ .ob id := fun h => hx (by rw [h]; exact List.mem_cons_self ..)
        rw [r9 x hx', at_del, if_neg hne]
  | set t v k ih =>
    intro s s' o h hrd
    simp only [Ac.run] at h
    split at h
    · cases h
    · rename_i w hv
      split at h
      · cases h
      · rename_i q hq
        simp only [Option.some.injEq] at h
        subst h
        have h1 := hrd (.slot t) (List.mem_cons_self ..)
        simp only [St.at, Cont.slot.injEq] at h1
        have i1 : (nth s.slots t).isSome = true := by rw [hv]; rfl
        have i2 : (nth s'.slots t).isSome = true := by rw [h1, hv]; rfl
        obtain ⟨o', r1, r2, r3, r4, r5, r6, r7, r8, r9⟩ := ih ⟨setN s.slots t v, s.heap⟩ ⟨setN s'.slots t v, s'.heap⟩ q hq (fun x hx => by
          rw [at_set _ _ _ i1, at_set _ _ _ i2, hrd x (List.mem_cons_of_mem _ hx)])
        refine ⟨⟨o'.a, o'.s, .slot t :: o'.rd, .slot t :: o'.wr, o'.nw, o'.ob⟩, ?_, r2, by simp only [r3], by simp only [r4], r5, r6, fun x hx => ?_, fun x hx => ?_, fun x hx => ?_⟩
        · simp only [Ac.run, h1, hv, r1]
        · by_cases hq' : x ∈ q.wr
          · exact r7 x hq'
          · have : x = .slot t := by rcases List.mem_cons.1 hx with h | h; exact h; exact absurd h hq'
            rw [r8 x hq', r9 x hq', at_set _ _ _ i1, at_set _ _ _ i2, this]; simp
        · have hx' : x ∉ q.wr := fun h => hx (List.mem_cons_of_mem _ h)
          have hne : x ≠ .slot t := fun h => hx (by rw [h]; exact List.mem_cons_self ..)
          rw [r8 x hx', at_set _ _ _ i2, if_neg hne]
        · have hx' : x ∉ q.wr := fun h => hx (List.mem_cons_of_mem _ h)
          have hne : x ≠ .slot t := fun h => hx (by rw [h]; exact List.mem_cons_self ..)
          rw [r9 x hx', at_set _ _ _ i1, if_neg hne]
  | need p k ih =>
    intro s s' o h hrd
    simp only [Ac.run] at h
    split at h
    · cases h
    · rename_i q hq
      simp only [Option.some.injEq] at h
      subst h
      obtain ⟨o', r1, r2, r3, r4, r5, r6, r7, r8, r9⟩ := ih s s' q hq hrd
      refine ⟨⟨o'.a, o'.s, o'.rd, o'.wr, o'.nw, p :: o'.ob⟩, ?_, r2, r3, r4, r5, by simp only [r6], r7, r8, r9⟩
      simp only [Ac.run, r1]
  | fail =>
    intro s s' o h _
    simp [Ac.run] at h
end Go.Proofs.Ytbgbjgedjmhcaaa
