/- The engine, part B: how a state stands to memory; what an operation owes; regions in whatever order. No conditions but those of each theorem. -/
import Derived.Test.YtbgbjgedjmhcaaaSyA
namespace Go.Proofs.Ytbgbjgedjmhcaaa
open Go.RowKit
set_option linter.unusedVariables false
set_option linter.unusedSimpArgs false

/-- what is named stays so; no other names than these are added -/
def Ext (E E' : Env) (nw : List Nat) : Prop := (∀ id x, E id = some x → E' id = some x) ∧ ∀ id, E' id ≠ none → E id ≠ none ∨ id ∈ nw
theorem Ext.refl (E : Env) : Ext E E [] := ⟨fun _ _ h => h, fun _ h => .inl h⟩
theorem Ext.trans {A B C : Env} {l m : List Nat} (h : Ext A B l) (k : Ext B C m) : Ext A C (l ++ m) :=
  ⟨fun id x e => k.1 id x (h.1 id x e), fun id e => (k.2 id e).elim (fun e => (h.2 id e).imp (fun x => x) (List.mem_append_left _)) fun e => .inr (List.mem_append_right _ e)⟩
theorem Ext.weaken {A B : Env} {l m : List Nat} (h : Ext A B l) (k : ∀ x ∈ l, x ∈ m) : Ext A B m := ⟨h.1, fun id e => (h.2 id e).imp_right (k id)⟩

mutual
theorem RV.mono {E E' : Env} (h : ∀ id x, E id = some x → E' id = some x) : ∀ (v : AV) (c : Value), RV E v c → RV E' v c
  | .val v, c, k => by simpa only [RV] using k
  | .ptr id i es j, c, k => by
    simp only [RV] at k ⊢
    obtain ⟨a, q, e, r⟩ := k
    exact ⟨a, q, h _ _ e, r⟩
  | .sl id i es n cc, c, k => by
    simp only [RV] at k ⊢
    obtain ⟨a, q, e, r⟩ := k
    exact ⟨a, q, h _ _ e, r⟩
  | .agg cs, c, k => by
    simp only [RV] at k ⊢
    obtain ⟨xs, e, r⟩ := k
    exact ⟨xs, e, RVs.mono h cs xs r⟩
  | .tup cs, c, k => by
    simp only [RV] at k ⊢
    obtain ⟨xs, e, r⟩ := k
    exact ⟨xs, e, RVs.mono h cs xs r⟩
  | .fn f l m, c, k => by
    simp only [RV] at k ⊢
    obtain ⟨xs, ys, e, r, r2⟩ := k
    exact ⟨xs, ys, e, RVs.mono h l xs r, RVs.mono h m ys r2⟩
  | .ifc t v, c, k => by
    simp only [RV] at k ⊢
    obtain ⟨x, e, r⟩ := k
    exact ⟨x, e, RV.mono h v x r⟩
  | .mp id, c, k => by
    simp only [RV] at k ⊢
    obtain ⟨a, q, e, r⟩ := k
    exact ⟨a, q, h _ _ e, r⟩
  | .anyB p q, c, k => by simpa only [RV] using k
  | .len n, c, k => by simpa only [RV] using k
  | .junk, c, k => by simp only [RV]
theorem RVs.mono {E E' : Env} (h : ∀ id x, E id = some x → E' id = some x) : ∀ (v : List AV) (c : List Value), RVs E v c → RVs E' v c
  | [], c, k => by simpa only [RVs] using k
  | x :: xs, c, k => by
    simp only [RVs] at k ⊢
    obtain ⟨y, l, e, r, r2⟩ := k
    exact ⟨y, l, e, RV.mono h x y r, RVs.mono h xs l r2⟩
end
theorem RVs.length {E : Env} : ∀ {v : List AV} {c : List Value}, RVs E v c → c.length = v.length
  | [], c, k => by simp only [RVs] at k; simp [k]
  | x :: xs, c, k => by
    simp only [RVs] at k
    obtain ⟨y, l, rfl, r, r2⟩ := k
    simp [r2.length]
theorem RVs.get {E : Env} : ∀ {v : List AV} {c : List Value}, RVs E v c → ∀ (j : Nat) (x : AV), nth v j = some x → ∃ y, c[j]? = some y ∧ RV E x y
  | [], c, k, j, x, h => by simp [nth] at h
  | x :: xs, c, k, j, z, h => by
    simp only [RVs] at k
    obtain ⟨y, l, rfl, r, r2⟩ := k
    cases j with
    | zero => simp only [nth, Option.some.injEq] at h; subst h; exact ⟨y, rfl, r⟩
    | succ j => simp only [nth] at h; simpa using r2.get j z h
theorem RVs.of {E : Env} : ∀ {v : List AV} {c : List Value}, c.length = v.length → (∀ (j : Nat) (x : AV) (y : Value), nth v j = some x → c[j]? = some y → RV E x y) → RVs E v c
  | [], c, k, h => by simp only [RVs]; exact List.eq_nil_of_length_eq_zero k
  | x :: xs, c, k, h => by
    cases c with
    | nil => simp at k
    | cons y l =>
      simp only [RVs]
      exact ⟨y, l, rfl, h 0 x y rfl rfl, RVs.of (by simpa using k) fun j a b h1 h2 => h (j + 1) a b (by simpa [nth] using h1) (by simpa using h2)⟩
theorem RVs.append {E : Env} : ∀ {v v' : List AV} {c c' : List Value}, RVs E v c → RVs E v' c' → RVs E (v ++ v') (c ++ c')
  | [], v', c, c', k, k' => by simp only [RVs] at k; subst k; simpa using k'
  | x :: xs, v', c, c', k, k' => by
    simp only [RVs] at k
    obtain ⟨y, l, rfl, r, r2⟩ := k
    simp only [List.cons_append, RVs]
    exact ⟨y, _, rfl, r, r2.append k'⟩
theorem RVs.take {E : Env} : ∀ {v : List AV} {c : List Value}, RVs E v c → ∀ n, RVs E (v.take n) (c.take n)
  | [], c, k, n => by simp only [RVs] at k; subst k; simp [RVs]
  | x :: xs, c, k, n => by
    simp only [RVs] at k
    obtain ⟨y, l, rfl, r, r2⟩ := k
    cases n with
    | zero => simp [RVs]
    | succ n => simp only [List.take_succ_cons, RVs]; exact ⟨y, _, rfl, r, r2.take n⟩
theorem RVs.drop {E : Env} : ∀ {v : List AV} {c : List Value}, RVs E v c → ∀ n, RVs E (v.drop n) (c.drop n)
  | [], c, k, n => by simp only [RVs] at k; subst k; simp [RVs]
  | x :: xs, c, k, n => by
    cases n with
    | zero => simpa using k
    | succ n =>
      simp only [RVs] at k
      obtain ⟨y, l, rfl, r, r2⟩ := k
      simpa using r2.drop n

theorem RowsOK.mono {E E' : Env} (h : ∀ id x, E id = some x → E' id = some x) {es n : Nat} {row : Nat → List AV} {xs : List Value} (k : RowsOK E es n row xs) : RowsOK E' es n row xs := fun q hq => RVs.mono h _ _ (k q hq)
theorem Holds.mono {E E' : Env} {W : World} (h : ∀ id x, E id = some x → E' id = some x) {id : Nat} : ∀ {o : Ob}, Holds E W id o → Holds E' W id o
  | .blk ty cs, ⟨b, k, xs, h1, h2, h3, h4⟩ => ⟨b, k, xs, h _ _ h1, h2, RVs.mono h _ _ h3, h4⟩
  | .vec ty es n row, ⟨b, k, xs, h1, h2, h3, h4⟩ => ⟨b, k, xs, h _ _ h1, h2, h3, h4.mono h⟩
  | .ro es n row, ⟨b, k, xs, h1, h2, h3, h4, h5⟩ => ⟨b, k, xs, h _ _ h1, h2, h3, h4, h5.mono h⟩
  | .obj m, ⟨b, k, ob, h1, h2, h3⟩ => ⟨b, k, ob, h _ _ h1, h2, h3⟩
  | .box B, ⟨b, k, h1, h2⟩ => ⟨b, k, h _ _ h1, h2⟩
theorem Holds.bound {E : Env} {W : World} {id : Nat} : ∀ {o : Ob}, Holds E W id o → ∃ x, E id = some x
  | .blk ty cs, ⟨b, k, xs, h1, _⟩ => ⟨_, h1⟩
  | .vec ty es n row, ⟨b, k, xs, h1, _⟩ => ⟨_, h1⟩
  | .ro es n row, ⟨b, k, xs, h1, _⟩ => ⟨_, h1⟩
  | .obj m, ⟨b, k, ob, h1, _⟩ => ⟨_, h1⟩
  | .box B, ⟨b, k, h1, _⟩ => ⟨_, h1⟩
theorem Holds.blk_lt {E : Env} {W : World} {id : Nat} {b : Nat} : ∀ {o : Ob}, Foot E W id o b → Holds E W id o → b < W.heap.size
  | .blk ty cs, hb, ⟨c, k, xs, h1, h2, _⟩ => by
    simp only [Foot, Ob.bx, FootB, blkOf, h1, Option.some.injEq] at hb
    subst hb
    exact (Array.getElem?_eq_some_iff.1 h2).1
  | .vec ty es n row, hb, ⟨c, k, xs, h1, h2, _⟩ => by
    cases c with
    | none => simp [Foot, Ob.bx, FootB, blkOf, h1] at hb
    | some a =>
      simp only [Foot, Ob.bx, FootB, blkOf, h1, Option.some.injEq] at hb
      exact (h2.lt b (by simp [Value.ownBlock, hb])).2
  | .ro es n row, hb, ⟨c, k, xs, h1, h2, h3, _⟩ => by
    cases c with
    | none => simp [Foot, Ob.bx, FootB, blkOf, h1] at hb
    | some a =>
      simp only [Foot, Ob.bx, FootB, blkOf, h1, Option.some.injEq] at hb
      rcases h3 with ⟨e, _⟩ | ⟨a', e, h4, _⟩
      · cases e
      · cases e; rw [← hb]; exact h4
  | .obj m, hb, ⟨c, k, ob, h1, h2, _⟩ => by
    simp only [Foot, Ob.bx, FootB, blkOf, h1, Option.some.injEq] at hb
    subst hb
    exact (Array.getElem?_eq_some_iff.1 h2).1
  | .box B, hb, ⟨c, k, h1, h2⟩ => by
    obtain ⟨a, h3, h4⟩ := hb
    simp only [blkOf, h1, Option.some.injEq] at h3
    subst h3
    exact B.lt W.heap c b h2 h4
/-- an object stays as it is where its block does -/
theorem Holds.kept {E : Env} {W W' : World} {id : Nat} (hs : W.heap.size ≤ W'.heap.size) : ∀ {o : Ob}, (∀ b, Foot E W id o b → W'.heap[b]? = W.heap[b]?) → Holds E W id o → Holds E W' id o
  | .blk ty cs, h, ⟨c, k, xs, h1, h2, h3⟩ => ⟨c, k, xs, h1, (h c (by simp [Foot, Ob.bx, FootB, blkOf, h1])).trans h2, h3⟩
  | .vec ty es n row, h, ⟨c, k, xs, h1, h2, h3, h4⟩ => by
    refine ⟨c, k, xs, h1, ⟨h2.1, h2.2.imp (fun x => x) fun ⟨g, cap, cur, hv, hg, hh, rest⟩ => ⟨g, cap, cur, hv, hg, ?_, rest⟩⟩, h3, h4⟩
    simp only [Value.slice.injEq] at hv
    rw [h g (by simp [Foot, Ob.bx, FootB, blkOf, h1, hv.1])]; exact hh
  | .ro es n row, h, ⟨c, k, xs, h1, h2, h3, h4, h5⟩ => by
    refine ⟨c, k, xs, h1, h2, h3.imp (fun x => x) fun ⟨a, e, hl, hn, hc⟩ => ⟨a, e, Nat.lt_of_lt_of_le hl hs, hn, fun j u hu => ?_⟩, h4, h5⟩
    exact (World.cell?_of_block (a := ⟨a.block, a.off + j, none⟩) (h a.block (by simp [Foot, Ob.bx, FootB, blkOf, h1, e]))).trans (hc j u hu)
  | .obj m, h, ⟨c, k, ob, h1, h2, h3⟩ => ⟨c, k, ob, h1, (h c (by simp [Foot, Ob.bx, FootB, blkOf, h1])).trans h2, h3⟩
  | .box B, h, ⟨c, k, h1, h2⟩ => ⟨c, k, h1, (B.kept W.heap W'.heap c h2 hs fun b hb => h b ⟨c, by simp [blkOf, h1], hb⟩).1⟩
theorem Foot.kept {E : Env} {W W' : World} {id : Nat} (hs : W.heap.size ≤ W'.heap.size) : ∀ {o : Ob}, (∀ b, Foot E W id o b → W'.heap[b]? = W.heap[b]?) → Holds E W id o → ∀ b, Foot E W' id o b → Foot E W id o b
  | .blk ty cs, _, _, b, h => h
  | .vec ty es n row, _, _, b, h => h
  | .ro es n row, _, _, b, h => h
  | .obj m, _, _, b, h => h
  | .box B, h, ⟨c, k, h1, h2⟩, b, ⟨a, h3, h4⟩ => by
    simp only [blkOf, h1, Option.some.injEq] at h3
    subst h3
    exact ⟨c, by simp [blkOf, h1], (B.kept W.heap W'.heap c h2 hs fun b hb => h b ⟨c, by simp [blkOf, h1], hb⟩).2 b h4⟩

/-- how a heap's objects stand to memory -/
structure RH (E : Env) (h : Hp) (W : World) : Prop where
  holds : ∀ id o, find h id = some o → Holds E W id o
  apart : ∀ id id' o o', find h id = some o → find h id' = some o' → id ≠ id' → o.owned = true → ∀ b, Foot E W id o b → ¬ Foot E W id' o' b
/-- no other blocks than the owned ones have changed; what is owned was, or is new -/
structure Mod (E : Env) (h : Hp) (W : World) (E' : Env) (h' : Hp) (W' : World) : Prop where
  os : W'.os = W.os
  tape : W'.tape = W.tape
  output : W'.output = W.output
  size : W.heap.size ≤ W'.heap.size
  old : ∀ b, b < W.heap.size → (∀ id o, find h id = some o → o.owned = true → ¬ Foot E W id o b) → W'.heap[b]? = W.heap[b]?
  own : ∀ id o b, find h' id = some o → Foot E' W' id o b → (∃ id0 o0, find h id0 = some o0 ∧ (o.owned = true → o0.owned = true) ∧ Foot E W id0 o0 b) ∨ W.heap.size ≤ b
theorem Mod.refl (E : Env) (h : Hp) (W : World) : Mod E h W E h W :=
  ⟨rfl, rfl, rfl, Nat.le_refl _, fun _ _ _ => rfl, fun id o b h1 h3 => .inl ⟨id, o, h1, fun h => h, h3⟩⟩
theorem Mod.trans {A B C : Env} {h h' h'' : Hp} {W W' W'' : World} (m : Mod A h W B h' W') (k : Mod B h' W' C h'' W'') : Mod A h W C h'' W'' where
  os := k.os.trans m.os
  tape := k.tape.trans m.tape
  output := k.output.trans m.output
  size := Nat.le_trans m.size k.size
  old := fun b hb hn => (k.old b (Nat.lt_of_lt_of_le hb m.size) fun id o h1 h2 h3 => (m.own id o b h1 h3).elim (fun ⟨i, p, q1, q2, q3⟩ => hn i p q1 (q2 h2) q3) fun q => by omega).trans (m.old b hb hn)
  own := fun id o b h1 h3 => (k.own id o b h1 h3).elim (fun ⟨i, p, q1, q2, q3⟩ => (m.own i p b q1 q3).imp (fun ⟨j, t, t1, t2, t3⟩ => ⟨j, t, t1, fun h => t2 (q2 h), t3⟩) fun x => x) fun q => .inr (Nat.le_trans m.size q)
theorem RH.congr {E : Env} {h h' : Hp} {W : World} (e : ∀ id, find h' id = find h id) (r : RH E h W) : RH E h' W :=
  ⟨fun id o ho => r.holds id o (by rw [← e]; exact ho), fun id id' o o' h1 h2 => r.apart id id' o o' (by rw [← e]; exact h1) (by rw [← e]; exact h2)⟩
theorem RH.sub {E : Env} {h h' : Hp} {W : World} (e : ∀ id o, find h' id = some o → find h id = some o) (r : RH E h W) : RH E h' W :=
  ⟨fun id o ho => r.holds id o (e _ _ ho), fun id id' o o' h1 h2 => r.apart id id' o o' (e _ _ h1) (e _ _ h2)⟩
theorem Mod.congr {E E' : Env} {h h' k k' : Hp} {W W' : World} (e : ∀ id, find k id = find h id) (e' : ∀ id, find k' id = find h' id) (m : Mod E h W E' h' W') : Mod E k W E' k' W' :=
  ⟨m.os, m.tape, m.output, m.size, fun b hb hn => m.old b hb fun id o ho => hn id o (by rw [e]; exact ho), fun id o b h1 h3 => (m.own id o b (by rw [← e']; exact h1) h3).imp (fun ⟨i, p, q, r⟩ => ⟨i, p, by rw [e]; exact q, r⟩) fun x => x⟩
theorem Foot.heq {E : Env} {W W' : World} {id : Nat} {o : Ob} {b : Nat} (h : W'.heap = W.heap) (hh : Holds E W id o) : Foot E W' id o b ↔ Foot E W id o b :=
  ⟨fun k => Foot.kept (by rw [h]; exact Nat.le_refl _) (fun _ _ => by rw [h]) hh b k, fun k => Foot.kept (W := W') (W' := W) (by rw [h]; exact Nat.le_refl _) (fun _ _ => by rw [h]) (hh.kept (by rw [h]; exact Nat.le_refl _) fun _ _ => by rw [h]) b k⟩
theorem RH.heq {E : Env} {h : Hp} {W W' : World} (e : W'.heap = W.heap) (r : RH E h W) : RH E h W' :=
  ⟨fun id o ho => (r.holds id o ho).kept (by rw [e]; exact Nat.le_refl _) fun _ _ => by rw [e], fun id id' o o' h1 h2 hne ho b hb hb2 => r.apart id id' o o' h1 h2 hne ho b ((Foot.heq e (r.holds id o h1)).1 hb) ((Foot.heq e (r.holds id' o' h2)).1 hb2)⟩

/-- how a state stands to the frame and memory -/
structure Rel (E : Env) (s : St) (W : World) (a : Act) : Prop where
  size : a.tmps.size = s.slots.length
  sl : ∀ t v, nth s.slots t = some v → ∃ c, a.tmps[t]? = some c ∧ RV E v c
  df : a.defers = []
  hp : RH E s.heap W
theorem nth_length {α : Type} {l m : List α} (h : ∀ t, nth l t = nth m t) : l.length = m.length := by
  have : l = m := List.ext_getElem? fun i => by rw [← nth_eq, ← nth_eq]; exact h i
  rw [this]
theorem Rel.congr {E : Env} {s s' : St} {W : World} {a : Act} (e : ∀ x, s'.at x = s.at x) (r : Rel E s W a) : Rel E s' W a := by
  have e1 : ∀ t, nth s'.slots t = nth s.slots t := fun t => by have := e (.slot t); simpa [St.at] using this
  have e2 : ∀ id, find s'.heap id = find s.heap id := fun id => by have := e (.ob id); simpa [St.at] using this
  exact ⟨by rw [nth_length e1]; exact r.size, fun t v h => r.sl t v (by rw [← e1]; exact h), r.df, r.hp.congr e2⟩
theorem Rel.drew {E : Env} {s : St} {W : World} {a : Act} (r : Rel E s W a) : Rel E s { W with drawn := W.drawn + 1 } a :=
  ⟨r.size, r.sl, r.df, RH.heq (W := W) rfl r.hp⟩
theorem Mod.drew {E E' : Env} {h h' : Hp} {W W' : World} (m : Mod E h { W with drawn := W.drawn + 1 } E' h' W') : Mod E h W E' h' W' := ⟨m.os, m.tape, m.output, m.size, m.old, m.own⟩

/-- what an operation owes: it does what its act does -/
def OpOK (P : Program) (ops : Array Oper) (o : Oper) (c : Ac Unit) : Prop :=
  ∀ (E : Env) (s : St) (W : World) (a : Act) (out : Out Unit), c.run s = some out → AllP out.ob → Rel E s W a → (∀ id ∈ out.nw, E id = none) →
    ∀ (K : Act → World → Prop) (Q : Exit → Act → World → Prop), (∀ E' W' a', Ext E E' out.nw → Rel E' out.s W' a' → Mod E s.heap W E' out.s.heap W' → K a' W') →
      if Region.wanted o (yielded ops a.tmps) = true then o.wp P a W K Q else K (a.put o.dst undef) W

/-- the operations of a region, in the order of the text -/
def runR (f : Nat → Ac Unit) : Nat → Nat → St → Option (List (Out Unit))
  | 0, _, _ => some []
  | k + 1, i, s => match (f i).run s with
    | none => none
    | some o => match runR f k (i + 1) o.s with
      | none => none
      | some l => some (o :: l)
def stAt (s : St) (l : List (Out Unit)) : Nat → St
  | 0 => s
  | i + 1 => match nth l i with
    | some o => o.s
    | none => s
theorem runR_at (f : Nat → Ac Unit) : ∀ (k i : Nat) (s : St) (l : List (Out Unit)), runR f k i s = some l → l.length = k ∧ ∀ j, j < k → ∃ o, nth l j = some o ∧ (f (i + j)).run (stAt s l j) = some o
  | 0, i, s, l, h => by
    simp only [runR, Option.some.injEq] at h
    subst h
    exact ⟨rfl, fun j hj => by omega⟩
  | k + 1, i, s, l, h => by
    simp only [runR] at h
    split at h
    · cases h
    · rename_i o ho
      split at h
      · cases h
      · rename_i m hm
        simp only [Option.some.injEq] at h
        subst h
        obtain ⟨h1, h2⟩ := runR_at f k (i + 1) o.s m hm
        refine ⟨by simp [h1], fun j hj => ?_⟩
        cases j with
        | zero => exact ⟨o, rfl, ho⟩
        | succ j =>
          obtain ⟨q, q1, q2⟩ := h2 j (by omega)
          refine ⟨q, q1, ?_⟩
          rw [show i + (j + 1) = i + 1 + j by omega]
          cases j with
          | zero => exact q2
          | succ j =>
            simp only [stAt, nth] at q2 ⊢
            obtain ⟨r, r1, r2⟩ := h2 j (by omega)
            rw [r1] at q2 ⊢
            exact q2

/-! ### Which operations wait for which -/
/-- what operation i waits for, as a set of bits, is told rightly -/
def maskB (l : List Oper) (M : List Nat) : Bool := (List.range l.length).all fun i => match nth l i, nth M i with
  | some o, some m => (o.after.toList.all fun e => !Region.binds .any e || decide (e.on < i)) && (List.range l.length).all fun j => !m.testBit j || o.after.toList.any fun e => Region.binds .any e && (e.on == j || match nth M e.on with | some q => q.testBit j | none => false)
  | _, _ => false
def Clo (l : List Oper) (L : Array Bool) : Prop := ∀ i o, l[i]? = some o → L.getD i false = true → ∀ e ∈ o.after, Region.binds .any e = true → L.getD e.on false = true
theorem maskB_at {l : List Oper} {M : List Nat} (h : maskB l M = true) {i : Nat} (hi : i < l.length) : ∃ o m, l[i]? = some o ∧ M[i]? = some m ∧ (∀ e ∈ o.after, Region.binds .any e = true → e.on < i) ∧ ∀ j, j < l.length → m.testBit j = true → ∃ e ∈ o.after, Region.binds .any e = true ∧ (e.on = j ∨ ∃ q, M[e.on]? = some q ∧ q.testBit j = true) := by
  unfold maskB at h
  rw [List.all_eq_true] at h
  have := h i (List.mem_range.2 hi)
  rw [nth_eq, nth_eq] at this
  cases ho : l[i]? with
  | none => rw [ho] at this; simp at this
  | some o =>
    cases hm : M[i]? with
    | none => rw [ho, hm] at this; simp at this
    | some m =>
      rw [ho, hm] at this
      simp only [Bool.and_eq_true, List.all_eq_true, List.mem_range] at this
      refine ⟨o, m, rfl, rfl, fun e he hb => ?_, fun j hj ht => ?_⟩
      · have := this.1 e (by simpa using he)
        simpa [hb] using this
      · have := this.2 j hj
        rw [ht] at this
        simp only [Bool.not_true, Bool.false_or, List.any_eq_true, Bool.and_eq_true, Bool.or_eq_true, beq_iff_eq] at this
        obtain ⟨e, he, hb, h1⟩ := this
        refine ⟨e, by simpa using he, hb, h1.imp_right fun h2 => ?_⟩
        rw [nth_eq] at h2
        cases hq : M[e.on]? with
        | none => rw [hq] at h2; simp at h2
        | some q => rw [hq] at h2; exact ⟨q, rfl, h2⟩
theorem mask_on {l : List Oper} {M : List Nat} (h : maskB l M = true) {L : Array Bool} (hc : Clo l L) : ∀ (i : Nat), i < l.length → ∀ (m : Nat), M[i]? = some m → (∀ o, l[i]? = some o → ∀ e ∈ o.after, Region.binds .any e = true → L.getD e.on false = true) → ∀ j, j < l.length → m.testBit j = true → L.getD j false = true := by
  intro i
  induction i using Nat.strongRecOn with
  | ind i ih =>
    intro hi m hm hr j hj ht
    obtain ⟨o, m', ho, hm', hlow, hb⟩ := maskB_at h hi
    rw [hm] at hm'
    obtain rfl := Option.some.inj hm'
    obtain ⟨e, he, hbd, h1⟩ := hb j hj ht
    have hl := hr o ho e he hbd
    rcases h1 with h1 | ⟨q, hq, h1⟩
    · rw [← h1]; exact hl
    · exact ih e.on (hlow e he hbd) (Nat.lt_trans (hlow e he hbd) hi) q hq (fun o' ho' => hc e.on o' ho' hl) j hj h1

/-- operations of which neither waits for the other touch no place in common that one of them writes -/
def meets (a b : List Loc) : Bool := a.any fun x => b.contains x
def apartB (M : List Nat) (l : List (Out Unit)) : Bool := (List.range l.length).all fun j => (List.range j).all fun i => match nth l i, nth l j, nth M j with
  | some p, some q, some m => m.testBit i || !(meets p.wr q.rd || meets p.wr q.wr || meets p.rd q.wr)
  | _, _, _ => false
theorem meets_no {a b : List Loc} (h : meets a b = false) (x : Loc) (hx : x ∈ a) : x ∉ b := fun hb => by
  have : meets a b = true := List.any_eq_true.2 ⟨x, hx, by simpa using hb⟩
  rw [h] at this; cases this
theorem apartB_at {M : List Nat} {l : List (Out Unit)} (h : apartB M l = true) {i j : Nat} (hij : i < j) (hj : j < l.length) {p q : Out Unit} (hp : nth l i = some p) (hq : nth l j = some q) : ∃ m, M[j]? = some m ∧ (m.testBit i = true ∨ ((∀ x ∈ p.wr, x ∉ q.rd ∧ x ∉ q.wr) ∧ ∀ x ∈ q.wr, x ∉ p.rd)) := by
  unfold apartB at h
  rw [List.all_eq_true] at h
  have := h j (List.mem_range.2 hj)
  rw [List.all_eq_true] at this
  have := this i (List.mem_range.2 hij)
  rw [hp, hq] at this
  rw [nth_eq] at this
  cases hm : M[j]? with
  | none => rw [hm] at this; simp at this
  | some m =>
    rw [hm] at this
    refine ⟨m, rfl, ?_⟩
    simp only [Bool.or_eq_true, Bool.not_eq_true', Bool.or_eq_false_iff] at this
    rcases this with h1 | ⟨⟨h1, h2⟩, h3⟩
    · exact .inl h1
    · exact .inr ⟨fun x hx => ⟨meets_no h1 x hx, meets_no h2 x hx⟩, fun x hx hr => meets_no h3 x hr hx⟩

theorem getD_self {L : Array Bool} {i : Nat} (hi : i < L.size) (b : Bool) : (L.setIfInBounds i true).getD i b = true := by
  simp [Array.getD_eq_getD_getElem?, Array.getElem?_setIfInBounds, hi]
theorem getD_other {L : Array Bool} {i j : Nat} (h : i ≠ j) (b : Bool) : (L.setIfInBounds i true).getD j b = L.getD j b := by
  simp [Array.getD_eq_getD_getElem?, Array.getElem?_setIfInBounds, h]
theorem getD_tf {L : Array Bool} {i : Nat} (h : L.getD i true = false) : L.getD i false = false := by
  rw [Array.getD_eq_getD_getElem?] at h ⊢
  cases e : L[i]? with
  | none => rfl
  | some b => rw [e] at h; simpa using h
theorem getD_ft {L : Array Bool} {i : Nat} (hi : i < L.size) (h : L.getD i true = true) : L.getD i false = true := by
  rw [Array.getD_eq_getD_getElem?] at h ⊢
  rw [Array.getElem?_eq_getElem hi] at h ⊢
  simpa using h
/-- the numbers that are not listed -/
def left (L : Array Bool) : Nat := L.toList.count false
theorem count_set (l : List Bool) : ∀ i, l[i]? = some false → (l.set i true).count false + 1 = l.count false := by
  induction l with
  | nil => intro i h; simp at h
  | cons b l ih =>
    intro i h
    cases i with
    | zero => simp at h; subst h; simp
    | succ i =>
      have := ih i (by simpa using h)
      rw [List.set_cons_succ, List.count_cons, List.count_cons]
      omega
theorem left_set {L : Array Bool} {i : Nat} (h : L.getD i true = false) : left (L.setIfInBounds i true) + 1 = left L := by
  unfold left
  have h1 : L.toList[i]? = some false := by
    rw [Array.getD_eq_getD_getElem?] at h
    cases e : L[i]? with
    | none => rw [e] at h; simp at h
    | some b => rw [e] at h; simp at h; subst h; simpa using e
  have := count_set L.toList i h1
  rwa [← Array.toList_setIfInBounds] at this
theorem left_zero {L : Array Bool} (h : left L = 0) (i : Nat) : L.getD i true = true := by
  unfold left at h
  rw [Array.getD_eq_getD_getElem?]
  cases e : L[i]? with
  | none => rfl
  | some b =>
    cases b with
    | true => rfl
    | false =>
      have h1 : L.toList[i]? = some false := by simpa using e
      have := count_set L.toList i h1
      omega
theorem left_new (n : Nat) : left (Array.replicate n false) = n := by simp [left]
theorem clo_set {l : List Oper} {L : Array Bool} {i : Nat} (hL : L.size = l.length) (hc : Clo l L) (hi : i < l.length) (hr : ∀ (o : Oper), l[i]? = some o → ∀ e ∈ o.after, Region.binds .any e = true → L.getD e.on false = true) : Clo l (L.setIfInBounds i true) := by
  have up : ∀ j, L.getD j false = true → (L.setIfInBounds i true).getD j false = true := fun j hj => by
    by_cases e : i = j
    · subst e; exact getD_self (by omega) _
    · rw [getD_other e]; exact hj
  intro j o hj hl e he hb
  by_cases hij : i = j
  · subst hij; exact up _ (hr o hj e he hb)
  · rw [getD_other hij] at hl; exact up _ (hc j o hj hl e he hb)

section main
variable {P : Program} {ops : Array Oper} {f : Nat → Ac Unit} {M : List Nat} {s0 : St} {outs : List (Out Unit)} {E0 : Env} {W0 : World} {Q : Exit → Act → World → Prop}

/-- the state on the way: at each place what the last listed writer left -/
def OnWay (s0 : St) (outs : List (Out Unit)) (L : Array Bool) (s : St) : Prop :=
  ∀ x : Loc, ∃ m, m ≤ outs.length ∧ s.at x = (stAt s0 outs m).at x ∧ (∀ j o, j < m → nth outs j = some o → x ∈ o.wr → L.getD j false = true) ∧ ∀ j o, m ≤ j → nth outs j = some o → L.getD j false = true → x ∉ o.wr
theorem nth_lt {α : Type} {l : List α} {i : Nat} {x : α} (h : nth l i = some x) : i < l.length := by
  rw [nth_eq] at h; exact (List.getElem?_eq_some_iff.1 h).1
theorem stays (hrun : ∀ j o, nth outs j = some o → (f j).run (stAt s0 outs j) = some o) (x : Loc) (m : Nat) : ∀ d, m + d ≤ outs.length → (∀ j o, m ≤ j → j < m + d → nth outs j = some o → x ∉ o.wr) → (stAt s0 outs (m + d)).at x = (stAt s0 outs m).at x
  | 0, _, _ => rfl
  | d + 1, hd, h => by
    have ih := stays hrun x m d (by omega) (fun j o h1 h2 => h j o h1 (by omega))
    obtain ⟨o, ho⟩ : ∃ o, nth outs (m + d) = some o := by rw [nth_eq, List.getElem?_eq_getElem (by omega)]; exact ⟨_, rfl⟩
    obtain ⟨_, _, _, _, _, _, _, _, _, h9⟩ := run_local (f (m + d)) _ _ o (hrun _ o ho) (fun _ _ => rfl)
    have := h9 x (h _ o (by omega) (by omega) ho)
    rw [← ih, ← this, show m + (d + 1) = (m + d) + 1 by omega]
    simp only [stAt, ho]

theorem region_any (hsz : outs.length = ops.size) (hrun : ∀ j o, nth outs j = some o → (f j).run (stAt s0 outs j) = some o) (hmask : maskB ops.toList M = true) (hap : apartB M outs = true)
    (hob : ∀ o ∈ outs, AllP o.ob) (hop : ∀ i o, ops[i]? = some o → OpOK P ops o (f i)) (hnw : (outs.flatMap (·.nw)).Nodup) (hfr : ∀ id ∈ outs.flatMap (·.nw), E0 id = none)
    (hQ : ∀ E s W a, (∀ x, s.at x = (stAt s0 outs outs.length).at x) → Ext E0 E (outs.flatMap (·.nw)) → Rel E s W a → Mod E0 s0.heap W0 E s.heap W → Q .normal a W) :
    ∀ (fuel : Nat) (L : Array Bool) (E : Env) (s : St) (W : World) (a : Act), left L ≤ fuel → L.size = ops.size → Clo ops.toList L → OnWay s0 outs L s → Rel E s W a → Mod E0 s0.heap W0 E s.heap W →
      (∀ id x, E0 id = some x → E id = some x) → (∀ id, E id ≠ none → E0 id ≠ none ∨ ∃ j o, nth outs j = some o ∧ L.getD j false = true ∧ id ∈ o.nw) → wpAny P .any ops Q fuel L a W := by
  have hdone : ∀ (L : Array Bool) (E : Env) (s : St) (W : World) (a : Act), L.size = ops.size → (∀ i, i < ops.size → L.getD i false = true) → OnWay s0 outs L s → Rel E s W a → Mod E0 s0.heap W0 E s.heap W →
      (∀ id x, E0 id = some x → E id = some x) → (∀ id, E id ≠ none → E0 id ≠ none ∨ ∃ j o, nth outs j = some o ∧ L.getD j false = true ∧ id ∈ o.nw) → Q .normal a W := by
    intro L E s W a hL hall hw hr hm h1 h2
    refine hQ E s W a (fun x => ?_) ⟨h1, fun id he => (h2 id he).imp_right fun ⟨j, o, ho, _, hi⟩ => List.mem_flatMap.2 ⟨o, by rw [nth_eq] at ho; exact List.mem_of_getElem? ho, hi⟩⟩ hr hm
    obtain ⟨m, hm1, hm2, _, hm4⟩ := hw x
    rw [hm2]
    have := stays hrun x m (outs.length - m) (by omega) (fun j o h1 h2 ho => hm4 j o h1 ho (hall j (by have := nth_lt ho; omega)))
    rw [show m + (outs.length - m) = outs.length by omega] at this
    exact this.symm
  intro fuel
  induction fuel with
  | zero =>
    intro L E s W a hf hL hc hw hr hm h1 h2
    have h0 := left_zero (show left L = 0 by omega)
    have hall : ∀ i, i < ops.size → L.getD i false = true := fun i hi => getD_ft (by omega) (h0 i)
    refine ⟨List.filter_eq_nil_iff.2 fun i hi => ?_, hdone L E s W a hL hall hw hr hm h1 h2⟩
    simp [h0 i]
  | succ fuel ih =>
    intro L E s W a hf hL hc hw hr hm h1 h2
    refine ⟨fun hrd => ?_, fun i hi => ?_⟩
    · refine hdone L E s W a hL (fun i => ?_) hw hr hm h1 h2
      induction i using Nat.strongRecOn with
      | ind i ihi =>
        intro hi
        refine Decidable.byContradiction fun hn => ?_
        obtain ⟨o, m, ho, _, hlow, _⟩ := maskB_at hmask (show i < ops.toList.length by simpa using hi)
        have hmem : i ∈ Region.ready .any ops L := by
          rw [mem_ready]
          refine ⟨?_, o, by simpa using ho, fun e he hb => ihi e.on (hlow e he hb) (Nat.lt_trans (hlow e he hb) hi)⟩
          cases hg : L.getD i true with
          | true => exact absurd (getD_ft (by omega) hg) hn
          | false => rfl
        rw [hrd] at hmem
        cases hmem
    · obtain ⟨hun, o, ho, hdeps⟩ := mem_ready.1 hi
      have hi2 : i < ops.size := (Array.getElem?_eq_some_iff.1 ho).1
      have hol : ops.toList[i]? = some o := by simpa using ho
      have hunf := getD_tf hun
      have hdep : ∀ o', ops.toList[i]? = some o' → ∀ e ∈ o'.after, Region.binds .any e = true → L.getD e.on false = true := fun o' h' => by
        rw [hol] at h'
        obtain rfl := Option.some.inj h'
        exact hdeps
      obtain ⟨q, hq⟩ : ∃ q, nth outs i = some q := by rw [nth_eq, List.getElem?_eq_getElem (by omega)]; exact ⟨_, rfl⟩
      -- writers of a place that i touches: those ahead of it are listed, those behind it are not
      have hlo : ∀ x, x ∈ q.rd ∨ x ∈ q.wr → ∀ j p, j < i → nth outs j = some p → x ∈ p.wr → L.getD j false = true := fun x hx j p hj hp hxw => by
        obtain ⟨m, hm', h3⟩ := apartB_at hap hj (nth_lt hq) hp hq
        rcases h3 with h3 | ⟨h3, _⟩
        · exact mask_on hmask hc i (by simpa using hi2) m hm' hdep j (by simp; omega) h3
        · have := h3 x hxw
          rcases hx with hx | hx
          · exact absurd hx this.1
          · exact absurd hx this.2
      have hhi : ∀ x, x ∈ q.rd ∨ x ∈ q.wr → ∀ j p, i < j → nth outs j = some p → x ∈ p.wr → L.getD j false = false := fun x hx j p hj hp hxw => by
        obtain ⟨m, hm', h3⟩ := apartB_at hap hj (nth_lt hp) hq hp
        rcases h3 with h3 | ⟨h3, h4⟩
        · cases hg : L.getD j false with
          | false => rfl
          | true =>
            have hjl : j < ops.toList.length := by have := nth_lt hp; simp; omega
            have := mask_on hmask hc j hjl m hm' (fun o' ho' => hc j o' ho' hg) i (by simpa using hi2) h3
            rw [hunf] at this
            cases this
        · rcases hx with hx | hx
          · exact absurd hx (h4 x hxw)
          · exact absurd hxw (h3 x hx).2
      have hat : ∀ x, x ∈ q.rd ∨ x ∈ q.wr → s.at x = (stAt s0 outs i).at x := fun x hx => by
        obtain ⟨m, hm1, hm2, hm3, hm4⟩ := hw x
        rw [hm2]
        rcases Nat.le_total m i with hmi | hmi
        · have := stays hrun x m (i - m) (by omega) (fun j p h3 h4 hp hxw => hm4 j p h3 hp (hlo x hx j p (by omega) hp hxw) hxw)
          rw [show m + (i - m) = i by omega] at this
          exact this.symm
        · have := stays hrun x i (m - i) (by omega) (fun j p h3 h4 hp hxw => by
            have h5 := hm3 j p (by omega) hp hxw
            rcases Nat.lt_or_eq_of_le h3 with h6 | h6
            · rw [hhi x hx j p h6 hp hxw] at h5; cases h5
            · rw [← h6, hunf] at h5; cases h5)
          rw [show i + (m - i) = m by omega] at this
          exact this
      obtain ⟨o', r1, -, r3, r4, r5, r6, r7, r8, -⟩ := run_local (f i) _ s q (hrun i q hq) (fun x hx => hat x (.inl hx))
      have hall : AllP o'.ob := by rw [r6]; exact hob q (by rw [nth_eq] at hq; exact List.mem_of_getElem? hq)
      have hfresh : ∀ id ∈ o'.nw, E id = none := fun id hid => by
        rw [r5] at hid
        cases he : E id with
        | none => rfl
        | some x =>
          rcases h2 id (by rw [he]; simp) with h3 | ⟨j, p, hp, hl, hpi⟩
          · exact absurd (hfr id (List.mem_flatMap.2 ⟨q, by rw [nth_eq] at hq; exact List.mem_of_getElem? hq, hid⟩)) h3
          · -- two operations with one new name
            exfalso
            have hji : j ≠ i := fun e => by subst e; rw [hunf] at hl; cases hl
            have two : ∀ (l : List (Out Unit)) (i j : Nat) (p q : Out Unit), (l.flatMap (·.nw)).Nodup → i < j → nth l i = some p → nth l j = some q → id ∈ p.nw → id ∈ q.nw → False := by
              intro l
              induction l with
              | nil => intro i j p q _ _ h; simp [nth] at h
              | cons z l ih2 =>
                intro i j p q hn hij h3 h4 h5 h6
                rw [List.flatMap_cons, List.nodup_append] at hn
                cases i with
                | zero =>
                  simp only [nth, Option.some.injEq] at h3
                  subst h3
                  cases j with
                  | zero => omega
                  | succ j =>
                    simp only [nth] at h4
                    exact hn.2.2 id h5 id (List.mem_flatMap.2 ⟨q, by rw [nth_eq] at h4; exact List.mem_of_getElem? h4, h6⟩) rfl
                | succ i =>
                  cases j with
                  | zero => omega
                  | succ j => exact ih2 i j p q hn.2.1 (by omega) (by simpa [nth] using h3) (by simpa [nth] using h4) h5 h6
            rcases Nat.lt_or_gt_of_ne hji with h7 | h7
            · exact two outs j i p q hnw h7 hp hq hpi hid
            · exact two outs i j q p hnw h7 hq hp hid hpi
      have hstep := hop i o ho E s W a o' r1 hall hr hfresh (wpAny P .any ops Q fuel (L.setIfInBounds i true)) Q fun E' W' a' hx hr' hm' => by
        refine ih (L.setIfInBounds i true) E' o'.s W' a' (by have := left_set hun; omega) (by simpa using hL) (clo_set (by simpa using hL) hc (by simpa using hi2) hdep) (fun x => ?_) hr' (hm.trans hm') (fun id y hy => hx.1 id y (h1 id y hy)) (fun id he => ?_)
        · by_cases hxw : x ∈ q.wr
          · refine ⟨i + 1, by have := nth_lt hq; omega, ?_, fun j p hj hp hpw => ?_, fun j p hj hp hl => ?_⟩
            · rw [r7 x hxw]; simp only [stAt, hq]
            · rcases Nat.lt_or_eq_of_le (Nat.le_of_lt_succ hj) with h3 | h3
              · by_cases e : i = j
                · omega
                · rw [getD_other e]; exact hlo x (.inr hxw) j p h3 hp hpw
              · rw [h3]; exact getD_self (by omega) _
            · intro hpw
              rw [getD_other (by omega), hhi x (.inr hxw) j p (by omega) hp hpw] at hl
              cases hl
          · obtain ⟨m, hm1, hm2, hm3, hm4⟩ := hw x
            refine ⟨m, hm1, (r8 x hxw).trans hm2, fun j p hj hp hpw => ?_, fun j p hj hp hl => ?_⟩
            · by_cases e : i = j
              · rw [← e]; exact getD_self (by omega) _
              · rw [getD_other e]; exact hm3 j p hj hp hpw
            · by_cases e : i = j
              · subst e
                rw [hq] at hp
                obtain rfl := Option.some.inj hp
                exact hxw
              · rw [getD_other e] at hl; exact hm4 j p hj hp hl
        · rcases hx.2 id he with h3 | h3
          · refine (h2 id h3).imp_right fun ⟨j, p, hp, hl, hpi⟩ => ⟨j, p, hp, ?_, hpi⟩
            by_cases e : i = j
            · rw [← e]; exact getD_self (by omega) _
            · rw [getD_other e]; exact hl
          · rw [r5] at h3
            exact .inr ⟨i, q, hq, getD_self (by omega) _, h3⟩
      unfold wpOp
      simp only [ho]
      by_cases hwd : Region.wanted o (yielded ops a.tmps) = true
      · rw [if_pos hwd] at hstep ⊢
        exact .inl hstep
      · rw [if_neg hwd] at hstep ⊢
        exact hstep
end main
end Go.Proofs.Ytbgbjgedjmhcaaa
