/- The engine, part C: what operations do, in names (loads, stores, fields, indexes, builds). No conditions but those of each theorem. -/
import Derived.Test.YtbgbjgedjmhcaaaSyB
import Derived.Laws.StructEq
import Derived.Laws.CopyRow
namespace Go.Proofs.Ytbgbjgedjmhcaaa
open Go.RowKit
set_option linter.unusedVariables false
set_option linter.unusedSimpArgs false

/-- a value is computed as its act says -/
def SemAt (P : Program) (E : Env) (s : St) (W : World) (sem : Sem Value) (c : Ac AV) : Prop :=
  ∀ out, c.run s = some out → AllP out.ob → (∀ id ∈ out.nw, E id = none) → out.s.slots = s.slots ∧ ∃ cv W' E', sem.run P W = .ok cv W' ∧ Ext E E' out.nw ∧ RV E' out.a cv ∧ RH E' out.s.heap W' ∧ Mod E s.heap W E' out.s.heap W'
section
variable {P : Program} {E : Env} {s : St} {W : World} {sem : Sem Value}
theorem SemAt.fail : SemAt P E s W sem .fail := fun out h => by simp [Ac.run] at h
theorem SemAt.ret (r : RH E s.heap W) {v : AV} {cv : Value} (h : sem.run P W = .ok cv W) (hv : RV E v cv) : SemAt P E s W sem (.ret v) := fun out ho _ _ => by
  simp only [Ac.run, Option.some.injEq] at ho
  subst ho
  exact ⟨rfl, cv, W, E, h, Ext.refl E, hv, r, Mod.refl _ _ _⟩
theorem SemAt.need {p : Prop} {k : Ac AV} (h : p → SemAt P E s W sem k) : SemAt P E s W sem (.need p k) := fun out ho hp hn => by
  simp only [Ac.run] at ho
  split at ho
  · cases ho
  · rename_i q hq
    simp only [Option.some.injEq] at ho
    subst ho
    exact h hp.1 q hq hp.2 hn
theorem SemAt.get {id : Nat} {k : Ob → Ac AV} (h : ∀ o, find s.heap id = some o → SemAt P E s W sem (k o)) : SemAt P E s W sem (.get id k) := fun out ho hp hn => by
  simp only [Ac.run] at ho
  split at ho
  · cases ho
  · rename_i o hf
    split at ho
    · cases ho
    · rename_i q hq
      simp only [Option.some.injEq] at ho
      subst ho
      exact h o hf q hq hp hn
end

/-- a value is read: nothing changes -/
def SemQ (P : Program) (E : Env) (s : St) (W : World) (sem : Sem Value) (c : Ac AV) : Prop :=
  ∀ out, c.run s = some out → AllP out.ob → out.s = s ∧ out.nw = [] ∧ ∃ cv, sem.run P W = .ok cv W ∧ RV E out.a cv
section
variable {P : Program} {E : Env} {s : St} {W : World} {sem : Sem Value}
theorem SemQ.fail : SemQ P E s W sem .fail := fun out h => by simp [Ac.run] at h
theorem SemQ.ret {v : AV} {cv : Value} (h : sem.run P W = .ok cv W) (hv : RV E v cv) : SemQ P E s W sem (.ret v) := fun out ho _ => by
  simp only [Ac.run, Option.some.injEq] at ho
  subst ho
  exact ⟨rfl, rfl, cv, h, hv⟩
theorem SemQ.need {p : Prop} {k : Ac AV} (h : p → SemQ P E s W sem k) : SemQ P E s W sem (.need p k) := fun out ho hp => by
  simp only [Ac.run] at ho
  split at ho
  · cases ho
  · rename_i q hq
    simp only [Option.some.injEq] at ho
    subst ho
    exact h hp.1 q hq hp.2
theorem SemQ.get {id : Nat} {k : Ob → Ac AV} (h : ∀ o, find s.heap id = some o → SemQ P E s W sem (k o)) : SemQ P E s W sem (.get id k) := fun out ho hp => by
  simp only [Ac.run] at ho
  split at ho
  · cases ho
  · rename_i o hf
    split at ho
    · cases ho
    · rename_i q hq
      simp only [Option.some.injEq] at ho
      subst ho
      exact h o hf q hq hp
theorem SemQ.at {c : Ac AV} (r : RH E s.heap W) (h : SemQ P E s W sem c) : SemAt P E s W sem c := fun out ho hp hn => by
  obtain ⟨h1, h2, cv, h3, h4⟩ := h out ho hp
  refine ⟨by rw [h1], cv, W, E, h3, by rw [h2]; exact Ext.refl E, h4, by rw [h1]; exact r, by rw [h1]; exact Mod.refl _ _ _⟩
end

theorem nw_set (E : Env) (id : Nat) (x : Option Addr × Nat) (hn : E id = none) : Ext E (fun y => if y = id then some x else E y) [id] := by
  refine ⟨fun y z h => ?_, fun y h => ?_⟩
  · have : y ≠ id := fun e => by rw [e, hn] at h; cases h
    simp only [if_neg this]; exact h
  · by_cases e : y = id
    · exact .inr (by simp [e])
    · simp only [if_neg e] at h; exact .inl h
theorem blkOf_ext {E E' : Env} (h : ∀ id x, E id = some x → E' id = some x) {id : Nat} {x : Option Addr × Nat} (hb : E id = some x) : blkOf E' id = blkOf E id := by
  simp only [blkOf, hb, h id x hb]
/-- one object has changed, or is new -/
theorem RH.change {E E' : Env} {h h' : Hp} {W W' : World} {id : Nat} {o : Ob} {nw : List Nat} {row : Option Nat} (r : RH E h W) (hx : Ext E E' nw) (g : W.grownBy W' row)
    (hrow : ∀ b, row = some b → ∃ id0 o0, find h id0 = some o0 ∧ o0.owned = true ∧ Foot E W id0 o0 b ∧ (id0 = id ∨ find h' id0 = none))
    (hf : find h' id = some o) (hrest : ∀ x, x ≠ id → ∀ y, find h' x = some y → find h x = some y) (hh : Holds E' W' id o) (hb : ∀ b, Foot E' W' id o b → row = some b ∨ W.heap.size ≤ b) : RH E' h' W' ∧ Mod E h W E' h' W' := by
  have hbx0 : ∀ x y, x ≠ id → find h' x = some y → blkOf E' x = blkOf E x ∧ Holds E W x y ∧ find h x = some y := fun x y hne hxy => by
    have h1 := r.holds x y (hrest x hne y hxy)
    obtain ⟨z, hz⟩ := h1.bound
    exact ⟨blkOf_ext hx.1 hz, h1, hrest x hne y hxy⟩
  have hnr : ∀ x y b, x ≠ id → find h' x = some y → Foot E W x y b → row ≠ some b := fun x y b hne hxy hxb hr => by
    obtain ⟨id0, o0, h1, h2, h3, h4⟩ := hrow b hr
    have : id0 ≠ x := by
      rcases h4 with h4 | h4
      · rw [h4]; exact fun e => hne e.symm
      · intro e; rw [e, hxy] at h4; cases h4
    exact r.apart id0 x o0 y h1 (hbx0 x y hne hxy).2.2 this h2 b h3 hxb
  have hbx : ∀ x y, x ≠ id → find h' x = some y → (∀ b, Foot E' W' x y b → Foot E W x y b) ∧ Holds E W x y ∧ find h x = some y ∧ Holds E' W' x y := fun x y hne hxy => by
    obtain ⟨h1, h2, h3⟩ := hbx0 x y hne hxy
    have hk : ∀ b, Foot E W x y b → W'.heap[b]? = W.heap[b]? := fun b hb' => g.block b (Holds.blk_lt hb' h2) fun hr => hnr x y b hne hxy hb' hr.symm
    exact ⟨fun b hb' => Foot.kept g.size hk h2 b (hb'.cg h1.symm), h2, h3, (h2.kept g.size hk).mono hx.1⟩
  refine ⟨⟨fun x y hxy => ?_, fun x1 x2 o1 o2 h1 h2 hne ho b hb1 hb2 => ?_⟩, ⟨g.os, g.tape, g.output, g.size, fun b hlt hno => ?_, fun x y b h1 h3 => ?_⟩⟩
  · by_cases e : x = id
    · subst e
      rw [hf] at hxy
      obtain rfl := Option.some.inj hxy
      exact hh
    · exact (hbx x y e hxy).2.2.2
  · by_cases e1 : x1 = id
    · subst e1
      rw [hf] at h1
      obtain rfl := Option.some.inj h1
      have e2 : x2 ≠ x1 := fun e => hne e.symm
      obtain ⟨k1, k2, k3, _⟩ := hbx x2 o2 e2 h2
      have hb2 := k1 b hb2
      rcases hb b hb1 with hr | hr
      · exact hnr x2 o2 b e2 h2 hb2 hr
      · have := Holds.blk_lt hb2 k2; omega
    · obtain ⟨k1, k2, k3, _⟩ := hbx x1 o1 e1 h1
      have hb1 := k1 b hb1
      by_cases e2 : x2 = id
      · subst e2
        rw [hf] at h2
        obtain rfl := Option.some.inj h2
        rcases hb b hb2 with hr | hr
        · exact hnr x1 o1 b e1 h1 hb1 hr
        · have := Holds.blk_lt hb1 k2; omega
      · obtain ⟨q1, q2, q3, _⟩ := hbx x2 o2 e2 h2
        exact r.apart x1 x2 o1 o2 k3 q3 hne ho b hb1 (q1 b hb2)
  · refine g.block b hlt fun hr => ?_
    obtain ⟨id0, o0, h1, h2, h3, _⟩ := hrow b hr.symm
    exact hno id0 o0 h1 h2 h3
  · by_cases e : x = id
    · subst e
      rw [hf] at h1
      obtain rfl := Option.some.inj h1
      rcases hb b h3 with hr | hr
      · obtain ⟨id0, o0, k1, k2, k3, _⟩ := hrow b hr
        exact .inl ⟨id0, o0, k1, fun _ => k2, k3⟩
      · exact .inr hr
    · obtain ⟨k1, k2, k3, _⟩ := hbx x y e h1
      exact .inl ⟨x, y, k3, fun h => h, k1 b h3⟩

section
variable {P : Program} {E : Env} {s : St} {W : World} {sem : Sem Value}
/-- a new object -/
theorem SemAt.new (r : RH E s.heap W) {id k : Nat} {o : Ob} {v : AV} {cv : Value} {ob : Obj} (h : sem.run P W = .ok cv (W.alloc ob))
    (hh : ∀ E', (∀ i x, E i = some x → E' i = some x) → E' id = some (some ⟨W.heap.size, 0, none⟩, k) → Holds E' (W.alloc ob) id o ∧ RV E' v cv) (hbx : o.bx = none := by rfl) : SemAt P E s W sem (.new id o (.ret v)) := fun out ho _ hn => by
  simp only [Ac.run] at ho
  split at ho
  · cases ho
  · rename_i hf
    simp only [Option.some.injEq] at ho
    subst ho
    have hne := hn id (by simp)
    have hx := nw_set E id (some ⟨W.heap.size, 0, none⟩, k) hne
    obtain ⟨h1, h2⟩ := hh _ hx.1 (by simp)
    obtain ⟨q1, q2⟩ := RH.change (h' := upd s.heap id o) r hx (World.grownBy_alloc W ob none) (fun b hb => by cases hb) (by rw [find_upd]; simp) (fun x hx' y hy => by rw [find_upd, if_neg (fun e => hx' e.symm)] at hy; exact hy) h1 (fun b hb => .inr (by simp [Foot, hbx, FootB, blkOf] at hb; omega))
    exact ⟨rfl, cv, _, _, h, hx, h2, q1, q2⟩
/-- an object is written -/
theorem SemAt.put (r : RH E s.heap W) {id : Nat} {o o0 : Ob} {v : AV} {cv : Value} {W' : World} {b : Nat} (hf : find s.heap id = some o0) (ho : o0.owned = true) (hb : blkOf E id = some b) (h : sem.run P W = .ok cv W') (g : W.grownBy W' (some b))
    (hh : Holds E W' id o) (hv : RV E v cv) (hbx : o.bx = none := by rfl) (hbx0 : o0.bx = none := by rfl) : SemAt P E s W sem (.put id o (.ret v)) := fun out ho' _ hn => by
  simp only [Ac.run, hf, Option.some.injEq] at ho'
  subst ho'
  obtain ⟨q1, q2⟩ := RH.change (h' := upd s.heap id o) r (Ext.refl E) g (fun b' hb' => by cases hb'; exact ⟨id, o0, hf, ho, by simp only [Foot, hbx0, FootB]; exact hb, .inl rfl⟩) (by rw [find_upd]; simp) (fun x hx' y hy => by rw [find_upd, if_neg (fun e => hx' e.symm)] at hy; exact hy) hh (fun b' hb' => .inl (by simp only [Foot, hbx, FootB] at hb'; rw [hb] at hb'; exact hb'))
  exact ⟨rfl, cv, W', E, h, Ext.refl E, hv, q1, q2⟩
end

/-! ### Places -/
def tySize (P : Program) (t : TypeId) : Option Nat := match P.info? t with
  | some i => some i.size
  | none => none
def tyAgg (P : Program) (t : TypeId) : Option Bool := match P.underlying t with
  | some (.struct _) => some true
  | some (.array _ _) => some true
  | some _ => some false
  | none => none
theorem run_isAgg {P : Program} {t : TypeId} {b : Bool} (h : tyAgg P t = some b) (W : World) : (isAgg t).run P W = .ok b W := by
  unfold tyAgg at h
  unfold isAgg
  cases hu : P.underlying t with
  | none => rw [hu] at h; cases h
  | some d =>
    rw [hu] at h
    rw [Sem.run_bind, run_underlying hu]
    cases d <;> simp_all
theorem run_size {P : Program} {t : TypeId} {n : Nat} (h : tySize P t = some n) (W : World) : (sizeOf t).run P W = .ok n W := by
  unfold tySize at h
  cases hi : P.info? t with
  | none => rw [hi] at h; cases h
  | some i =>
    rw [hi] at h
    simp only [Option.some.injEq] at h
    simp [sizeOf, typeInfo, hi, h]
def lenGe {α : Type} : List α → Nat → Bool
  | _, 0 => true
  | [], _ + 1 => false
  | _ :: l, n + 1 => lenGe l n
theorem lenGe_ok {α : Type} : ∀ {l : List α} {n : Nat}, lenGe l n = true → n ≤ l.length
  | _, 0, _ => Nat.zero_le _
  | [], n + 1, h => by simp [lenGe] at h
  | _ :: l, n + 1, h => by have := lenGe_ok (l := l) (n := n) (by simpa [lenGe] using h); simp; omega
/-- the value of type t whose cells begin here -/
def partA (P : Program) (t : TypeId) (cs : List AV) : Ac AV := match tyAgg P t with
  | some true => match tySize P t with
    | some n => match lenGe cs n with
      | true => .ret (.agg (cs.take n))
      | false => .fail
    | none => .fail
  | some false => match cs with
    | v :: _ => .ret v
    | [] => .fail
  | none => .fail
/-- the cells from a place on -/
def winA (o : Ob) (i es j : Nat) (k : List AV → Ac AV) : Ac AV := match o with
  | .blk _ cs => match i with
    | 0 => k (cs.drop j)
    | _ + 1 => .fail
  | .vec _ es' n row => match es == es' with
    | true => .need (i < n) (k ((row i).drop j))
    | false => .fail
  | .ro es' n row => match es == es' with
    | true => .need (i < n) (k ((row i).drop j))
    | false => .fail
  | .obj _ => .fail
  | .box _ => .fail
theorem cellsAt_get {xs : List Value} {es i d : Nat} {u : Value} (h : (cellsAt xs es i)[d]? = some u) : xs[i * es + d]? = some u := by
  unfold cellsAt at h
  rw [List.getElem?_take] at h
  split at h
  · rwa [List.getElem?_drop] at h
  · cases h
section
variable {P : Program} {E : Env} {s : St} {W : World} {sem : Sem Value}
theorem win_ok {id : Nat} {o : Ob} (hh : Holds E W id o) (i es j : Nat) (k : List AV → Ac AV)
    (h : ∀ a kk cs (xs : List Value), E id = some (some a, kk) → RVs E cs xs → (∀ d u, xs[d]? = some u → W.cell? ⟨a.block, a.off + (i * es + j) + d, none⟩ = some u) → SemQ P E s W sem (k cs)) : SemQ P E s W sem (winA o i es j k) := by
  cases o with
  | obj m => exact SemQ.fail
  | box B => exact SemQ.fail
  | blk ty cs =>
    obtain ⟨b, kk, xs, h1, h2, h3, _⟩ := hh
    unfold winA
    cases i with
    | succ i => exact SemQ.fail
    | zero =>
      refine h ⟨b, 0, none⟩ kk _ (xs.drop j) h1 (h3.drop j) fun d u hu => ?_
      rw [List.getElem?_drop] at hu
      simp only [Nat.zero_mul, Nat.zero_add]
      rw [cell_of_row W b _ _ _ _ h2]
      simpa using hu
  | vec ty es' n row =>
    obtain ⟨b, kk, xs, h1, h2, h3, h4⟩ := hh
    unfold winA
    dsimp only
    cases he : es == es' with
    | false => exact SemQ.fail
    | true =>
      dsimp only
      have he' : es = es' := by simpa using he
      subst he'
      refine SemQ.need fun hi => ?_
      have hlt := h4 i hi
      cases b with
      | none =>
        have h5 := h2.2
        rcases h5 with ⟨_, h0⟩ | ⟨g, cap, cur, hv, _⟩
        · omega
        · simp at hv
      | some a =>
        have h5 := h2.cells (g := a.block) rfl
        have hoff : a.off = 0 := by
          rcases h2.2 with ⟨hv, _⟩ | ⟨g, cap, cur, hv, _⟩
          · simp at hv
          · simp only [Value.slice.injEq, Option.some.injEq] at hv; rw [hv.1]
        refine h a kk _ ((cellsAt xs es i).drop j) h1 (hlt.drop j) fun d u hu => ?_
        rw [List.getElem?_drop] at hu
        have := h5 _ u (cellsAt_get hu)
        have hadd : (⟨a.block, 0, none⟩ : Addr).add (i * es + (j + d)) = ⟨a.block, a.off + (i * es + j) + d, none⟩ := by
          rw [hoff]
          unfold Addr.add
          split
          · rename_i h0; simp at h0; simp [h0]
          · simp; omega
        rwa [hadd] at this
  | ro es' n row =>
    obtain ⟨b, kk, xs, h1, h2, h3, h4, h5⟩ := hh
    unfold winA
    dsimp only
    cases he : es == es' with
    | false => exact SemQ.fail
    | true =>
      dsimp only
      have he' : es = es' := by simpa using he
      subst he'
      refine SemQ.need fun hi => ?_
      have hlt := h5 i hi
      rcases h3 with ⟨_, h0, _⟩ | ⟨a, rfl, h6, h7, h8⟩
      · omega
      · refine h a kk _ ((cellsAt xs es i).drop j) h1 (hlt.drop j) fun d u hu => ?_
        rw [List.getElem?_drop] at hu
        have := h8 _ u (cellsAt_get hu)
        rwa [show a.off + (i * es + (j + d)) = a.off + (i * es + j) + d by omega] at this
theorem add_at (a : Addr) (n d : Nat) : (⟨a.block, n, none⟩ : Addr).add d = ⟨a.block, n + d, none⟩ := by
  unfold Addr.add
  split
  · rename_i h; simp [h]
  · rfl
/-- a variable is read -/
def loadA (P : Program) (t : TypeId) (v : AV) : Ac AV := match v with
  | .ptr id i es j => .get id fun o => winA o i es j (partA P t)
  | _ => .fail
theorem loadVar_ok {t : TypeId} {a : Addr} {n : Nat} {cs : List AV} {xs : List Value} (hc : RVs E cs xs) (hm : ∀ d u, xs[d]? = some u → W.cell? ⟨a.block, n + d, none⟩ = some u) (hs : sem.run P W = (loadVar t ⟨a.block, n, none⟩).run P W) : SemQ P E s W sem (partA P t cs) := by
  unfold partA
  cases hg : tyAgg P t with
  | none => exact SemQ.fail
  | some b =>
    cases b with
    | true =>
      dsimp only
      cases hz : tySize P t with
      | none => exact SemQ.fail
      | some z =>
        dsimp only
        cases hl : lenGe cs z with
        | false => exact SemQ.fail
        | true =>
          dsimp only
          have hlen := lenGe_ok hl
          have hx : (xs.take z).length = z := by rw [List.length_take, hc.length]; omega
          have hrun : (loadCells ⟨a.block, n, none⟩ (xs.take z).length).run P W = .ok (xs.take z).toArray W := run_loadCells_list (P := P) W _ _ fun d u hu => by
            rw [List.getElem?_take] at hu
            split at hu
            · rw [add_at]; exact hm d u hu
            · cases hu
          rw [hx] at hrun
          refine SemQ.ret (cv := .agg (xs.take z).toArray) ?_ ?_
          · rw [hs]
            simp only [loadVar, Sem.run_bind, run_isAgg hg, run_size hz, Result.andThen_ok, if_true, hrun, Sem.run_pure]
          · simp only [RV]
            exact ⟨_, rfl, hc.take z⟩
    | false =>
      dsimp only
      cases cs with
      | nil => exact SemQ.fail
      | cons v l =>
        simp only [RVs] at hc
        obtain ⟨y, m, rfl, h1, h2⟩ := hc
        refine SemQ.ret (cv := y) ?_ h1
        rw [hs]
        have := hm 0 y rfl
        simp only [loadVar, Sem.run_bind, run_isAgg hg, Result.andThen_ok, Bool.false_eq_true, if_false, run_load, Nat.add_zero] at this ⊢
        rw [this]
theorem load_q (r : RH E s.heap W) {t : TypeId} {v : AV} {c : Value} (h : RV E v c) : SemQ P E s W (Instr.loadAt t c) (loadA P t v) := by
  unfold loadA
  split
  · rename_i id i es j
    refine SemQ.get fun o ho => win_ok (r.holds id o ho) i es j _ fun a kk cs xs h1 h2 h3 => ?_
    simp only [RV] at h
    obtain ⟨a', k', e, rfl⟩ := h
    rw [e] at h1
    obtain ⟨rfl, rfl⟩ : a' = a ∧ k' = kk := by simpa using h1
    refine loadVar_ok h2 h3 ?_
    simp only [Instr.loadAt, Instr.sureAddr, Sem.run_bind, Sem.run_pure, Result.andThen_ok]
  · exact SemQ.fail
theorem load_ok (r : RH E s.heap W) {t : TypeId} {v : AV} {c : Value} (h : RV E v c) : SemAt P E s W (Instr.loadAt t c) (loadA P t v) := (load_q r h).at r
end
end Go.Proofs.Ytbgbjgedjmhcaaa
