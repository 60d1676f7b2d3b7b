/- The engine, part M: the way of a call, from point to point; loops; calls by contract. No conditions but those of each theorem. -/
import Derived.Scope
import Derived.Test.YtbgbjgedjmhcaaaSyL
namespace Go.Proofs.Ytbgbjgedjmhcaaa
open Go.RowKit
set_option linter.unusedVariables false
set_option linter.unusedSimpArgs false

/-! ### Regions -/
theorem wpOps_list {P : Program} {ops : Array Oper} {f : Nat → Ac Unit} {Q : Exit → Act → World → Prop} (hop : ∀ i o, ops[i]? = some o → OpOK P ops o (f i)) : ∀ (k i : Nat) (E : Env) (s : St) (W : World) (a : Act) (l : List (Out Unit)), i + k = ops.size → runR f k i s = some l → (∀ o ∈ l, AllP o.ob) → (l.flatMap (·.nw)).Nodup → (∀ id ∈ l.flatMap (·.nw), E id = none) → Rel E s W a →
    (∀ E' W' a', Ext E E' (l.flatMap (·.nw)) → Rel E' (stAt s l l.length) W' a' → Mod E s.heap W E' (stAt s l l.length).heap W' → Q .normal a' W') → wpOps P ops Q (List.range' i k) a W
  | 0, i, E, s, W, a, l, hi, hr, _, _, _, r, hQ => by
    simp only [runR, Option.some.injEq] at hr
    subst hr
    exact hQ E W a (Ext.refl E) r (Mod.refl _ _ _)
  | k + 1, i, E, s, W, a, l, hi, hr, hob, hnd, hfr, r, hQ => by
    simp only [runR] at hr
    split at hr
    · cases hr
    rename_i o ho
    split at hr
    · cases hr
    rename_i m hm
    simp only [Option.some.injEq] at hr
    subst hr
    rw [List.flatMap_cons, List.nodup_append] at hnd
    obtain ⟨op, hop'⟩ : ∃ op, ops[i]? = some op := ⟨ops[i], by simp [show i < ops.size by omega]⟩
    have hst := hop i op hop' E s W a o ho (hob o (by simp)) r (fun id hid => hfr id (by rw [List.flatMap_cons]; exact List.mem_append_left _ hid)) (wpOps P ops Q (List.range' (i + 1) k)) Q fun E' W' a' hx hr' hm' => by
      refine wpOps_list hop k (i + 1) E' o.s W' a' m (by omega) hm (fun x hx => hob x (List.mem_cons_of_mem _ hx)) hnd.2.1 (fun id hid => ?_) hr' fun E2 W2 a2 hx2 hr2 hm2 => ?_
      · cases he : E' id with
        | none => rfl
        | some x =>
          rcases hx.2 id (by rw [he]; simp) with h | h
          · exact absurd (hfr id (by rw [List.flatMap_cons]; exact List.mem_append_right _ hid)) h
          · exact absurd rfl (hnd.2.2 id h id hid)
      · have e : stAt s (o :: m) (o :: m).length = stAt o.s m m.length := by
          cases m with
          | nil => rfl
          | cons p m =>
            simp only [List.length_cons, stAt, nth]
            have : nth (p :: m) m.length ≠ none := by rw [nth_eq]; simp
            cases hq : nth (p :: m) m.length with
            | none => exact absurd hq this
            | some q => rfl
        refine hQ E2 W2 a2 (by rw [List.flatMap_cons]; exact hx.trans hx2) (by rw [e]; exact hr2) (by rw [e]; exact hm'.trans hm2)
    rw [List.range'_succ]
    simp only [wpOps, hop']
    by_cases hw : Region.wanted op (yielded ops a.tmps) = true
    · rw [if_pos hw] at hst ⊢; exact .inl hst
    · rw [if_neg hw] at hst ⊢; exact hst

/-- what a region that draws waits for, reckoned -/
def masks : List Oper → List Nat → List Nat
  | [], acc => acc
  | o :: l, acc => masks l (acc ++ [o.after.toList.foldl (fun m e => match Region.binds .any e with
      | true => (m ||| 2 ^ e.on) ||| (match nth acc e.on with | some q => q | none => 0)
      | false => m) 0])
/-- hints for a region: the first of the numbers for what is made; hints by operation -/
structure RHint where
  nx : Nat
  hs : List (Nat × Hint)
def hintOf : List (Nat × Hint) → Nat → Hint
  | [], _ => .none
  | (k, h) :: l, i => match k == i with
    | true => h
    | false => hintOf l i
def nodupB : List Nat → Bool
  | [] => true
  | x :: l => match l.contains x with
    | true => false
    | false => nodupB l
theorem nodupB_ok : ∀ {l : List Nat}, nodupB l = true → l.Nodup
  | [], _ => List.nodup_nil
  | x :: l, h => by
    unfold nodupB at h
    cases hc : l.contains x with
    | true => rw [hc] at h; cases h
    | false =>
      rw [hc] at h
      refine List.nodup_cons.2 ⟨fun hx => ?_, nodupB_ok h⟩
      rw [List.contains_iff_mem.2 hx] at hc; cases hc
def freshB (dom l : List Nat) : Bool := allB (fun x => !dom.contains x) l
def flat {α β : Type} (f : α → List β) : List α → List β
  | [] => []
  | x :: l => f x ++ flat f l
theorem flat_eq {α β : Type} (f : α → List β) : ∀ l, flat f l = l.flatMap f
  | [] => rfl
  | x :: l => by simp [flat, flat_eq f l]
def andP : List (List Prop) → List Prop
  | [] => []
  | p :: l => p ++ andP l
/-- a region: the state behind it, the names made, what is owed -/
def regA (P : Program) (ops : Array Oper) (draw : Bool) (h : RHint) (s : St) (dom : List Nat) : Option (St × List Nat × List Prop) :=
  match runR (stepA P ops (hintOf h.hs) h.nx) ops.toList.length 0 s with
  | none => none
  | some l => match nodupB (flat (·.nw) l), freshB dom (flat (·.nw) l), draw with
    | true, true, false => some (stAt s l l.length, flat (·.nw) l, flat (·.ob) l)
    | true, true, true => match maskB ops.toList (masks ops.toList []), apartB (masks ops.toList []) l with
      | true, true => some (stAt s l l.length, flat (·.nw) l, flat (·.ob) l)
      | _, _ => none
    | _, _, _ => none
theorem allP_flat : ∀ {l : List (Out Unit)}, AllP (flat (·.ob) l) → ∀ o ∈ l, AllP o.ob
  | [], _, o, h => by cases h
  | x :: l, h, o, ho => by
    simp only [flat, AllP.append] at h
    rcases List.mem_cons.1 ho with rfl | ho
    · exact h.1
    · exact allP_flat h.2 o ho
theorem reg_ok {P : Program} {id : Nat} {ops : Array Oper} {draw : Bool} {h : RHint} {s s' : St} {dom nw : List Nat} {ob : List Prop} (hmx : P.follows .mixedOrders = true) (hreg : regA P ops draw h s dom = some (s', nw, ob)) (hob : AllP ob) {E : Env} {W : World} {a : Act} (r : Rel E s W a) (hdom : ∀ id, E id ≠ none → id ∈ dom) :
    (Code.region id ops draw).wp P (fun e a' W' => e = .normal ∧ ∃ E', Ext E E' nw ∧ Rel E' s' W' a' ∧ Mod E s.heap W E' s'.heap W') a W := by
  unfold regA at hreg
  split at hreg
  · cases hreg
  rename_i l hl
  have hsz : ops.toList.length = ops.size := by simp
  obtain ⟨hlen, hat⟩ := runR_at _ _ _ _ _ hl
  have hrun : ∀ j o, nth l j = some o → (stepA P ops (hintOf h.hs) h.nx j).run (stAt s l j) = some o := fun j o hj => by
    obtain ⟨o', h1, h2⟩ := hat j (by rw [← hlen]; exact nth_lt hj)
    rw [hj] at h1
    obtain rfl := Option.some.inj h1
    simpa using h2
  have hfr : ∀ nw', freshB dom nw' = true → ∀ id ∈ nw', E id = none := fun nw' hf id hid => by
    have := allB_ok hf id hid
    cases he : E id with
    | none => rfl
    | some x =>
      have hd := hdom id (by rw [he]; simp)
      simp [hd] at this
  split at hreg
  · rename_i hnd hfresh
    simp only [Option.some.injEq, Prod.mk.injEq] at hreg
    obtain ⟨rfl, rfl, rfl⟩ := hreg
    have := wpOps_list (P := P) (ops := ops) (fun i o ho => step_ok ops (hintOf h.hs) h.nx i o ho) ops.toList.length 0 E s W a l (by simp) hl (allP_flat hob) (by rw [← flat_eq]; exact nodupB_ok hnd) (by rw [← flat_eq]; exact hfr _ hfresh) r
      (Q := fun e a' W' => e = .normal ∧ ∃ E', Ext E E' (flat (·.nw) l) ∧ Rel E' (stAt s l l.length) W' a' ∧ Mod E s.heap W E' (stAt s l l.length).heap W') fun E' W' a' hx hr' hm' => ⟨rfl, E', by rw [flat_eq]; exact hx, hr', hm'⟩
    refine wp_region ?_
    rw [List.range_eq_range', ← hsz]
    exact this
  · rename_i hnd hfresh
    split at hreg
    case h_2 => cases hreg
    rename_i hmask hap
    simp only [Option.some.injEq, Prod.mk.injEq] at hreg
    obtain ⟨rfl, rfl, rfl⟩ := hreg
    refine wp_region_any hmx ?_
    refine region_any (P := P) (ops := ops) (f := stepA P ops (hintOf h.hs) h.nx) (M := masks ops.toList []) (s0 := s) (outs := l) (E0 := E) (W0 := W) (by rw [hlen, hsz]) hrun hmask hap (allP_flat hob) (fun i o ho => step_ok ops _ _ i o ho) (by rw [← flat_eq]; exact nodupB_ok hnd) (by rw [← flat_eq]; exact hfr _ hfresh)
      (fun E' s'' W' a' hs hx hr' hm' => ⟨rfl, E', by rw [flat_eq]; exact hx, hr'.congr (fun x => (hs x).symm), hm'.congr (fun _ => rfl) (fun id => by have := hs (.ob id); simpa [St.at] using this.symm)⟩) ops.size (Array.replicate ops.size false) E s _ a (by rw [left_new]; exact Nat.le_refl _) (by simp) (fun i o _ hl => by
        rw [Array.getD_eq_getD_getElem?, Array.getElem?_replicate] at hl
        split at hl <;> simp at hl) (fun x => ⟨0, Nat.zero_le _, rfl, fun j o hj => by omega, fun j o _ _ hl => by
          rw [Array.getD_eq_getD_getElem?, Array.getElem?_replicate] at hl
          split at hl <;> simp at hl⟩) r.drew ⟨rfl, rfl, rfl, Nat.le_refl _, fun _ _ _ => rfl, fun id o b h1 h3 => .inl ⟨id, o, h1, fun h => h, h3⟩⟩ (fun _ _ h => h) (fun _ h => .inl h)
  · cases hreg

/-! ### The way -/
/-- from point to point by what is known: regions, conditions that are decided, exits -/
def runC (P : Program) : Nat → List RHint → List Item → St → List Nat → Option (List Item × St × List Nat × List Prop)
  | 0, _, todo, s, dom => some (todo, s, dom, [])
  | n + 1, hs, todo, s, dom => match todo with
    | .code c :: k => match c with
      | .skip => runC P n hs k s dom
      | .label _ => runC P n hs k s dom
      | .seq a b => runC P n hs (.code a :: .code b :: k) s dom
      | .block id c => runC P n hs (.code c :: .inBlock id :: k) s dom
      | .loop c => runC P n hs (.code c :: .inLoop c :: k) s dom
      | .scope c => runC P n hs (.code c :: .inScope c :: k) s dom
      | .goto l => match gotoIn l k with
        | some k' => runC P n hs k' s dom
        | none => none
      | .exit id => match exitTo id k with
        | some k' => runC P n hs k' s dom
        | none => none
      | .cond x a b => match x with
        | .tmp t => match nth s.slots t with
          | some (.val (.bool true)) => runC P n hs (.code a :: k) s dom
          | some (.val (.bool false)) => runC P n hs (.code b :: k) s dom
          | _ => none
        | .const (.bool true) => runC P n hs (.code a :: k) s dom
        | .const (.bool false) => runC P n hs (.code b :: k) s dom
        | _ => none
      | .region _ ops draw => match hs with
        | [] => none
        | h :: hs' => match regA P ops draw h s dom with
          | none => none
          | some (s', nw, ob) => match runC P n hs' k s' (nw ++ dom) with
            | none => none
            | some (k', s2, d2, ob2) => some (k', s2, d2, ob ++ ob2)
      | _ => none
    | .inBlock _ :: k => runC P n hs k s dom
    | .inLoop c :: k => runC P n hs (.code c :: .inLoop c :: k) s dom
    | .inScope _ :: k => runC P n hs k s dom
    | _ => none

/-- a call's end: what it owes to its contract -/
def EndOK (E0 : Env) (h0 : Hp) (W0 : World) (ret : AV) (outs : List (Nat × Option Ob)) (e : Ending) (W' : World) : Prop :=
  ∃ cv E', e = .returned cv ∧ Ext E0 E' (newIds h0 outs) ∧ RV E' ret cv ∧ RH E' (applyO h0 outs) W' ∧ Mod E0 h0 W0 E' (applyO h0 outs) W'
/-- from here on the call comes to its end -/
def Safe (P : Program) (f : FuncId) (h0 : Hp) (ret : AV) (outs : List (Nat × Option Ob)) (todo : List Item) (s : St) (dom : List Nat) : Prop :=
  ∀ (E0 : Env) (W0 : World) (E : Env) (W : World) (a : Act) (b : Frame) (cs : List Frame), b.fn = f → b.kind = .normal → RH E0 h0 W0 → (∀ id ∈ newIds h0 outs, E0 id = none) → (∀ id, hasId h0 id = true → E id = E0 id) → Rel E s W a → Mod E0 h0 W0 E s.heap W → (∀ id, E id ≠ none → id ∈ dom) →
    ∃ e W' fr, EndOK E0 h0 W0 ret outs e W' ∧ Comes P (lone (b.at a todo) cs W) (lone fr cs W') e ∧ fr.fn = f ∧ fr.leaving P W' e
theorem comes_of_steps {P : Program} {m m1 m' : Machine} {e : Ending} (h : Steps P m m1) (h' : Comes P m1 m' e) : Comes P m m' e := Comes.of_steps h h'
theorem Safe.step {P : Program} {f : FuncId} {h0 : Hp} {ret : AV} {outs : List (Nat × Option Ob)} {todo todo' : List Item} {s : St} {dom : List Nat} (hs : ∀ (b : Frame) (a : Act) (cs : List Frame) (W : World), (∀ t v, nth s.slots t = some v → ∃ E c, a.tmps[t]? = some c ∧ RV E v c) → step P (lone (b.at a todo) cs W) = .next (lone (b.at a todo') cs W)) (h : Safe P f h0 ret outs todo' s dom) : Safe P f h0 ret outs todo s dom := by
  intro E0 W0 E W a b cs h1 h2 h3 h4 h5 h6 h7 h8
  obtain ⟨e, W', fr, q1, q2, q3⟩ := h E0 W0 E W a b cs h1 h2 h3 h4 h5 h6 h7 h8
  exact ⟨e, W', fr, q1, comes_of_steps (.one (hs b a cs W fun t v ht => let ⟨c, hc, hv⟩ := h6.sl t v ht; ⟨E, c, hc, hv⟩)) q2, q3⟩
theorem Safe.run {P : Program} (hmx : P.follows .mixedOrders = true) {f : FuncId} {h0 : Hp} {ret : AV} {outs : List (Nat × Option Ob)} : ∀ (n : Nat) (hs : List RHint) (todo : List Item) (s : St) (dom : List Nat) {todo' : List Item} {s' : St} {dom' : List Nat} {ob : List Prop},
    (∀ id, hasId h0 id = true → id ∈ dom) → runC P n hs todo s dom = some (todo', s', dom', ob) → AllP ob → ((∀ id, hasId h0 id = true → id ∈ dom') → Safe P f h0 ret outs todo' s' dom') → Safe P f h0 ret outs todo s dom
  | 0, hs, todo, s, dom, todo', s', dom', ob, hd, h, _, hk => by
    simp only [runC, Option.some.injEq, Prod.mk.injEq] at h
    obtain ⟨rfl, rfl, rfl, rfl⟩ := h
    exact hk hd
  | n + 1, hs, todo, s, dom, todo', s', dom', ob, hd, h, hob, hk => by
    unfold runC at h
    split at h
    · rename_i c k
      split at h
      · exact Safe.step (fun b a cs W _ => step_skip) (Safe.run hmx n hs _ s dom hd h hob hk)
      · exact Safe.step (fun b a cs W _ => step_label) (Safe.run hmx n hs _ s dom hd h hob hk)
      · exact Safe.step (fun b a cs W _ => step_seq) (Safe.run hmx n hs _ s dom hd h hob hk)
      · exact Safe.step (fun b a cs W _ => step_block) (Safe.run hmx n hs _ s dom hd h hob hk)
      · exact Safe.step (fun b a cs W _ => step_loop) (Safe.run hmx n hs _ s dom hd h hob hk)
      · exact Safe.step (fun b a cs W _ => step_scope) (Safe.run hmx n hs _ s dom hd h hob hk)
      · split at h
        · rename_i k' hx
          exact Safe.step (fun b a cs W _ => step_goto hx) (Safe.run hmx n hs _ s dom hd h hob hk)
        · cases h
      · split at h
        · rename_i k' hx
          exact Safe.step (fun b a cs W _ => step_exit hx) (Safe.run hmx n hs _ s dom hd h hob hk)
        · cases h
      · rename_i x ca cb
        have hc : ∀ t, (∀ (b : Frame) (a : Act), (∀ t v, nth s.slots t = some v → ∃ E c, a.tmps[t]? = some c ∧ RV E v c) → a.eval x = .bool t) → runC P n hs (.code (if t then ca else cb) :: k) s dom = some (todo', s', dom', ob) → Safe P f h0 ret outs (.code (.cond x ca cb) :: k) s dom := fun t ht hr =>
          Safe.step (fun b a cs W hsl => step_cond (ht b a hsl)) (Safe.run hmx n hs _ s dom hd hr hob hk)
        split at h
        · rename_i t
          have key : ∀ t b', nth s.slots t = some (.val (.bool b')) → ∀ (b : Frame) (a : Act), (∀ t v, nth s.slots t = some v → ∃ E c, a.tmps[t]? = some c ∧ RV E v c) → a.eval (.tmp t) = .bool b' := fun t b' hv b a hsl => by
            obtain ⟨E, c, hc, hr⟩ := hsl t _ hv
            simp only [RV] at hr
            show a.tmps.getD t undef = _
            rw [Array.getD_eq_getD_getElem?, hc, ← hr]; rfl
          split at h
          · rename_i hv
            exact hc true (key _ _ hv) h
          · rename_i hv
            exact hc false (key _ _ hv) h
          · cases h
        · exact hc true (fun _ _ _ => rfl) h
        · exact hc false (fun _ _ _ => rfl) h
        · cases h
      · rename_i id ops draw
        split at h
        · cases h
        rename_i hh hs'
        split at h
        · cases h
        rename_i s1 nw ob1 hreg
        split at h
        · cases h
        rename_i k2 s2 d2 ob2 hr
        simp only [Option.some.injEq, Prod.mk.injEq] at h
        obtain ⟨rfl, rfl, rfl, rfl⟩ := h
        rw [AllP.append] at hob
        have hnext := Safe.run hmx n hs' k s1 (nw ++ dom) (fun id hid => List.mem_append_right _ (hd id hid)) hr hob.2 hk
        intro E0 W0 E W a b cs h1 h2 h3 h4 h5 h6 h7 h8
        obtain ⟨e, a', W', ⟨rfl, E', hx, hr', hm⟩, harr⟩ := reg_ok (id := id) hmx hreg hob.1 h6 h8 b k cs
        have hE : ∀ id, hasId h0 id = true → E' id = E0 id := fun id hid => by
          have h9 := h5 id hid
          cases he : E0 id with
          | some x => rw [hx.1 id x (by rw [h9, he])]
          | none =>
            exfalso
            unfold hasId at hid
            split at hid
            · rename_i o ho
              obtain ⟨y, hy⟩ := (h3.holds id o ho).bound
              rw [he] at hy; cases hy
            · cases hid
        obtain ⟨e, W2, fr, q1, q2, q3⟩ := hnext E0 W0 E' W' a' b cs h1 h2 h3 h4 hE hr' (h7.trans hm) (fun id he => (hx.2 id he).elim (fun h => List.mem_append_right _ (h8 id h)) (fun h => List.mem_append_left _ h))
        exact ⟨e, W2, fr, q1, comes_of_steps harr q2, q3⟩
      · cases h
    · exact Safe.step (fun b a cs W _ => step_inBlock) (Safe.run hmx n hs _ s dom hd h hob hk)
    · exact Safe.step (fun b a cs W _ => step_inLoop) (Safe.run hmx n hs _ s dom hd h hob hk)
    · exact Safe.step (fun b a cs W _ => step_inScope) (Safe.run hmx n hs _ s dom hd h hob hk)
    · cases h
end Go.Proofs.Ytbgbjgedjmhcaaa
