/- The engine, part R: a state under other names. No conditions but those of each theorem. -/
import Derived.Test.YtbgbjgedjmhcaaaSyQ
namespace Go.Proofs.Ytbgbjgedjmhcaaa
open Go.RowKit
set_option linter.unusedVariables false
set_option linter.unusedSimpArgs false
section
variable {P : Program} {f : FuncId} {h0 : Hp} {ret : AV} {outs : List (Nat × Option Ob)} {todo : List Item} {sl : List AV} {hp : Hp} {dom : List Nat}
theorem renL_length (σ : List (Nat × Nat)) : ∀ l, (renL σ l).length = l.length
  | [] => rfl
  | x :: l => by simp [renL, renL_length σ l]
theorem renL_nth (σ : List (Nat × Nat)) : ∀ (l : List AV) (t : Nat) (v : AV), nth (renL σ l) t = some v → ∃ u, nth l t = some u ∧ v = renV σ u
  | [], t, v, h => by simp [renL, nth] at h
  | x :: l, 0, v, h => by simp only [renL, nth, Option.some.injEq] at h; exact ⟨x, rfl, h.symm⟩
  | x :: l, t + 1, v, h => by simp only [renL, nth] at h ⊢; exact renL_nth σ l t v h
def fixB' (σ : List (Nat × Nat)) (l : List Nat) : Bool := allB (fun x => rn σ x == x) l
/-- the same state under other names; the names of the call's own memory stay -/
theorem Safe.ren (σ : List (Nat × Nat)) (hnd : nodupB (mapN σ dom) = true) (hfix : fixB' σ (idsOf h0) = true) (hd : subB (idsOf h0) dom = true) (hcl : closedL dom sl = true) (hch : closedH dom hp) (h : Safe P f h0 ret outs todo ⟨renL σ sl, renH σ hp⟩ (mapN σ dom)) : Safe P f h0 ret outs todo ⟨sl, hp⟩ dom := by
  intro E0 W0 E W a b cs h1 h2 h3 h4 h5 h6 h7 h8
  have inj : ∀ a b, a ∈ dom → b ∈ dom → rn σ a = rn σ b → a = b := fun a b ha hb e => by
    have hd := nodupB_ok hnd
    rw [mapN_eq] at hd
    obtain ⟨i, hi, rfl⟩ := List.getElem_of_mem ha
    obtain ⟨j, hj, rfl⟩ := List.getElem_of_mem hb
    by_cases hij : i = j
    · subst hij; rfl
    · exfalso
      have := (List.nodup_iff_pairwise_ne.1 hd)
      rcases Nat.lt_or_gt_of_ne hij with hlt | hlt
      · exact List.pairwise_iff_getElem.1 this i j (by simpa using hi) (by simpa using hj) hlt (by simpa using e)
      · exact List.pairwise_iff_getElem.1 this j i (by simpa using hj) (by simpa using hi) hlt (by simpa using e.symm)
  obtain ⟨E', hE'⟩ : ∃ E' : Env, ∀ y, E' y = match dom.find? (fun i => rn σ i == y) with | some i => E i | none => none := ⟨fun y => match dom.find? (fun i => rn σ i == y) with | some i => E i | none => none, fun _ => rfl⟩
  have e2 : ∀ id, id ∈ dom → E id = E' (rn σ id) := fun id hid => by
    rw [hE']
    cases hq : dom.find? (fun i => rn σ i == rn σ id) with
    | some i =>
      have g1 := List.find?_some hq
      have g2 := List.mem_of_find?_eq_some hq
      rw [inj i id g2 hid (by simpa using g1)]
    | none =>
      have := List.find?_eq_none.1 hq id hid
      simp at this
  have hs : ∀ id ∈ idsOf hp, id ∈ dom := fun id hid => by
    have := idsOf_mem.1 hid
    unfold hasId at this
    split at this
    · rename_i o ho; exact (closedH_at hch id o ho).1
    · cases this
  have hbl : ∀ k, k ∈ dom → blkOf E' (rn σ k) = blkOf E k := fun k hk => by simp only [blkOf, e2 k hk]
  have rh : RH E' (renH σ hp) W := by
    refine ⟨fun y o' hf => ?_, fun y z o' p' hy hz hne hw b hb hb2 => ?_⟩
    · obtain ⟨id, hid, rfl⟩ := ren_ids _ _ _ hf
      have hidN := hs id hid
      rw [find_ren inj _ hs id hidN] at hf
      cases hfo : find hp id with
      | none => rw [hfo] at hf; cases hf
      | some o =>
        rw [hfo] at hf
        simp only [Option.map_some, Option.some.injEq] at hf
        rw [← hf]
        exact (renO_iff e2 hidN o (closedH_at hch id o hfo).2).2 (h6.hp.holds id o hfo)
    · obtain ⟨i, hi, rfl⟩ := ren_ids _ _ _ hy
      obtain ⟨j, hj, rfl⟩ := ren_ids _ _ _ hz
      rw [find_ren inj _ hs i (hs i hi)] at hy
      rw [find_ren inj _ hs j (hs j hj)] at hz
      cases hfi : find hp i with
      | none => rw [hfi] at hy; cases hy
      | some o =>
        cases hfj : find hp j with
        | none => rw [hfj] at hz; cases hz
        | some p =>
          rw [hfi] at hy
          rw [hfj] at hz
          simp only [Option.map_some, Option.some.injEq] at hy hz
          rw [← hy, renO_owned] at hw
          rw [← hy] at hb
          rw [← hz] at hb2
          exact h6.hp.apart i j o p hfi hfj (fun e => hne (by rw [e])) hw b (hb.congr (renO_bx σ o).symm (hbl i (hs i hi)).symm) (hb2.congr (renO_bx σ p).symm (hbl j (hs j hj)).symm)
  have hfx : ∀ id, hasId h0 id = true → rn σ id = id ∧ id ∈ dom := fun id hid => by
    have := allB_ok hfix id (idsOf_mem.2 hid)
    exact ⟨by simpa using this, subB_ok hd id (idsOf_mem.2 hid)⟩
  refine h E0 W0 E' W a b cs h1 h2 h3 h4 (fun id hid => ?_) ⟨by rw [h6.size]; exact (renL_length σ sl).symm, fun t v ht => ?_, h6.df, rh⟩ ⟨h7.os, h7.tape, h7.output, h7.size, h7.old, fun y o' b hf hb => ?_⟩ (fun y hy => ?_)
  · obtain ⟨g1, g2⟩ := hfx id hid
    rw [← h5 id hid, e2 id g2, g1]
  · obtain ⟨u, hu, rfl⟩ := renL_nth σ sl t v ht
    obtain ⟨c, c1, c2⟩ := h6.sl t u hu
    refine ⟨c, c1, (renV_iff e2 u c ?_).2 c2⟩
    have : ∀ (l : List AV), closedL dom l = true → ∀ t v, nth l t = some v → closedV dom v = true := by
      intro l
      induction l with
      | nil => intro _ t v h; simp [nth] at h
      | cons x l ih =>
        intro hl t v hv
        simp only [closedL, Bool.and_eq_true] at hl
        cases t with
        | zero => simp only [nth, Option.some.injEq] at hv; subst hv; exact hl.1
        | succ t => exact ih hl.2 t v (by simpa [nth] using hv)
    exact this _ hcl t u hu
  · obtain ⟨id, hid, rfl⟩ := ren_ids _ _ _ hf
    rw [find_ren inj _ hs id (hs id hid)] at hf
    cases hfo : find hp id with
    | none => rw [hfo] at hf; cases hf
    | some o =>
      rw [hfo] at hf
      simp only [Option.map_some, Option.some.injEq] at hf
      rw [← hf] at hb
      refine (h7.own id o b hfo (hb.congr (renO_bx σ o).symm (hbl id (hs id hid)).symm)).imp_left fun ⟨j, p, p1, p2, p3⟩ => ⟨j, p, p1, fun hw => p2 (by rw [← renO_owned σ, hf]; exact hw), p3⟩
  · rw [hE'] at hy
    cases hq : dom.find? (fun i => rn σ i == y) with
    | some i =>
      rw [mapN_eq]
      exact List.mem_map.2 ⟨i, List.mem_of_find?_eq_some hq, by simpa using List.find?_some hq⟩
    | none => rw [hq] at hy; exact absurd rfl hy
/-- a nil slice as a slice of the call's own that holds nothing -/
theorem Safe.nil (t id ty es : Nat) (row : Nat → List AV) (hs : nth sl t = some (.val (.slice none 0 0))) (hid : dom.contains id = false) (hdm : closedH dom hp) (h : Safe P f h0 ret outs todo ⟨setN sl t (.sl id 0 es 0 none), (id, .vec ty es 0 row) :: hp⟩ (id :: dom)) (hz : subB (idsOf h0) dom = true) : Safe P f h0 ret outs todo ⟨sl, hp⟩ dom := by
  intro E0 W0 E W a b cs h1 h2 h3 h4 h5 h6 h7 h8
  have hn : E id = none := by
    cases he : E id with
    | none => rfl
    | some x =>
      have := h8 id (by rw [he]; simp)
      rw [List.contains_iff_mem.2 this] at hid; cases hid
  have hx := nw_set E id (none, 0) hn
  have hfind : ∀ x, find ((id, .vec ty es 0 row) :: hp) x = if id == x then some (.vec ty es 0 row) else find hp x := fun x => by simp only [find]
  have hnone : find hp id = none := by
    cases hf : find hp id with
    | none => rfl
    | some o =>
      have := (closedH_at hdm id o hf).1
      rw [List.contains_iff_mem.2 this] at hid; cases hid
  have hbl : blkOf (fun y => if y = id then some (none, 0) else E y : Env) id = none := by simp [blkOf]
  have hblo : ∀ x, x ≠ id → blkOf (fun y => if y = id then some (none, 0) else E y : Env) x = blkOf E x := fun x hx => by simp only [blkOf, if_neg hx]
  have rh : RH (fun y => if y = id then some (none, 0) else E y : Env) ((id, .vec ty es 0 row) :: hp) W := by
    refine ⟨fun x o ho => ?_, fun i j o p hi hj hne hw b hb hb2 => ?_⟩
    · rw [hfind] at ho
      by_cases e : id = x
      · subst e
        simp only [beq_self_eq_true, if_true, Option.some.injEq] at ho
        subst ho
        exact ⟨none, 0, [], by simp, World.ownsRow_nil _ _ _ _, (fun u hu => by cases hu), fun q hq => by omega⟩
      · rw [if_neg (by simpa using e)] at ho
        exact (h6.hp.holds x o ho).mono hx.1
    · by_cases ei : i = id
      · subst ei; exact hb.none hbl
      · by_cases ej : j = id
        · subst ej; exact hb2.none hbl
        · rw [hfind, if_neg (by simpa using Ne.symm ei)] at hi
          rw [hfind, if_neg (by simpa using Ne.symm ej)] at hj
          exact h6.hp.apart i j o p hi hj hne hw b (hb.cg (hblo i ei).symm) (hb2.cg (hblo j ej).symm)
  refine h E0 W0 _ W a b cs h1 h2 h3 h4 (fun x hx' => ?_) ⟨by rw [h6.size, setN_eq]; simp, fun u v hu => ?_, h6.df, rh⟩ ⟨h7.os, h7.tape, h7.output, h7.size, h7.old, fun x o b hf hb => ?_⟩ (fun y hy => ?_)
  · have hxd := subB_ok hz x (idsOf_mem.2 hx')
    have : x ≠ id := fun e => by subst e; rw [List.contains_iff_mem.2 hxd] at hid; cases hid
    simp only [if_neg this]; exact h5 x hx'
  · simp only [nth_eq, setN_eq] at hu
    rw [List.getElem?_set] at hu
    by_cases e : t = u
    · subst e
      rw [if_pos rfl] at hu
      split at hu
      · simp only [Option.some.injEq] at hu
        subst hu
        obtain ⟨c, c1, c2⟩ := h6.sl t _ hs
        simp only [RV] at c2
        refine ⟨c, c1, ?_⟩
        simp only [RV]
        exact ⟨none, 0, by simp, none, c2, rfl, rfl⟩
      · cases hu
    · rw [if_neg e] at hu
      obtain ⟨c, c1, c2⟩ := h6.sl u v (by rw [nth_eq]; exact hu)
      exact ⟨c, c1, RV.mono hx.1 _ _ c2⟩
  · by_cases e : x = id
    · subst e; exact (hb.none hbl).elim
    · rw [hfind, if_neg (by simpa using Ne.symm e)] at hf
      exact h7.own x o b hf (hb.cg (hblo x e).symm)
  · by_cases e : y = id
    · rw [e]; exact List.mem_cons_self ..
    · simp only [if_neg e] at hy
      exact List.mem_cons_of_mem _ (h8 y hy)
/-- the way's point behind n steps without a condition -/
def skipTo : Nat → List Item → List Item
  | 0, t => t
  | n + 1, .code c :: k => match c with
    | .seq a b => skipTo n (.code a :: .code b :: k)
    | .block id c => skipTo n (.code c :: .inBlock id :: k)
    | .loop c => skipTo n (.code c :: .inLoop c :: k)
    | .scope c => skipTo n (.code c :: .inScope c :: k)
    | _ => skipTo n k
  | n + 1, _ :: k => skipTo n k
  | _, [] => []
def bodyOf (fn : Func) : List Item := match fn.body with
  | some c => [.code c]
  | none => []
/-- the way's point ahead of a region -/
def regionIn : Code → List Item → Nat → Option (List Item)
  | .region id ops d, k, r => match Nat.beq id r with
    | true => some (.code (.region id ops d) :: k)
    | false => none
  | .seq a b, k, r => match regionIn a (.code b :: k) r with
    | some t => some t
    | none => regionIn b k r
  | .cond _ a b, k, r => match regionIn a k r with
    | some t => some t
    | none => regionIn b k r
  | .block id c, k, r => regionIn c (.inBlock id :: k) r
  | .scope c, k, r => regionIn c (.inScope c :: k) r
  | .loop c, k, r => regionIn c (.inLoop c :: k) r
  | _, _, _ => none
def regionAt (fn : Func) (r : Nat) : List Item := match fn.body with
  | some c => match regionIn c [] r with
    | some t => t
    | none => []
  | none => []
/-- a truth value that is not seen: both ways -/
theorem Safe.any (t : Nat) {p q : Prop} (hs : nth sl t = some (.anyB p q)) (h1 : p → Safe P f h0 ret outs todo ⟨setN sl t (.val (.bool true)), hp⟩ dom) (h2 : q → Safe P f h0 ret outs todo ⟨setN sl t (.val (.bool false)), hp⟩ dom) : Safe P f h0 ret outs todo ⟨sl, hp⟩ dom := by
  intro E0 W0 E W a b cs g1 g2 g3 g4 g5 g6 g7 g8
  obtain ⟨c, c1, c2⟩ := g6.sl t _ hs
  simp only [RV] at c2
  obtain ⟨bb, rfl, c3, c4⟩ := c2
  have hrel : Rel E ⟨setN sl t (.val (.bool bb)), hp⟩ W a := by
    refine ⟨by rw [g6.size, setN_eq]; simp, fun u v hu => ?_, g6.df, g6.hp⟩
    simp only [nth_eq, setN_eq] at hu
    rw [List.getElem?_set] at hu
    by_cases e : t = u
    · subst e
      rw [if_pos rfl] at hu
      split at hu
      · simp only [Option.some.injEq] at hu
        subst hu
        exact ⟨_, c1, by simp only [RV]⟩
      · cases hu
    · rw [if_neg e] at hu
      exact g6.sl u v (by rw [nth_eq]; exact hu)
  cases bb with
  | true => exact h1 (c3 rfl) E0 W0 E W a b cs g1 g2 g3 g4 g5 hrel g7 g8
  | false => exact h2 (c4 rfl) E0 W0 E W a b cs g1 g2 g3 g4 g5 hrel g7 g8
/-- a loop on the way -/
theorem Safe.withLoop {σ : Type} {s : St} (td : List Item) (ids : List Nat) (N : Nat) (I : σ → List (Nat × AV)) (H : σ → Hp) (pre : σ → Prop) (μ : σ → Nat)
    (body : ∀ g, pre g → (∀ g', pre g' → μ g' < μ g → Safe P f h0 ret outs td ⟨slotsOf N (I g'), H g'⟩ ids) → Safe P f h0 ret outs td ⟨slotsOf N (I g), H g⟩ ids)
    (entry : (∀ g, pre g → Safe P f h0 ret outs td ⟨slotsOf N (I g), H g⟩ ids) → Safe P f h0 ret outs todo s dom) : Safe P f h0 ret outs todo s dom :=
  entry (Safe.loop μ (fun g => ⟨slotsOf N (I g), H g⟩) pre body)
/-- to the end, and what is kept there -/
theorem Safe.gotoE (hmx : P.follows .mixedOrders = true) (n : Nat) (hs : List RHint) (live ids : List Nat) {s : St} {sl : List AV} {hp : Hp} {ob : List Prop} (hd : subB (idsOf h0) dom = true) (hi : subB (idsOf h0) ids = true) (h : (match runK P n hs todo s dom live ids with | some (t, a, b, c) => if isEnd t then some (a, b, c) else none | none => none) = some (sl, hp, ob)) (hob : AllP ob)
    (hcl : closedL ids sl = true) (hch : closedH ids hp) (hk : ∀ td, isEnd td = true → Safe P f h0 ret outs td ⟨sl, hp⟩ ids) : Safe P f h0 ret outs todo s dom := by
  cases hr : runK P n hs todo s dom live ids with
  | none => rw [hr] at h; cases h
  | some x =>
    obtain ⟨t, a, b, c⟩ := x
    rw [hr] at h
    dsimp only at h
    by_cases ht : isEnd t = true
    · rw [if_pos ht] at h
      simp only [Option.some.injEq, Prod.mk.injEq] at h
      obtain ⟨rfl, rfl, rfl⟩ := h
      exact Safe.goto hmx n hs live ids hd hi hr hob hcl hch (hk t ht)
    · rw [if_neg ht] at h; cases h
theorem Safe.here {s : St} (T : List Item) (h : todo = T) (k : Safe P f h0 ret outs T s dom) : Safe P f h0 ret outs todo s dom := h ▸ k
/-- to a place within, wherever it is -/
def fstT : Option (List Item × List AV × Hp × List Prop) → List Item
  | some (t, _) => t
  | none => []
theorem Safe.gotoS (hmx : P.follows .mixedOrders = true) (n : Nat) (hs : List RHint) (live ids : List Nat) {s : St} {sl : List AV} {hp : Hp} {ob : List Prop} (hd : subB (idsOf h0) dom = true) (hi : subB (idsOf h0) ids = true) (h : (match runK P n hs todo s dom live ids with | some (t, a, b, c) => some (a, b, c) | none => none) = some (sl, hp, ob)) (hob : AllP ob)
    (hcl : closedL ids sl = true) (hch : closedH ids hp) (hk : Safe P f h0 ret outs (fstT (runK P n hs todo s dom live ids)) ⟨sl, hp⟩ ids) : Safe P f h0 ret outs todo s dom := by
  cases hr : runK P n hs todo s dom live ids with
  | none => rw [hr] at h; cases h
  | some x =>
    obtain ⟨t, a, b, c⟩ := x
    rw [hr] at h hk
    simp only [Option.some.injEq, Prod.mk.injEq] at h
    obtain ⟨rfl, rfl, rfl⟩ := h
    exact Safe.goto hmx n hs live ids hd hi hr hob hcl hch hk
theorem Safe.endsT {fn : Func} (hf : P.funcs[f]? = some fn) (ht : isEnd todo = true) {s : St} {r : AV} {hp : Hp} {ob : List Prop} (hd : subB (idsOf h0) dom = true) (h : (match (retA P fn.results.toList).run s with | some o => some (o.a, keepH s.heap (idsOf (applyO h0 outs)), o.ob) | none => none) = some (r, hp, ob)) (hob : AllP ob)
    (he : VLe r ret) (hl : HpLe hp (applyO h0 outs)) (hc : closedH (idsOf h0 ++ newIds h0 outs) (applyO h0 outs)) (hcr : closedV (idsOf h0 ++ newIds h0 outs) ret = true) : Safe P f h0 ret outs todo s dom := by
  cases hr : (retA P fn.results.toList).run s with
  | none => rw [hr] at h; cases h
  | some o =>
    rw [hr] at h
    simp only [Option.some.injEq, Prod.mk.injEq] at h
    obtain ⟨rfl, rfl, rfl⟩ := h
    exact Safe.fin hf ht hr hob he ((keepH_le _ _).trans' (keepH_find _ _) hl) hc hcr
end
/-! ### Rows of data -/
def rowG {α : Type} [Inhabited α] (enc : α → List AV) (L : List α) : Nat → List AV := fun q => enc (L.getD q default)
/-- rows that hold a name -/
def rowN {α : Type} [Inhabited α] (enc : Nat → α → List AV) (a : Nat) (L : List α) : Nat → List AV := rowG (enc a) L
theorem rowG_cat {α : Type} [Inhabited α] (enc : α → List AV) (L M : List α) (r2 : Nat → List AV) (h : ∀ j, j < M.length → r2 j = enc (M.getD j default)) (q : Nat) (hq : q < (L ++ M).length) : catR L.length (rowG enc L) r2 q = rowG enc (L ++ M) q := by
  rw [catR_at]
  unfold rowG
  rw [List.length_append] at hq
  by_cases e : q < L.length
  · rw [if_pos e]
    simp only [List.getD_eq_getElem?_getD]
    rw [List.getElem?_append_left e]
  · rw [if_neg e, h _ (by omega)]
    simp only [List.getD_eq_getElem?_getD]
    rw [List.getElem?_append_right (by omega)]
/-- what is appended, as data -/
theorem ob_cat {α : Type} [Inhabited α] {ty es n : Nat} (enc : α → List AV) (L M : List α) (r2 : Nat → List AV) (hn : n = L.length + M.length) (h : ∀ j, j < M.length → r2 j = enc (M.getD j default)) : ObLe (.vec ty es n (catR L.length (rowG enc L) r2)) (.vec ty es (L ++ M).length (rowG enc (L ++ M))) :=
  ⟨rfl, rfl, by rw [List.length_append, hn], fun q hq => rowG_cat enc L M r2 h q hq⟩
theorem ob_one {α : Type} [Inhabited α] {ty es n : Nat} (enc : α → List AV) (L : List α) (x : α) (r2 : Nat → List AV) (hn : n = L.length + 1) (h : r2 0 = enc x) : ObLe (.vec ty es n (catR L.length (rowG enc L) r2)) (.vec ty es (L ++ [x]).length (rowG enc (L ++ [x]))) :=
  ob_cat enc L [x] r2 (by simpa using hn) (fun j hj => by
    have : j = 0 := by simpa using hj
    subst this; exact h)
theorem closedL_iff {ids : List Nat} : ∀ {l : List AV}, closedL ids l = true ↔ ∀ x ∈ l, closedV ids x = true
  | [] => by simp [closedL]
  | x :: l => by
    simp only [closedL, Bool.and_eq_true, List.mem_cons, forall_eq_or_imp]
    rw [closedL_iff (l := l)]
theorem closed_cat {ids : List Nat} {n : Nat} {r1 r2 : Nat → List AV} (h1 : ∀ q, closedL ids (r1 q) = true) (h2 : ∀ q, closedL ids (r2 q) = true) (q : Nat) : closedL ids (catR n r1 r2 q) = true := by
  rw [catR_at]
  split
  · exact h1 _
  · exact h2 _
theorem closed_copy {ids : List Nat} {i k : Nat} {r1 r2 : Nat → List AV} (h1 : ∀ q, closedL ids (r1 q) = true) (h2 : ∀ q, closedL ids (r2 q) = true) (q : Nat) : closedL ids (copyRow r1 i k r2 q) = true := by
  unfold copyRow
  split
  · exact h2 _
  · exact h1 _
theorem closed_rows {ids : List Nat} {cs : List AV} {es : Nat} (h : closedL ids cs = true) (q : Nat) : closedL ids (rowsOf cs es q) = true :=
  closedL_iff.2 fun x hx => closedL_iff.1 h x (List.mem_of_mem_drop (List.mem_of_mem_take hx))
theorem closed_shift {ids : List Nat} {i : Nat} {r : Nat → List AV} (h : ∀ q, closedL ids (r q) = true) (q : Nat) : closedL ids (shiftR r i q) = true := by
  rw [shiftR_at]
  exact h _
theorem ob_ren_one {σ : List (Nat × Nat)} {α : Type} [Inhabited α] {ty es n : Nat} (enc : α → List AV) (L : List α) (x : α) (r2 : Nat → List AV) (hn : n = L.length + 1) (h2 : ∀ x, renL σ (enc x) = enc x) (h : renL σ (r2 0) = enc x) : ObLe (.vec ty es n (fun q => renL σ (catR L.length (rowG enc L) r2 q))) (.vec ty es (L ++ [x]).length (rowG enc (L ++ [x]))) := by
  refine ⟨rfl, rfl, by rw [hn, List.length_append]; rfl, fun q hq => ?_⟩
  have e := rowG_cat enc L [x] (fun j => renL σ (r2 j)) (fun j hj => by
    have : j = 0 := by simpa using hj
    subst this; exact h) q hq
  rw [← e]
  simp only [catR_at]
  split
  · exact h2 _
  · rfl
theorem Safe.leD {P : Program} {f : FuncId} {h0 : Hp} {ret : AV} {outs : List (Nat × Option Ob)} {todo : List Item} {sl sl' : List AV} {hp hp' : Hp} {dom : List Nat} (dom' : List Nat) (hd : subB (idsOf h0) dom' = true) (hs : SlLe sl sl') (hl : HpLe hp hp') (hcl : closedL dom' sl' = true) (hch : closedH dom' hp') (h : Safe P f h0 ret outs todo ⟨sl', hp'⟩ dom') : Safe P f h0 ret outs todo ⟨sl, hp⟩ dom :=
  Safe.to (s' := ⟨sl', hp'⟩) (fun id hid => subB_ok hd id (idsOf_mem.2 hid)) (fun _ _ => trivial) hs hcl hl hch h
theorem Safe.leH {P : Program} {f : FuncId} {h0 : Hp} {ret : AV} {outs : List (Nat × Option Ob)} {todo : List Item} {sl sl' : List AV} {hp hp' : Hp} {dom dom' : List Nat} (h : Safe P f h0 ret outs todo ⟨sl', hp'⟩ dom') (hd : subB (idsOf h0) dom' = true) (hs : SlLe sl sl') (hl : HpLe hp hp') (hcl : closedL dom' sl' = true) (hch : closedH dom' hp') : Safe P f h0 ret outs todo ⟨sl, hp⟩ dom :=
  Safe.leD dom' hd hs hl hcl hch h
theorem closed_set {ids : List Nat} {i : Nat} {r : Nat → List AV} {l : List AV} (h : ∀ q, closedL ids (r q) = true) (hl : closedL ids l = true) (q : Nat) : closedL ids (setRow r i l q) = true := by
  unfold setRow
  split
  · exact hl
  · exact h _
theorem ob_set {α : Type} [Inhabited α] {ty es n i : Nat} (enc : α → List AV) (L : List α) (x : α) (r : List AV) (hn : n = L.length) (h : r = enc x) : ObLe (.vec ty es n (setRow (rowG enc L) i r)) (.vec ty es (L.set i x).length (rowG enc (L.set i x))) := by
  refine ⟨rfl, rfl, by rw [hn, List.length_set], fun q hq => ?_⟩
  unfold setRow rowG
  rw [List.getD_eq_getElem?_getD, List.getD_eq_getElem?_getD, List.getElem?_set]
  by_cases e : q = i
  · subst e
    rw [if_pos rfl, if_pos rfl, if_pos (by simpa using hq), h]
    rfl
  · rw [if_neg e, if_neg (fun h => e h.symm)]
theorem CallOK.isB {P : Program} {f : FuncId} {args : List AV} {h0 : Hp} {e b : Bool} {outs : List (Nat × Option Ob)} (h : CallOK P f args h0 (B e) outs) (he : e = b) : CallOK P f args h0 (B b) outs := he ▸ h
end Go.Proofs.Ytbgbjgedjmhcaaa
