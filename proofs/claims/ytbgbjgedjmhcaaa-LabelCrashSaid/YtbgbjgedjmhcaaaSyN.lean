/- The engine, part N: a state is told anew; loops; the end of a call; a contract. No conditions but those of each theorem. -/
import Derived.Test.YtbgbjgedjmhcaaaSyM
namespace Go.Proofs.Ytbgbjgedjmhcaaa
open Go.RowKit
set_option linter.unusedVariables false
set_option linter.unusedSimpArgs false

/-! ### What a value names -/
mutual
def closedV (ids : List Nat) : AV → Bool
  | .val _ => true
  | .ptr id _ _ _ => ids.contains id
  | .sl id _ _ _ _ => ids.contains id
  | .mp id => ids.contains id
  | .agg cs => closedL ids cs
  | .tup cs => closedL ids cs
  | .fn _ a b => closedL ids a && closedL ids b
  | .ifc _ v => closedV ids v
  | .anyB _ _ => true
  | .len _ => true
  | .junk => true
def closedL (ids : List Nat) : List AV → Bool
  | [] => true
  | x :: l => closedV ids x && closedL ids l
end
def closedO (ids : List Nat) : Ob → Prop
  | .blk _ cs => closedL ids cs = true
  | .vec _ _ _ row => ∀ q, closedL ids (row q) = true
  | .ro _ _ row => ∀ q, closedL ids (row q) = true
  | .obj _ => True
  | .box _ => True
def closedH (ids : List Nat) : Hp → Prop
  | [] => True
  | (id, o) :: h => ids.contains id = true ∧ closedO ids o ∧ closedH ids h
mutual
theorem RV.agree {ids : List Nat} {E E' : Env} (h : ∀ id, id ∈ ids → E' id = E id) : ∀ (v : AV) (c : Value), closedV ids v = true → RV E v c → RV E' v c
  | .val v, c, _, k => by simpa only [RV] using k
  | .ptr id i es j, c, hc, k => by
    simp only [RV] at k ⊢
    obtain ⟨a, q, e, r⟩ := k
    exact ⟨a, q, by rw [h id (List.contains_iff_mem.1 hc)]; exact e, r⟩
  | .sl id i es n cc, c, hc, k => by
    simp only [RV] at k ⊢
    obtain ⟨a, q, e, r⟩ := k
    exact ⟨a, q, by rw [h id (List.contains_iff_mem.1 hc)]; exact e, r⟩
  | .agg cs, c, hc, k => by
    simp only [RV] at k ⊢
    obtain ⟨xs, e, r⟩ := k
    exact ⟨xs, e, RVs.agree h cs xs hc r⟩
  | .tup cs, c, hc, k => by
    simp only [RV] at k ⊢
    obtain ⟨xs, e, r⟩ := k
    exact ⟨xs, e, RVs.agree h cs xs hc r⟩
  | .fn f l m, c, hc, k => by
    simp only [RV] at k ⊢
    obtain ⟨xs, ys, e, r, r2⟩ := k
    simp only [closedV, Bool.and_eq_true] at hc
    exact ⟨xs, ys, e, RVs.agree h l xs hc.1 r, RVs.agree h m ys hc.2 r2⟩
  | .ifc t v, c, hc, k => by
    simp only [RV] at k ⊢
    obtain ⟨x, e, r⟩ := k
    exact ⟨x, e, RV.agree h v x hc r⟩
  | .mp id, c, hc, k => by
    simp only [RV] at k ⊢
    obtain ⟨a, q, e, r⟩ := k
    exact ⟨a, q, by rw [h id (List.contains_iff_mem.1 hc)]; exact e, r⟩
  | .anyB p q, c, _, k => by simpa only [RV] using k
  | .len n, c, _, k => by simpa only [RV] using k
  | .junk, c, _, k => by simp only [RV]
theorem RVs.agree {ids : List Nat} {E E' : Env} (h : ∀ id, id ∈ ids → E' id = E id) : ∀ (v : List AV) (c : List Value), closedL ids v = true → RVs E v c → RVs E' v c
  | [], c, _, k => by simpa only [RVs] using k
  | x :: xs, c, hc, k => by
    simp only [RVs] at k ⊢
    obtain ⟨y, l, e, r, r2⟩ := k
    simp only [closedL, Bool.and_eq_true] at hc
    exact ⟨y, l, e, RV.agree h x y hc.1 r, RVs.agree h xs l hc.2 r2⟩
end
theorem Holds.agree {ids : List Nat} {E E' : Env} {W : World} (h : ∀ id, id ∈ ids → E' id = E id) {id : Nat} (hid : id ∈ ids) : ∀ {o : Ob}, closedO ids o → Holds E W id o → Holds E' W id o
  | .blk ty cs, hc, ⟨b, k, xs, h1, h2, h3, h4⟩ => ⟨b, k, xs, by rw [h id hid]; exact h1, h2, RVs.agree h _ _ hc h3, h4⟩
  | .vec ty es n row, hc, ⟨b, k, xs, h1, h2, h3, h4⟩ => ⟨b, k, xs, by rw [h id hid]; exact h1, h2, h3, fun q hq => RVs.agree h _ _ (hc q) (h4 q hq)⟩
  | .ro es n row, hc, ⟨b, k, xs, h1, h2, h3, h4, h5⟩ => ⟨b, k, xs, by rw [h id hid]; exact h1, h2, h3, h4, fun q hq => RVs.agree h _ _ (hc q) (h5 q hq)⟩
  | .obj m, _, ⟨b, k, ob, h1, h2, h3⟩ => ⟨b, k, ob, by rw [h id hid]; exact h1, h2, h3⟩
  | .box B, _, ⟨b, k, h1, h2⟩ => ⟨b, k, by rw [h id hid]; exact h1, h2⟩
theorem closedH_at {ids : List Nat} : ∀ {h : Hp}, closedH ids h → ∀ id o, find h id = some o → id ∈ ids ∧ closedO ids o
  | [], _, id, o, e => by simp [find] at e
  | (k, x) :: h, hc, id, o, e => by
    unfold find at e
    obtain ⟨h1, h2, h3⟩ := hc
    by_cases hk : k = id
    · subst hk
      simp at e
      subst e
      exact ⟨List.contains_iff_mem.1 h1, h2⟩
    · simp [hk] at e
      exact closedH_at h3 id o e

/-! ### A state told anew -/
def VLe (x y : AV) : Prop := match y with
  | .junk => True
  | y => x = y
def SlLe : List AV → List AV → Prop
  | [], [] => True
  | x :: xs, y :: ys => VLe x y ∧ SlLe xs ys
  | _, _ => False
def MDLe : MD → MD → Prop
  | .iset kd g, .iset kd' g' => kd = kd' ∧ ∀ n, g n = g' n
  | .sset g, .sset g' => ∀ n, g n = g' n
  | _, _ => False
theorem MDLe.ok : ∀ {m m' : MD} {ob : Obj}, MDLe m m' → MDOK m ob → MDOK m' ob
  | .iset kd g, .iset kd' g', ob, ⟨h1, h2⟩, ⟨es, c, e1, e2, e3⟩ => ⟨es, c, e1, by subst h1; exact e2, fun n => (e3 n).trans (h2 n)⟩
  | .sset g, .sset g', ob, h2, ⟨es, c, e1, e2, e3⟩ => ⟨es, c, e1, e2, fun n => (e3 n).trans (h2 n)⟩
theorem MDLe.refl : ∀ m : MD, MDLe m m
  | .iset _ _ => ⟨rfl, fun _ => rfl⟩
  | .sset _ => fun _ => rfl
def BoxLe (B B' : Box) : Prop := ∀ H a, B.ok H a → B'.ok H a ∧ ∀ b, B'.foot H a b → B.foot H a b
def ObLe : Ob → Ob → Prop
  | .blk ty cs, .blk ty' cs' => ty = ty' ∧ SlLe cs cs'
  | .vec ty es n row, .vec ty' es' n' row' => ty = ty' ∧ es = es' ∧ n = n' ∧ ∀ q, q < n' → row q = row' q
  | .ro es n row, .ro es' n' row' => es = es' ∧ n = n' ∧ ∀ q, q < n' → row q = row' q
  | .obj m, .obj m' => MDLe m m'
  | .box B, .box B' => BoxLe B B'
  | _, _ => False
def HpLe (h : Hp) : Hp → Prop
  | [] => True
  | (id, o') :: l => (match find h id with
    | some o => ObLe o o'
    | none => False) ∧ HpLe h l
theorem VLe.ok {E : Env} {x y : AV} {c : Value} (h : VLe x y) (r : RV E x c) : RV E y c := by
  unfold VLe at h
  split at h
  · simp only [RV]
  · rw [← h]; exact r
theorem SlLe.rvs {E : Env} : ∀ {xs ys : List AV} {cs : List Value}, SlLe xs ys → RVs E xs cs → RVs E ys cs
  | [], [], cs, _, r => r
  | x :: xs, y :: ys, cs, h, r => by
    simp only [RVs] at r ⊢
    obtain ⟨c, l, e, r1, r2⟩ := r
    exact ⟨c, l, e, h.1.ok r1, SlLe.rvs h.2 r2⟩
  | [], _ :: _, _, h, _ => h.elim
  | _ :: _, [], _, h, _ => h.elim
theorem SlLe.get : ∀ {xs ys : List AV}, SlLe xs ys → xs.length = ys.length ∧ ∀ t y, nth ys t = some y → ∃ x, nth xs t = some x ∧ VLe x y
  | [], [], _ => ⟨rfl, fun t y h => by simp [nth] at h⟩
  | x :: xs, y :: ys, h => by
    obtain ⟨h1, h2⟩ := SlLe.get h.2
    refine ⟨by simp [h1], fun t z hz => ?_⟩
    cases t with
    | zero => simp only [nth, Option.some.injEq] at hz; subst hz; exact ⟨x, rfl, h.1⟩
    | succ t => simp only [nth] at hz ⊢; exact h2 t z hz
  | [], _ :: _, h => h.elim
  | _ :: _, [], h => h.elim
theorem ObLe.ok {E : Env} {W : World} {id : Nat} : ∀ {o o' : Ob}, ObLe o o' → Holds E W id o → Holds E W id o' ∧ (o'.owned = o.owned)
  | .blk ty cs, .blk ty' cs', ⟨h1, h2⟩, ⟨b, k, xs, g1, g2, g3, g4⟩ => by
    subst h1
    exact ⟨⟨b, k, xs, g1, g2, h2.rvs g3, g4⟩, rfl⟩
  | .vec ty es n row, .vec ty' es' n' row', ⟨h1, h2, h3, h4⟩, ⟨b, k, xs, g1, g2, g3, g4⟩ => by
    subst h1 h2 h3
    exact ⟨⟨b, k, xs, g1, g2, g3, fun q hq => by rw [← h4 q hq]; exact g4 q hq⟩, rfl⟩
  | .ro es n row, .ro es' n' row', ⟨h2, h3, h4⟩, ⟨b, k, xs, g1, g2, g3, g4, g5⟩ => by
    subst h2 h3
    exact ⟨⟨b, k, xs, g1, g2, g3, g4, fun q hq => by rw [← h4 q hq]; exact g5 q hq⟩, rfl⟩
  | .obj m, .obj m', h, ⟨b, k, ob, g1, g2, g3⟩ => ⟨⟨b, k, ob, g1, g2, MDLe.ok h g3⟩, rfl⟩
  | .box B, .box B', h, ⟨b, k, g1, g2⟩ => ⟨⟨b, k, g1, (h _ b g2).1⟩, rfl⟩
  | .box _, .obj _, h, _ => h.elim
  | .obj _, .box _, h, _ => h.elim
  | .box _, .blk .., h, _ => h.elim
  | .blk .., .box _, h, _ => h.elim
  | .box _, .vec .., h, _ => h.elim
  | .vec .., .box _, h, _ => h.elim
  | .box _, .ro .., h, _ => h.elim
  | .ro .., .box _, h, _ => h.elim
  | .obj _, .blk .., h, _ => h.elim
  | .obj _, .vec .., h, _ => h.elim
  | .obj _, .ro .., h, _ => h.elim
  | .blk .., .obj _, h, _ => h.elim
  | .vec .., .obj _, h, _ => h.elim
  | .ro .., .obj _, h, _ => h.elim
  | .blk .., .vec .., h, _ => h.elim
  | .blk .., .ro .., h, _ => h.elim
  | .vec .., .blk .., h, _ => h.elim
  | .vec .., .ro .., h, _ => h.elim
  | .ro .., .blk .., h, _ => h.elim
  | .ro .., .vec .., h, _ => h.elim
theorem ObLe.foot {E : Env} {W : World} {id b : Nat} : ∀ {o o' : Ob}, ObLe o o' → Holds E W id o → Foot E W id o' b → Foot E W id o b
  | .blk .., .blk .., _, _, h => h
  | .vec .., .vec .., _, _, h => h
  | .ro .., .ro .., _, _, h => h
  | .obj _, .obj _, _, _, h => h
  | .box B, .box B', h, ⟨c, k, g1, g2⟩, ⟨a, h3, h4⟩ => by
    simp only [blkOf, g1, Option.some.injEq] at h3
    subst h3
    exact ⟨c, by simp [blkOf, g1], (h _ c g2).2 b h4⟩
  | .obj _, .blk .., h, _, _ => h.elim
  | .obj _, .vec .., h, _, _ => h.elim
  | .obj _, .ro .., h, _, _ => h.elim
  | .blk .., .obj _, h, _, _ => h.elim
  | .vec .., .obj _, h, _, _ => h.elim
  | .ro .., .obj _, h, _, _ => h.elim
  | .blk .., .vec .., h, _, _ => h.elim
  | .blk .., .ro .., h, _, _ => h.elim
  | .vec .., .blk .., h, _, _ => h.elim
  | .vec .., .ro .., h, _, _ => h.elim
  | .ro .., .blk .., h, _, _ => h.elim
  | .ro .., .vec .., h, _, _ => h.elim
  | .box _, .obj _, h, _, _ => h.elim
  | .obj _, .box _, h, _, _ => h.elim
  | .box _, .blk .., h, _, _ => h.elim
  | .blk .., .box _, h, _, _ => h.elim
  | .box _, .vec .., h, _, _ => h.elim
  | .vec .., .box _, h, _, _ => h.elim
  | .box _, .ro .., h, _, _ => h.elim
  | .ro .., .box _, h, _, _ => h.elim
theorem HpLe.at : ∀ {h l : Hp}, HpLe h l → ∀ id o', find l id = some o' → ∃ o, find h id = some o ∧ ObLe o o'
  | h, [], _, id, o', e => by simp [find] at e
  | h, (k, x) :: l, hl, id, o', e => by
    unfold find at e
    obtain ⟨h1, h2⟩ := hl
    by_cases hk : k = id
    · subst hk
      simp at e
      subst e
      cases hf : find h k with
      | none => rw [hf] at h1; exact h1.elim
      | some o => rw [hf] at h1; exact ⟨o, rfl, h1⟩
    · simp [hk] at e
      exact HpLe.at h2 id o' e
/-- memory under another naming, for less -/
theorem RH.le {ids : List Nat} {E E' : Env} {h h' : Hp} {W : World} (r : RH E h W) (hl : HpLe h h') (hc : closedH ids h') (he : ∀ id, id ∈ ids → E' id = E id) : RH E' h' W := by
  have hb : ∀ id o', find h' id = some o' → blkOf E' id = blkOf E id := fun id o' ho => by
    have := he id (closedH_at hc id o' ho).1
    simp only [blkOf, this]
  refine ⟨fun id o' ho => ?_, fun i j o p hi hj hne ho b hbi => ?_⟩
  · obtain ⟨o, h1, h2⟩ := hl.at id o' ho
    obtain ⟨h3, h4⟩ := closedH_at hc id o' ho
    exact (h2.ok (r.holds id o h1)).1.agree he h3 h4
  · obtain ⟨o1, h1, h2⟩ := hl.at i o hi
    obtain ⟨p1, h3, h4⟩ := hl.at j p hj
    exact fun hbj => r.apart i j o1 p1 h1 h3 hne (by rw [← (h2.ok (r.holds i o1 h1)).2]; exact ho) b (h2.foot (r.holds i o1 h1) (hbi.cg (hb i o hi).symm)) (h4.foot (r.holds j p1 h3) (hbj.cg (hb j p hj).symm))
theorem Mod.le {ids : List Nat} {E0 E E' : Env} {h0 h h' : Hp} {W0 W : World} (m : Mod E0 h0 W0 E h W) (r : RH E h W) (hl : HpLe h h') (hc : closedH ids h') (he : ∀ id, id ∈ ids → E' id = E id) : Mod E0 h0 W0 E' h' W :=
  ⟨m.os, m.tape, m.output, m.size, m.old, fun id o' b ho hb => by
    obtain ⟨o, h1, h2⟩ := hl.at id o' ho
    have : blkOf E' id = blkOf E id := by simp only [blkOf, he id (closedH_at hc id o' ho).1]
    refine (m.own id o b h1 (h2.foot (r.holds id o h1) (hb.cg this.symm))).imp_left fun ⟨i, p, p1, p2, p3⟩ => ⟨i, p, p1, fun h => p2 ?_, p3⟩
    rw [← (h2.ok (r.holds id o h1)).2]; exact h⟩

section
variable {P : Program} {f : FuncId} {h0 : Hp} {ret : AV} {outs : List (Nat × Option Ob)} {todo : List Item} {s s' : St} {dom dom' : List Nat}
theorem Safe.to (hd : ∀ id, hasId h0 id = true → id ∈ dom') (hsub : ∀ id, id ∈ dom' → True) (hsl : SlLe s.slots s'.slots) (hcl : closedL dom' s'.slots = true) (hl : HpLe s.heap s'.heap) (hc : closedH dom' s'.heap) (h : Safe P f h0 ret outs todo s' dom') : Safe P f h0 ret outs todo s dom := by
  intro E0 W0 E W a b cs h1 h2 h3 h4 h5 h6 h7 h8
  have he : ∀ id, id ∈ dom' → (fun id => if id ∈ dom' then E id else none : Env) id = E id := fun id hid => by simp only [if_pos hid]
  refine h E0 W0 (fun id => if id ∈ dom' then E id else none) W a b cs h1 h2 h3 h4 (fun id hid => by rw [← h5 id hid]; exact he id (hd id hid)) ⟨?_, fun t v ht => ?_, h6.df, h6.hp.le hl hc he⟩ (h7.le h6.hp hl hc he) (fun id hid => ?_)
  · rw [h6.size]; exact hsl.get.1
  · obtain ⟨x, hx, hle⟩ := hsl.get.2 t v ht
    obtain ⟨c, c1, c2⟩ := h6.sl t x hx
    have hcv : closedV dom' v = true := by
      have : ∀ (l : List AV), closedL dom' l = true → ∀ t v, nth l t = some v → closedV dom' v = true := by
        intro l
        induction l with
        | nil => intro _ t v h; simp [nth] at h
        | cons x l ih =>
          intro hl t v hv
          simp only [closedL, Bool.and_eq_true] at hl
          cases t with
          | zero => simp only [nth, Option.some.injEq] at hv; subst hv; exact hl.1
          | succ t => exact ih hl.2 t v (by simpa [nth] using hv)
      exact this _ hcl t v ht
    exact ⟨c, c1, RV.agree he v c hcv (hle.ok c2)⟩
  · by_cases hh : id ∈ dom'
    · exact hh
    · simp only [if_neg hh] at hid; exact absurd rfl hid
/-- a loop: from each head, given the heads of less measure -/
theorem Safe.loop {σ : Type} (μ : σ → Nat) (I : σ → St) (pre : σ → Prop) (h : ∀ g, pre g → (∀ g', pre g' → μ g' < μ g → Safe P f h0 ret outs todo (I g') dom) → Safe P f h0 ret outs todo (I g) dom) : ∀ g, pre g → Safe P f h0 ret outs todo (I g) dom := by
  have : ∀ n g, μ g = n → pre g → Safe P f h0 ret outs todo (I g) dom := by
    intro n
    induction n using Nat.strongRecOn with
    | ind n ih => intro g hn hp; exact h g hp fun g' hp' hlt => ih (μ g') (by omega) g' rfl hp'
  exact fun g hp => this _ g rfl hp
end

/-! ### The end of a call -/
def resL (P : Program) : List ResultVar → (List AV → Ac AV) → Ac AV
  | [], k => k []
  | .tmp t :: l, k => .slot t fun v => resL P l fun vs => k (v :: vs)
  | .cell p ty :: l, k => .slot p fun v => (loadA P ty v).bind fun x => resL P l fun vs => k (x :: vs)
def retA (P : Program) (rs : List ResultVar) : Ac AV := resL P rs fun vs => match vs with
  | [v] => .ret v
  | vs => .ret (.tup vs)
def resF (tmps : Array Value) : ResultVar → Sem Value
  | .tmp t => pure (tmps.getD t undef)
  | .cell p t => do loadVar t (← asAddr (tmps.getD p undef))
theorem results_eq (fn : Func) (tmps : Array Value) : results fn tmps = (do let vs ← fn.results.mapM (resF tmps); pure (if h : vs.size = 1 then vs[0] else .tuple vs)) := by
  unfold results
  congr 2
theorem resL_ok {P : Program} {E : Env} {s : St} {W : World} {a : Act} (r : Rel E s W a) : ∀ (rs : List ResultVar) (k : List AV → Ac AV) (out : Out AV), (resL P rs k).run s = some out → AllP out.ob →
    ∃ vs xs o2, (k vs).run s = some o2 ∧ out.a = o2.a ∧ RVs E vs xs ∧ (rs.mapM (resF a.tmps)).run P W = .ok xs W
  | [], k, out, h, hob => ⟨[], [], out, h, rfl, by simp [RVs], by simp⟩
  | .tmp t :: l, k, out, h, hob => by
    simp only [resL, Ac.run] at h
    split at h
    · cases h
    rename_i v hv
    split at h
    · cases h
    rename_i q hq
    simp only [Option.some.injEq] at h
    subst h
    obtain ⟨vs, xs, o2, g1, g2, g6, g7⟩ := resL_ok r l _ q hq hob
    obtain ⟨c, hc, hcv⟩ := r.sl t v hv
    have he : a.tmps.getD t undef = c := by rw [Array.getD_eq_getD_getElem?, hc]; rfl
    refine ⟨v :: vs, c :: xs, o2, g1, g2, by simp only [RVs]; exact ⟨c, xs, rfl, hcv, g6⟩, ?_⟩
    rw [List.mapM_cons]
    simp only [resF, Sem.run_bind, Sem.run_pure, Result.andThen_ok, he, g7]
  | .cell p ty :: l, k, out, h, hob => by
    simp only [resL, Ac.run] at h
    split at h
    · cases h
    rename_i v hv
    split at h
    · cases h
    rename_i q hq
    simp only [Option.some.injEq] at h
    subst h
    obtain ⟨o1, o2, b1, b2, b3, b4, b5, b6, b7, b8⟩ := run_bind _ _ s q hq
    simp only [b8, AllP.append] at hob
    obtain ⟨c, hc, hcv⟩ := r.sl p v hv
    have he : a.tmps.getD p undef = c := by rw [Array.getD_eq_getD_getElem?, hc]; rfl
    obtain ⟨l1, l2, cv, l3, l4⟩ := load_q (P := P) r.hp (t := ty) hcv o1 b1 hob.1
    rw [l1] at b2
    obtain ⟨vs, xs, o3, g1, g2, g6, g7⟩ := resL_ok r l _ o2 b2 hob.2
    refine ⟨o1.a :: vs, cv :: xs, o3, g1, by rw [b3]; exact g2, by simp only [RVs]; exact ⟨cv, xs, rfl, l4, g6⟩, ?_⟩
    have m3 : (do loadVar ty (← asAddr c) : Sem Value).run P W = .ok cv W := by
      simp only [Instr.loadAt, Sem.run_bind] at l3 ⊢
      cases c <;> try (simp [Instr.sureAddr, stuck, Sem.run, Result.andThen] at l3; done)
      rename_i ad
      cases ad with
      | none => simp [Instr.sureAddr, stuck, Sem.run, Result.andThen] at l3
      | some ad => simpa [Instr.sureAddr, asAddr] using l3
    have m4 : (resF a.tmps (.cell p ty)).run P W = .ok cv W := by
      show (do loadVar ty (← asAddr (a.tmps.getD p undef)) : Sem Value).run P W = _
      rw [he]; exact m3
    rw [List.mapM_cons]
    simp only [Sem.run_bind, m4, Result.andThen_ok, g7, Sem.run_pure]
theorem res_ok {P : Program} {E : Env} {s : St} {W : World} {a : Act} (r : Rel E s W a) {fn : Func} {out : Out AV} (h : (retA P fn.results.toList).run s = some out) (hob : AllP out.ob) : ∃ cv, (results fn a.tmps).run P W = .ok cv W ∧ RV E out.a cv := by
  obtain ⟨vs, xs, o2, g1, g2, g3, g4⟩ := resL_ok r _ _ out h hob
  have hm : (fn.results.mapM (resF a.tmps)).run P W = .ok xs.toArray W := by
    rw [Array.mapM_eq_mapM_toList]
    generalize List.mapM (resF a.tmps) fn.results.toList = m at g4 ⊢
    simp [g4]
  have hres : (results fn a.tmps).run P W = .ok (if h : xs.toArray.size = 1 then xs.toArray[0] else .tuple xs.toArray) W := by
    rw [results_eq, Sem.run_bind, hm]
    rfl
  refine ⟨_, hres, ?_⟩
  rw [g2]
  split at g1
  · rename_i v
    simp only [Ac.run, Option.some.injEq] at g1
    subst g1
    simp only [RVs] at g3
    obtain ⟨y, l, rfl, hy, rfl⟩ := g3
    simpa using hy
  · rename_i hne
    simp only [Ac.run, Option.some.injEq] at g1
    subst g1
    have hsz : ¬ xs.toArray.size = 1 := fun e => by
      have h1 : vs.length = 1 := by rw [← g3.length]; simpa using e
      obtain ⟨v, hv⟩ := List.length_eq_one_iff.1 h1
      exact hne v hv
    rw [dif_neg hsz]
    simp only [RV]
    exact ⟨xs, rfl, g3⟩
section
variable {P : Program} {f : FuncId} {h0 : Hp} {ret : AV} {outs : List (Nat × Option Ob)} {todo : List Item} {s : St} {dom : List Nat}
/-- the names of a heap -/
def idsOf : Hp → List Nat
  | [] => []
  | (id, _) :: h => id :: idsOf h
theorem idsOf_mem : ∀ {h : Hp} {id : Nat}, id ∈ idsOf h ↔ hasId h id = true
  | [], id => by simp [idsOf, hasId, find]
  | (k, o) :: h, id => by
    have ih := idsOf_mem (h := h) (id := id)
    unfold idsOf
    rw [List.mem_cons, ih]
    have hf : find ((k, o) :: h) id = if k == id then some o else find h id := by simp only [find]
    unfold hasId
    rw [hf]
    by_cases e : k = id
    · simp [e]
    · have e2 : (k == id) = false := by simpa using e
      rw [e2]
      constructor
      · rintro (h1 | h1)
        · exact absurd h1.symm e
        · exact h1
      · exact fun h1 => .inr h1
def isEnd : List Item → Bool
  | [] => true
  | .code .ret :: _ => true
  | _ => false
theorem isEnd_ok {t : List Item} (h : isEnd t = true) : t = [] ∨ ∃ k, t = .code .ret :: k := by
  unfold isEnd at h
  split at h
  · exact .inl rfl
  · exact .inr ⟨_, rfl⟩
  · cases h
/-- the end of a call -/
theorem Safe.fin {fn : Func} (hf : P.funcs[f]? = some fn) (ht : isEnd todo = true) {out : Out AV} (hr : (retA P fn.results.toList).run s = some out) (hob : AllP out.ob) (he : VLe out.a ret) (hl : HpLe s.heap (applyO h0 outs))
    (hc : closedH (idsOf h0 ++ newIds h0 outs) (applyO h0 outs)) (hcr : closedV (idsOf h0 ++ newIds h0 outs) ret = true) : Safe P f h0 ret outs todo s dom := by
  intro E0 W0 E W a b cs h1 h2 h3 h4 h5 h6 h7 h8
  obtain ⟨cv, q1, q2⟩ := res_ok h6 hr hob
  have hag : ∀ id, id ∈ idsOf h0 ++ newIds h0 outs → (fun id => if id ∈ newIds h0 outs then E id else E0 id : Env) id = E id := fun id hid => by
    by_cases hn : id ∈ newIds h0 outs
    · simp only [if_pos hn]
    · simp only [if_neg hn]
      exact (h5 id (idsOf_mem.1 ((List.mem_append.1 hid).resolve_right hn))).symm
  have hend : EndOK E0 h0 W0 ret outs (.returned cv) W := by
    refine ⟨cv, fun id => if id ∈ newIds h0 outs then E id else E0 id, rfl, ⟨fun id x hx => ?_, fun id hid => ?_⟩, (he.ok q2).agree hag ret cv hcr, h6.hp.le hl hc hag, h7.le h6.hp hl hc hag⟩
    · by_cases hn : id ∈ newIds h0 outs
      · rw [h4 id hn] at hx; cases hx
      · simp only [if_neg hn]; exact hx
    · by_cases hn : id ∈ newIds h0 outs
      · exact .inr hn
      · simp only [if_neg hn] at hid; exact .inl hid
  refine ⟨.returned cv, W, { b.at a todo with mode := .returning }, hend, ?_, h1, rfl, h6.df, h2, fn, by show P.funcs[b.fn]? = some fn; rw [h1]; exact hf, q1⟩
  show Steps _ _ _
  rcases isEnd_ok ht with rfl | ⟨k, rfl⟩
  · exact .one step_end
  · exact .one step_ret
/-- a contract, from the way of the call -/
theorem CallOK.intro {fn : Func} {c : Code} {args : List AV} (hcf : ∀ cargs w, (callFunc f cargs).run P w = .ok (.enter f cargs) w) (hf : P.funcs[f]? = some fn) (hb : fn.body = some c) (hcl : closedL (idsOf h0) args = true) (hch : closedH (idsOf h0) h0)
    (h : Safe P f h0 ret outs [.code c] ⟨args ++ List.replicate (fn.ntmps - args.length) undefA, h0⟩ (idsOf h0)) : CallOK P f args h0 ret outs := by
  refine ⟨hcf, fun E W cargs hargs rh hn cs => ?_⟩
  have hag : ∀ id, id ∈ idsOf h0 → (fun id => if id ∈ idsOf h0 then E id else none : Env) id = E id := fun id hid => by simp only [if_pos hid]
  have hbl : ∀ id o, find h0 id = some o → blkOf (fun id => if id ∈ idsOf h0 then E id else none : Env) id = blkOf E id := fun id o ho => by
    have := hag id (closedH_at hch id o ho).1
    simp only [blkOf, this]
  have rh1 : RH (fun id => if id ∈ idsOf h0 then E id else none : Env) h0 W := ⟨fun id o ho => (rh.holds id o ho).agree hag (closedH_at hch id o ho).1 (closedH_at hch id o ho).2, fun i j o p hi hj hne ho b hb => by
    exact fun hb2 => rh.apart i j o p hi hj hne ho b (hb.cg (hbl i o hi).symm) (hb2.cg (hbl j p hj).symm)⟩
  have hlen := hargs.length
  have hrel : Rel (fun id => if id ∈ idsOf h0 then E id else none : Env) ⟨args ++ List.replicate (fn.ntmps - args.length) undefA, h0⟩ W { tmps := cargs.toArray ++ Array.replicate (fn.ntmps - cargs.toArray.size) undef, defers := [] } := by
    refine ⟨by simp [hlen], fun t v ht => ?_, rfl, rh1⟩
    have hr : RVs (fun id => if id ∈ idsOf h0 then E id else none : Env) (args ++ List.replicate (fn.ntmps - args.length) undefA) (cargs ++ List.replicate (fn.ntmps - args.length) undef) := by
      refine (RVs.agree hag args cargs hcl hargs).append ?_
      generalize fn.ntmps - args.length = k
      induction k with
      | zero => simp [RVs]
      | succ k ih => simp only [List.replicate_succ, RVs]; exact ⟨undef, _, rfl, by simp [undefA, RV], ih⟩
    obtain ⟨c, c1, c2⟩ := hr.get t v ht
    refine ⟨c, ?_, c2⟩
    rw [← c1]
    simp only [List.size_toArray, hlen]
    rw [← Array.getElem?_toList]
    simp
  let b : Frame := { (default : Frame) with fn := f, kind := .normal }
  have henter : Frame.enter P f cargs.toArray .normal = b.at { tmps := cargs.toArray ++ Array.replicate (fn.ntmps - cargs.toArray.size) undef, defers := [] } [.code c] := by
    simp [Frame.enter, Frame.at, hf, hb, b]
  obtain ⟨e, W', fr, q1, q2, q3, q4⟩ := h E W _ W _ b cs rfl rfl rh hn (fun id hid => hag id (idsOf_mem.2 hid)) hrel ⟨rfl, rfl, rfl, Nat.le_refl _, fun _ _ _ => rfl, fun id o b hi hb => .inl ⟨id, o, hi, fun h => h, hb.cg (hbl id o hi).symm⟩⟩ (fun id hid => by
    by_cases hm : id ∈ idsOf h0
    · exact hm
    · simp only [if_neg hm] at hid; exact absurd rfl hid)
  rw [henter]
  exact ⟨e, W', fr, q1, q2, q3, q4⟩
end
end Go.Proofs.Ytbgbjgedjmhcaaa
