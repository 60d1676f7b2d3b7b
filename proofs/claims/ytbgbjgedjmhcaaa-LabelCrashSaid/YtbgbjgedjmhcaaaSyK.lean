/- The engine, part K: operations as a whole; calls. No conditions but those of each theorem. -/
import Derived.Test.YtbgbjgedjmhcaaaSyE
namespace Go.Proofs.Ytbgbjgedjmhcaaa
open Go.RowKit
set_option linter.unusedVariables false
set_option linter.unusedSimpArgs false

/-! ### Calls -/
def hasId (h : Hp) (id : Nat) : Bool := match find h id with
  | some _ => true
  | none => false
/-- the names that are new -/
def newIds (h : Hp) : List (Nat × Option Ob) → List Nat
  | [] => []
  | (id, some o) :: l => match hasId h id with
    | true => newIds (upd h id o) l
    | false => id :: newIds (upd h id o) l
  | (id, none) :: l => newIds (del h id) l
def applyO (h : Hp) : List (Nat × Option Ob) → Hp
  | [] => h
  | (id, some o) :: l => applyO (upd h id o) l
  | (id, none) :: l => applyO (del h id) l
/-- what a call does: it returns, whatever is named besides stays -/
def CallOK (P : Program) (g : FuncId) (args : List AV) (h : Hp) (ret : AV) (outs : List (Nat × Option Ob)) : Prop :=
  (∀ cargs w, (callFunc g cargs).run P w = .ok (.enter g cargs) w) ∧
  ∀ (E : Env) (W : World) (cargs : List Value), RVs E args cargs → RH E h W → (∀ id ∈ newIds h outs, E id = none) →
    Calls P g cargs.toArray W fun e W' => ∃ cv E', e = .returned cv ∧ Ext E E' (newIds h outs) ∧ RV E' ret cv ∧ RH E' (applyO h outs) W' ∧ Mod E h W E' (applyO h outs) W'
/-- memory beside a call -/
theorem RH.frame {E E' : Env} {H H' h h' : Hp} {W W' : World} {nw : List Nat} (r : RH E H W) (hsub : ∀ id o, find h id = some o → find H id = some o) (hx : Ext E E' nw) (r' : RH E' h' W') (m : Mod E h W E' h' W')
    (hs : ∀ id o, find H' id = some o → find h' id = some o ∨ (find H id = some o ∧ find h id = none)) : RH E' H' W' ∧ Mod E H W E' H' W' := by
  have rest : ∀ id o, find H id = some o → find h id = none → Holds E W id o ∧ Holds E' W' id o ∧ (∀ b, Foot E' W' id o b → Foot E W id o b) ∧ (∀ b, Foot E W id o b → b < W.heap.size ∧ ∀ i p, find h i = some p → p.owned = true → ¬ Foot E W i p b) := fun id o h1 h2 => by
    have hh := r.holds id o h1
    obtain ⟨z, hz⟩ := hh.bound
    have hc : ∀ b, Foot E W id o b → b < W.heap.size ∧ ∀ i p, find h i = some p → p.owned = true → ¬ Foot E W i p b := fun b hb => by
      refine ⟨Holds.blk_lt hb hh, fun i p hi hp hib => ?_⟩
      have hne : i ≠ id := fun e => by rw [e, h2] at hi; cases hi
      exact r.apart i id p o (hsub i p hi) h1 hne hp b hib hb
    have hk : ∀ b, Foot E W id o b → W'.heap[b]? = W.heap[b]? := fun b hb => m.old b (hc b hb).1 (hc b hb).2
    exact ⟨hh, (hh.kept m.size hk).mono hx.1, fun b hb => Foot.kept m.size hk hh b (hb.cg (blkOf_ext hx.1 hz).symm), hc⟩
  have hown : ∀ id o b, find h' id = some o → Foot E' W' id o b → (∃ i p, find h i = some p ∧ (o.owned = true → p.owned = true) ∧ Foot E W i p b) ∨ W.heap.size ≤ b := m.own
  refine ⟨⟨fun id o ho => ?_, fun i j o p hi hj hne ho b hb hb2 => ?_⟩, ⟨m.os, m.tape, m.output, m.size, fun b hb hn => m.old b hb fun i p hi hp => hn i p (hsub i p hi) hp, fun id o b ho hb => ?_⟩⟩
  · rcases hs id o ho with h1 | ⟨h1, h2⟩
    · exact r'.holds id o h1
    · exact (rest id o h1 h2).2.1
  · rcases hs i o hi with h1 | ⟨h1, h2⟩
    · rcases hs j p hj with h3 | ⟨h3, h4⟩
      · exact r'.apart i j o p h1 h3 hne ho b hb hb2
      · obtain ⟨_, _, he, hc⟩ := rest j p h3 h4
        have hb2 := he b hb2
        obtain ⟨c1, c2⟩ := hc b hb2
        rcases hown i o b h1 hb with ⟨k, q, q1, q2, q3⟩ | q
        · exact c2 k q q1 (q2 ho) q3
        · omega
    · obtain ⟨_, _, he, hc⟩ := rest i o h1 h2
      have hb := he b hb
      obtain ⟨c1, _⟩ := hc b hb
      rcases hs j p hj with h3 | ⟨h3, h4⟩
      · rcases hown j p b h3 hb2 with ⟨k, q, q1, _, q3⟩ | q
        · have hki : i ≠ k := fun e => by rw [← e, h2] at q1; cases q1
          exact r.apart i k o q h1 (hsub k q q1) hki ho b hb q3
        · omega
      · obtain ⟨_, _, he2, _⟩ := rest j p h3 h4
        have hb2 := he2 b hb2
        exact r.apart i j o p h1 h3 hne ho b hb hb2
  · rcases hs id o ho with h1 | ⟨h1, h2⟩
    · exact (hown id o b h1 hb).imp_left fun ⟨k, q, q1, q2, q3⟩ => ⟨k, q, hsub k q q1, q2, q3⟩
    · obtain ⟨_, _, he, _⟩ := rest id o h1 h2
      exact .inl ⟨id, o, h1, fun h => h, he b hb⟩
def getAll : List Nat → (Hp → Ac AV) → Ac AV
  | [], k => k []
  | id :: l, k => .get id fun o => getAll l fun h => k ((id, o) :: h)
def putAll (h : Hp) : List (Nat × Option Ob) → AV → Ac AV
  | [], v => .ret v
  | (id, some o) :: l, v => match hasId h id with
    | true => .put id o (putAll (upd h id o) l v)
    | false => .new id o (putAll (upd h id o) l v)
  | (id, none) :: l, v => .del id (putAll (del h id) l v)
/-- what a function without a body does: it hands back a value, here and now -/
def ExtOK (P : Program) (g : FuncId) (args : List AV) (ret : AV) : Prop :=
  ∀ (E : Env) (W : World) (cargs : List Value), RVs E args cargs → ∃ cv, (callFunc g cargs.toArray).run P W = .ok (.value cv) W ∧ RV E ret cv
/-- a call, by its contract -/
def goCall (P : Program) (hint : Hint) (g : FuncId) (args : List AV) : Ac AV := match hint with
  | .call ids ret outs => getAll ids fun h => .need (CallOK P g args h ret outs) (putAll h outs ret)
  | .ext ret => .need (ExtOK P g args ret) (.ret ret)
  | _ => .fail
/-! ### Methods: which function a value of an interface leads to -/
def partO (P : Program) (t : TypeId) (cs : List AV) : Option AV := match tyAgg P t with
  | some true => match tySize P t with
    | some n => match lenGe cs n with
      | true => some (.agg (cs.take n))
      | false => none
    | none => none
  | some false => match cs with
    | v :: _ => some v
    | [] => none
  | none => none
theorem partO_ok {P : Program} {E : Env} {t : TypeId} {cs : List AV} {xs : List Value} {off : Nat} {z : AV} (hc : RVs E cs xs) (h : partO P t (cs.drop off) = some z) : ∃ y, RV E z y ∧ ∀ W, (part t xs.toArray off).run P W = .ok y W := by
  unfold partO at h
  cases hg : tyAgg P t with
  | none => rw [hg] at h; cases h
  | some b =>
    rw [hg] at h
    cases b with
    | true =>
      dsimp only at h
      cases hz : tySize P t with
      | none => rw [hz] at h; cases h
      | some q =>
        rw [hz] at h
        dsimp only at h
        cases hl : lenGe (cs.drop off) q with
        | false => rw [hl] at h; cases h
        | true =>
          rw [hl] at h
          simp only [Option.some.injEq] at h
          subst h
          refine ⟨.agg ((xs.drop off).take q).toArray, by simp only [RV]; exact ⟨_, rfl, (hc.drop off).take q⟩, fun W => ?_⟩
          have e : xs.toArray.extract off (off + q) = ((xs.drop off).take q).toArray := by
            apply Array.ext'
            simp [List.take_drop]
          simp only [part, Sem.run_bind, run_isAgg hg, run_size hz, Result.andThen_ok, if_true, Sem.run_pure, e]
    | false =>
      dsimp only at h
      cases hd : cs.drop off with
      | nil => rw [hd] at h; cases h
      | cons v l =>
        rw [hd] at h
        simp only [Option.some.injEq] at h
        subst h
        have hn : nth cs off = some v := by rw [nth_eq]; have := congrArg (fun l => l[0]?) hd; simpa using this
        obtain ⟨y, hy, hy2⟩ := hc.get off v hn
        refine ⟨y, hy2, fun W => ?_⟩
        have : xs.toArray[off]? = some y := by simpa using hy
        simp only [part, Sem.run_bind, run_isAgg hg, Result.andThen_ok, Bool.false_eq_true, if_false, this, Sem.run_pure]
def followA (P : Program) : List FieldStep → TypeId → AV → Option (TypeId × AV)
  | [], t, x => some (t, x)
  | s :: rest, _, x => match s.deref, fieldOf P s.struct s.index, x with
    | false, some f, .agg cs => match partO P f.type (cs.drop f.offset) with
      | some y => followA P rest f.type y
      | none => none
    | _, _, _ => none
theorem followA_ok {P : Program} {E : Env} : ∀ (l : List FieldStep) (t : TypeId) (x : AV) (c : Value) (t' : TypeId) (z : AV), followA P l t x = some (t', z) → RV E x c → ∃ y, RV E z y ∧ ∀ W, (follow l t (.val c)).run P W = .ok (t', .val y) W
  | [], t, x, c, t', z, h, hr => by
    simp only [followA, Option.some.injEq, Prod.mk.injEq] at h
    obtain ⟨rfl, rfl⟩ := h
    exact ⟨c, hr, fun W => by simp [follow]⟩
  | s :: rest, t, x, c, t', z, h, hr => by
    unfold followA at h
    split at h
    case h_2 => cases h
    rename_i f cs hd hf
    split at h
    case h_2 => cases h
    rename_i y hy
    obtain ⟨fs, hu, hfd⟩ := fieldOf_ok hf
    simp only [RV] at hr
    obtain ⟨xs, rfl, h1⟩ := hr
    obtain ⟨w, hw, hrun⟩ := partO_ok h1 hy
    obtain ⟨q, hq, hrun2⟩ := followA_ok rest f.type y w t' z h hw
    refine ⟨q, hq, fun W => ?_⟩
    simp only [follow, Sem.run_bind, run_underlying hu, Result.andThen_ok, hfd, hd, Bool.false_eq_true, if_false, hrun, hrun2]
def methA (P : Program) : Nat → TypeId → AV → String → Option (FuncId × AV)
  | 0, _, _, _ => none
  | n + 1, t, v, name => match P.info? t with
    | none => none
    | some i => match i.methods.find? (·.name == name) with
      | none => none
      | some m => match followA P m.path.toList t v with
        | none => none
        | some (xt, x) => match m.func with
          | none => match x with
            | .ifc t' v' => methA P n t' v' name
            | _ => none
          | some (f, ptr) => match P.underlying xt, ptr with
            | some (.pointer _), true => some (f, x)
            | some (.pointer _), false => none
            | some _, false => some (f, x)
            | _, _ => none
theorem methA_run {P : Program} {E : Env} : ∀ (n : Nat) (t : TypeId) (v : AV) (name : String) (f : FuncId) (rx : AV) (c : Value), methA P n t v name = some (f, rx) → RV E v c → ∃ rc, RV E rx rc ∧ ∀ m W, n ≤ m → (method m t c name).run P W = .ok (f, rc) W
  | 0, t, v, name, f, rx, c, h, hr => by cases h
  | n + 1, t, v, name, f, rx, c, h, hr => by
    unfold methA at h
    split at h
    case h_1 => cases h
    rename_i i hi
    split at h
    case h_1 => cases h
    rename_i ms hms
    split at h
    case h_1 => cases h
    rename_i xt x hfo
    obtain ⟨y, hy, hrun⟩ := followA_ok _ _ _ _ _ _ hfo hr
    split at h
    · rename_i hfn
      split at h
      case h_2 => cases h
      rename_i t' v'
      simp only [RV] at hy
      obtain ⟨w, rfl, hw⟩ := hy
      obtain ⟨rc, hrc, hrun2⟩ := methA_run n t' v' name f rx w h hw
      refine ⟨rc, hrc, fun m W hm => ?_⟩
      obtain ⟨m, rfl⟩ : ∃ k, m = k + 1 := ⟨m - 1, by omega⟩
      simp only [method, typeInfo, Sem.run_bind, run_program, Result.andThen_ok, hi, Sem.run_pure, hms, hrun, hfn, Place.get, hrun2 m W (by omega)]
    · rename_i f' ptr hfn
      have key : ∀ (d : TypeDesc), P.underlying xt = some d → ((∃ e, d = .pointer e) ∧ ptr = true ∨ (∀ e, d ≠ .pointer e) ∧ ptr = false) → (f', x) = (f, rx) → ∃ rc, RV E rx rc ∧ ∀ m W, n + 1 ≤ m → (method m t c name).run P W = .ok (f, rc) W := fun d hu hd he => by
        simp only [Prod.mk.injEq] at he
        obtain ⟨rfl, rfl⟩ := he
        refine ⟨y, hy, fun m W hm => ?_⟩
        obtain ⟨m, rfl⟩ : ∃ k, m = k + 1 := ⟨m - 1, by omega⟩
        simp only [method, typeInfo, Sem.run_bind, run_program, Result.andThen_ok, hi, Sem.run_pure, hms, hrun, hfn, receiverAt, run_underlying hu]
        rcases hd with ⟨⟨e, rfl⟩, rfl⟩ | ⟨hd, rfl⟩
        · simp [Place.get]
        · cases d <;> first | (simp [Place.get]; done) | exact absurd rfl (hd _)
      split at h
      · rename_i e hu
        exact key _ hu (.inl ⟨⟨e, rfl⟩, rfl⟩) (Option.some.inj h)
      · cases h
      · rename_i d hu hne
        exact key _ hne (.inr ⟨fun e he => hu e he, rfl⟩) (Option.some.inj h)
      · cases h
theorem followB_ok {P : Program} {E : Env} : ∀ (l : List FieldStep) (t : TypeId) (x : AV) (c : Value) (t' : TypeId) (z : AV), followA P l t x = some (t', z) → RV E x c → ∃ y, RV E z y ∧ ∀ W, (followBlind l t (some c)).run P W = .ok (.ok (t', some y)) W
  | [], t, x, c, t', z, h, hr => by
    simp only [followA, Option.some.injEq, Prod.mk.injEq] at h
    obtain ⟨rfl, rfl⟩ := h
    exact ⟨c, hr, fun W => by simp [followBlind]⟩
  | s :: rest, t, x, c, t', z, h, hr => by
    unfold followA at h
    split at h
    case h_2 => cases h
    rename_i f cs hd hf
    split at h
    case h_2 => cases h
    rename_i y hy
    obtain ⟨fs, hu, hfd⟩ := fieldOf_ok hf
    simp only [RV] at hr
    obtain ⟨xs, rfl, h1⟩ := hr
    obtain ⟨w, hw, hrun⟩ := partO_ok h1 hy
    obtain ⟨q, hq, hrun2⟩ := followB_ok rest f.type y w t' z h hw
    refine ⟨q, hq, fun W => ?_⟩
    simp only [followBlind, Sem.run_bind, run_underlying hu, Result.andThen_ok, hfd, hd, hrun, hrun2]
/-- a method value over an interface: the receiver behind it is no nil pointer -/
def nilA (P : Program) : Nat → TypeId → AV → String → Bool
  | 0, _, _, _ => false
  | n + 1, t, v, name => match P.info? t with
    | none => false
    | some i => match i.methods.find? (·.name == name) with
      | none => false
      | some m => match followA P m.path.toList t v with
        | none => false
        | some (xt, x) => match m.func with
          | none => match x with
            | .ifc t' v' => nilA P n t' v' name
            | _ => false
          | some (_, ptr) => match P.underlying xt, ptr with
            | _, true => true
            | some (.pointer _), false => false
            | some _, false => true
            | none, false => false
theorem nilA_run {P : Program} {E : Env} : ∀ (n : Nat) (t : TypeId) (v : AV) (name : String) (c : Value), nilA P n t v name = true → RV E v c → ∀ m W, n ≤ m → (nilAhead m t c name).run P W = .ok (some false) W
  | 0, t, v, name, c, h, hr => by cases h
  | n + 1, t, v, name, c, h, hr => by
    unfold nilA at h
    split at h
    case h_1 => cases h
    rename_i i hi
    split at h
    case h_1 => cases h
    rename_i ms hms
    split at h
    case h_1 => cases h
    rename_i xt x hfo
    obtain ⟨y, hy, hrun⟩ := followB_ok _ _ _ _ _ _ hfo hr
    intro m W hm
    obtain ⟨m, rfl⟩ : ∃ k, m = k + 1 := ⟨m - 1, by omega⟩
    split at h
    · rename_i hfn
      split at h
      case h_2 => cases h
      rename_i t' v'
      simp only [RV] at hy
      obtain ⟨w, rfl, hw⟩ := hy
      have := nilA_run n t' v' name w h hw m W (by omega)
      simp only [nilAhead, typeInfo, Sem.run_bind, run_program, Result.andThen_ok, hi, Sem.run_pure, hms, hrun, hfn, this]
    · rename_i f' ptr hfn
      split at h
      · simp only [nilAhead, typeInfo, Sem.run_bind, run_program, Result.andThen_ok, hi, Sem.run_pure, hms, hrun, hfn]
      · cases h
      · rename_i d hne hu
        simp only [nilAhead, typeInfo, Sem.run_bind, run_program, Result.andThen_ok, hi, Sem.run_pure, hms, hrun, hfn, run_underlying hu]
        cases d <;> first | rfl | (simp; done) | exact absurd rfl (hne _)
      · cases h
/-- a value's method of this name is this function, over this receiver -/
def MethOK (P : Program) (name : String) (recv : AV) (f : FuncId) (rx : AV) : Prop :=
  ∀ (E : Env) (c : Value), RV E recv c → ∃ t v rc, c = .iface t v ∧ RV E rx rc ∧ ∀ W, (method (P.types.size + Made.depth) t v name).run P W = .ok (f, rc) W
theorem MethOK.of {P : Program} {name : String} {t : TypeId} {v : AV} {f : FuncId} {rx : AV} (h : methA P 50 t v name = some (f, rx)) : MethOK P name (.ifc t v) f rx := fun E c hr => by
  simp only [RV] at hr
  obtain ⟨x, rfl, hx⟩ := hr
  obtain ⟨rc, h1, h2⟩ := methA_run 50 t v name f rx x h hx
  exact ⟨t, x, rc, rfl, h1, fun W => h2 _ W (by unfold Made.depth; omega)⟩
def goInv (P : Program) (h : Hint) (recv : AV) (name : String) (args : List AV) : Ac AV := match h with
  | .inv f rx ids ret outs => .need (MethOK P name recv f rx) (goCall P (.call ids ret outs) f (rx :: args))
  | _ => .fail
theorem putAll_out : ∀ (outs : List (Nat × Option Ob)) (h : Hp) (v : AV) (s : St) (out : Out AV), (putAll h outs v).run s = some out → out.a = v ∧ out.ob = [] ∧ out.s.slots = s.slots ∧
    (∀ x, x ∉ outs.map (·.1) → find out.s.heap x = find s.heap x ∧ find (applyO h outs) x = find h x) ∧ (∀ x, x ∈ outs.map (·.1) → find out.s.heap x = find (applyO h outs) x)
  | [], h, v, s, out, ho => by
    simp only [putAll, Ac.run, Option.some.injEq] at ho
    subst ho
    exact ⟨rfl, rfl, rfl, fun x _ => ⟨rfl, rfl⟩, fun x hx => by cases hx⟩
  | (id, some o) :: l, h, v, s, out, ho => by
    have key : ∀ q, (putAll (upd h id o) l v).run ⟨s.slots, upd s.heap id o⟩ = some q → q.a = v ∧ q.ob = [] ∧ q.s.slots = s.slots ∧ (∀ x, x ∉ ((id, some o) :: l).map (·.1) → find q.s.heap x = find s.heap x ∧ find (applyO h ((id, some o) :: l)) x = find h x) ∧ (∀ x, x ∈ ((id, some o) :: l).map (·.1) → find q.s.heap x = find (applyO h ((id, some o) :: l)) x) := fun q hq => by
      obtain ⟨h1, h2, h3, h4, h5⟩ := putAll_out l (upd h id o) v _ q hq
      refine ⟨h1, h2, h3, fun x hx => ?_, fun x hx => ?_⟩
      · simp only [List.map_cons, List.mem_cons, not_or] at hx
        obtain ⟨e1, e2⟩ := h4 x hx.2
        simp only [find_upd, if_neg (show ¬ id = x from fun e => hx.1 e.symm)] at e1 e2
        exact ⟨e1, e2⟩
      · by_cases hl : x ∈ l.map (·.1)
        · exact h5 x hl
        · obtain ⟨e1, e2⟩ := h4 x hl
          have : x = id := by simpa [hl] using hx
          subst this
          simp only [find_upd, if_true] at e1 e2
          rw [e1]; exact e2.symm
    unfold putAll at ho
    split at ho
    · simp only [Ac.run] at ho
      split at ho
      · cases ho
      · split at ho
        · cases ho
        · rename_i q hq
          simp only [Option.some.injEq] at ho
          subst ho
          exact key q hq
    · simp only [Ac.run] at ho
      split at ho
      · cases ho
      · split at ho
        · cases ho
        · rename_i q hq
          simp only [Option.some.injEq] at ho
          subst ho
          exact key q hq
  | (id, none) :: l, h, v, s, out, ho => by
    unfold putAll at ho
    simp only [Ac.run] at ho
    split at ho
    · cases ho
    · rename_i q hq
      simp only [Option.some.injEq] at ho
      subst ho
      obtain ⟨h1, h2, h3, h4, h5⟩ := putAll_out l (del h id) v _ q hq
      refine ⟨h1, h2, h3, fun x hx => ?_, fun x hx => ?_⟩
      · simp only [List.map_cons, List.mem_cons, not_or] at hx
        obtain ⟨e1, e2⟩ := h4 x hx.2
        simp only [find_del, if_neg (show ¬ id = x from fun e => hx.1 e.symm)] at e1 e2
        exact ⟨e1, e2⟩
      · by_cases hl : x ∈ l.map (·.1)
        · exact h5 x hl
        · obtain ⟨e1, e2⟩ := h4 x hl
          have : x = id := by simpa [hl] using hx
          subst this
          simp only [find_del, if_true] at e1 e2
          rw [e1]; exact e2.symm
theorem putAll_nw : ∀ (outs : List (Nat × Option Ob)) (h : Hp) (v : AV) (s : St) (out : Out AV), (putAll h outs v).run s = some out → out.nw = newIds h outs
  | [], h, v, s, out, ho => by
    simp only [putAll, Ac.run, Option.some.injEq] at ho
    subst ho
    rfl
  | (id, some o) :: l, h, v, s, out, ho => by
    unfold putAll at ho
    unfold newIds
    split at ho
    · simp only [Ac.run] at ho
      split at ho
      · cases ho
      · split at ho
        · cases ho
        · rename_i q hq
          simp only [Option.some.injEq] at ho
          subst ho
          exact putAll_nw l _ v _ q hq
    · simp only [Ac.run] at ho
      split at ho
      · cases ho
      · split at ho
        · cases ho
        · rename_i q hq
          simp only [Option.some.injEq] at ho
          subst ho
          simp only [putAll_nw l _ v _ q hq]
  | (id, none) :: l, h, v, s, out, ho => by
    unfold putAll at ho
    unfold newIds
    simp only [Ac.run] at ho
    split at ho
    · cases ho
    · rename_i q hq
      simp only [Option.some.injEq] at ho
      subst ho
      exact putAll_nw l _ v _ q hq

section
variable {P : Program} {E : Env} {s : St} {W : World}
/-- an operation does what its act says -/
def OpSem (P : Program) (o : Oper) (a : Act) (E : Env) (s : St) (W : World) (c : Ac AV) : Prop :=
  ∀ out, c.run s = some out → AllP out.ob → (∀ id ∈ out.nw, E id = none) → ∀ (K : Act → World → Prop) (Q : Exit → Act → World → Prop),
    (∀ E' W' cv, Ext E E' out.nw → RV E' out.a cv → RH E' out.s.heap W' → Mod E s.heap W E' out.s.heap W' → out.s.slots = s.slots → K (a.put o.dst cv) W') → o.wp P a W K Q
theorem OpSem.slot {o : Oper} {a : Act} {t : Nat} {k : AV → Ac AV} (h : ∀ v, nth s.slots t = some v → OpSem P o a E s W (k v)) : OpSem P o a E s W (.slot t k) := fun out ho hp hn K Q hK => by
  simp only [Ac.run] at ho
  split at ho
  · cases ho
  · rename_i v hv
    split at ho
    · cases ho
    · rename_i q hq
      simp only [Option.some.injEq] at ho
      subst ho
      exact h v hv q hq hp hn K Q hK
theorem OpSem.get {o : Oper} {a : Act} {id : Nat} {k : Ob → Ac AV} (h : ∀ v, find s.heap id = some v → OpSem P o a E s W (k v)) : OpSem P o a E s W (.get id k) := fun out ho hp hn K Q hK => by
  simp only [Ac.run] at ho
  split at ho
  · cases ho
  · rename_i v hv
    split at ho
    · cases ho
    · rename_i q hq
      simp only [Option.some.injEq] at ho
      subst ho
      exact h v hv q hq hp hn K Q hK
theorem OpSem.fail {o : Oper} {a : Act} : OpSem P o a E s W .fail := fun out h => by simp [Ac.run] at h
theorem OpSem.of {o : Oper} {a : Act} {sem : Sem Value} {c : Ac AV} (h : SemAt P E s W sem c) (he : ∀ cv W', sem.run P W = .ok cv W' → (execOp a.eval o).run P W = .ok (.value cv) W' ∨ (cv = undef ∧ (execOp a.eval o).run P W = .ok .skip W')) : OpSem P o a E s W c := fun out ho hp hn K Q hK => by
  obtain ⟨hs, cv, W', E', hr, hx, hv, hh, hm⟩ := h out ho hp hn
  unfold Oper.wp
  rcases he cv W' hr with e | ⟨rfl, e⟩
  · rw [e]; exact hK E' W' cv hx hv hh hm hs
  · rw [e]; exact hK E' W' undef hx hv hh hm hs
def ofV : Value → AV
  | .agg cs => .agg (cs.toList.map .val)
  | .func f a b => .fn f (a.toList.map .val) (b.toList.map .val)
  | v => .val v
theorem ofV_ok (E : Env) (v : Value) : RV E (ofV v) v := by
  cases v <;> simp only [ofV, RV]
  case agg cs => exact ⟨cs.toList, rfl, RVs.vals _⟩
  case func f a b => exact ⟨a.toList, b.toList, rfl, RVs.vals _, RVs.vals _⟩
def ev : Operand → Ac AV
  | .tmp t => .slot t .ret
  | .const v => .ret (ofV v)
  | .func f => .ret (.fn (.func f) [] [])
  | .global _ => .fail
def evL : List Operand → (List AV → Ac AV) → Ac AV
  | [], k => k []
  | x :: l, k => (ev x).bind fun v => evL l fun vs => k (v :: vs)
def evP : List (Nat × Operand) → (List (Nat × AV) → Ac AV) → Ac AV
  | [], k => k []
  | (i, x) :: l, k => (ev x).bind fun v => evP l fun vs => k ((i, v) :: vs)
def evO : Option Operand → (Option AV → Ac AV) → Ac AV
  | none, k => k none
  | some x, k => (ev x).bind fun v => k (some v)
theorem ev_ok {a : Act} (r : Rel E s W a) (o : Oper) (x : Operand) (k : AV → Ac AV) (h : ∀ v, RV E v (a.eval x) → OpSem P o a E s W (k v)) : OpSem P o a E s W ((ev x).bind k) := by
  cases x with
  | tmp t =>
    refine OpSem.slot fun v hv => ?_
    obtain ⟨c, hc, hv2⟩ := r.sl t v hv
    refine h v ?_
    have : a.eval (.tmp t) = c := by
      show a.tmps.getD t undef = c
      rw [Array.getD_eq_getD_getElem?, hc]; rfl
    rw [this]; exact hv2
  | const v => exact h _ (ofV_ok E v)
  | func f => exact h _ (by simp only [RV]; exact ⟨[], [], rfl, by simp [RVs], by simp [RVs]⟩)
  | global g => exact OpSem.fail
theorem evL_ok {a : Act} (r : Rel E s W a) (o : Oper) : ∀ (l : List Operand) (k : List AV → Ac AV), (∀ vs, RVs E vs (l.map a.eval) → OpSem P o a E s W (k vs)) → OpSem P o a E s W (evL l k)
  | [], k, h => h [] (by simp [RVs])
  | x :: l, k, h => ev_ok r o x _ fun v hv => evL_ok r o l _ fun vs hvs => h (v :: vs) (by simp only [List.map_cons, RVs]; exact ⟨_, _, rfl, hv, hvs⟩)
theorem evP_ok {a : Act} (r : Rel E s W a) (o : Oper) : ∀ (l : List (Nat × Operand)) (k : List (Nat × AV) → Ac AV), (∀ vs, RPs E vs (l.map fun (i, x) => (i, a.eval x)) → OpSem P o a E s W (k vs)) → OpSem P o a E s W (evP l k)
  | [], k, h => h [] (by simp [RPs])
  | (i, x) :: l, k, h => ev_ok r o x _ fun v hv => evP_ok r o l _ fun vs hvs => h ((i, v) :: vs) (by simp only [List.map_cons, RPs]; exact ⟨_, _, rfl, hv, hvs⟩)
theorem evO_ok {a : Act} (r : Rel E s W a) (o : Oper) (x : Option Operand) (k : Option AV → Ac AV) (h : ∀ v, ((v = none ∧ x.map a.eval = none) ∨ ∃ y w, v = some y ∧ x.map a.eval = some w ∧ RV E y w) → OpSem P o a E s W (k v)) : OpSem P o a E s W (evO x k) := by
  cases x with
  | none => exact h none (.inl ⟨rfl, rfl⟩)
  | some x => exact ev_ok r o x _ fun v hv => h (some v) (.inr ⟨v, _, rfl, rfl, hv⟩)
theorem getAll_ok {o : Oper} {a : Act} : ∀ (l : List Nat) (k : Hp → Ac AV), (∀ h, (∀ id ob, find h id = some ob → find s.heap id = some ob) → OpSem P o a E s W (k h)) → OpSem P o a E s W (getAll l k)
  | [], k, h => h [] (fun id ob e => by simp [find] at e)
  | id :: l, k, h => OpSem.get fun ob hob => getAll_ok l _ fun hp hsub => h ((id, ob) :: hp) fun x y e => by
    unfold find at e
    by_cases hx : id = x
    · subst hx; simp at e; rw [← e]; exact hob
    · simp [hx] at e; exact hsub x y e
end
end Go.Proofs.Ytbgbjgedjmhcaaa
