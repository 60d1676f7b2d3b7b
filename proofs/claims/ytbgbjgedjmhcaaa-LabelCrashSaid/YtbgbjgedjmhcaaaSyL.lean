/- The engine, part L: all operations. No conditions but those of each theorem. -/
import Derived.Test.YtbgbjgedjmhcaaaSyK
import Derived.Test.YtbgbjgedjmhcaaaSyY
namespace Go.Proofs.Ytbgbjgedjmhcaaa
open Go.RowKit
set_option linter.unusedVariables false
set_option linter.unusedSimpArgs false
section
variable {P : Program} {E : Env} {s : St} {W : World}
theorem getAll_sub : ∀ (l : List Nat) (h : Hp), True := fun _ _ => trivial
/-- a call -/
theorem call_ok {o : Oper} {a : Act} (r : RH E s.heap W) (hint : Hint) (g : FuncId) {args : List AV} {cargs : List Value} (hargs : RVs E args cargs)
    (he : (execOp a.eval o).run P W = (callFunc g cargs.toArray).run P W) : OpSem P o a E s W (goCall P hint g args) := by
  unfold goCall
  split
  case h_3 => exact OpSem.fail
  case h_2 ret =>
    intro out ho hp hn K Q hK
    simp only [Ac.run, Option.some.injEq] at ho
    subst ho
    obtain ⟨cv, h1, h2⟩ := hp.1 E W cargs hargs
    unfold Oper.wp
    rw [he, h1]
    exact hK E W cv (Ext.refl E) h2 r (Mod.refl _ _ _) rfl
  rename_i ids ret outs
  refine getAll_ok ids _ fun h hsub => ?_
  intro out ho hp hn K Q hK
  simp only [Ac.run] at ho
  split at ho
  · cases ho
  rename_i q hq
  simp only [Option.some.injEq] at ho
  subst ho
  obtain ⟨⟨hcf, hc⟩, hp2⟩ := hp
  obtain ⟨q1, q2, q3, q4, q5⟩ := putAll_out outs h ret s q hq
  have q6 := putAll_nw outs h ret s q hq
  have hcall := hc E W cargs hargs (r.sub hsub) (fun id hid => hn id (by rw [q6]; exact hid))
  unfold Oper.wp
  rw [he, hcf]
  simp only [Oper.upon]
  refine hcall.mono ?_
  rintro e W' ⟨cv, E', rfl, hx, hv, hh, hm⟩
  have hs : ∀ id ob, find q.s.heap id = some ob → find (applyO h outs) id = some ob ∨ (find s.heap id = some ob ∧ find h id = none) := fun id ob hob => by
    by_cases hin : id ∈ outs.map (·.1)
    · exact .inl (by rw [← q5 id hin]; exact hob)
    · obtain ⟨e1, e2⟩ := q4 id hin
      rw [e1] at hob
      cases hf : find h id with
      | none => exact .inr ⟨hob, rfl⟩
      | some ob' =>
        left
        rw [e2, hf]
        have := hsub id ob' hf
        rw [hob] at this
        rw [this]
  obtain ⟨f1, f2⟩ := RH.frame (H' := q.s.heap) r hsub hx hh hm hs
  exact hK E' W' cv (by rw [q6]; exact hx) (by rw [q1]; exact hv) f1 f2 q3
theorem inv_ok {o : Oper} {a : Act} (r : RH E s.heap W) (hint : Hint) (name : String) {recv : AV} {crecv : Value} (hrecv : RV E recv crecv) {args : List AV} {cargs : List Value} (hargs : RVs E args cargs)
    (he : (execOp a.eval o).run P W = (callMethod crecv name cargs.toArray).run P W) : OpSem P o a E s W (goInv P hint recv name args) := by
  unfold goInv
  split
  case h_2 => exact OpSem.fail
  rename_i f rx ids ret outs
  intro out ho hp hn K Q hK
  simp only [Ac.run] at ho
  split at ho
  · cases ho
  rename_i q hq
  simp only [Option.some.injEq] at ho
  subst ho
  obtain ⟨hm, hp2⟩ := hp
  obtain ⟨t, v, rc, rfl, h1, h2⟩ := hm E crecv hrecv
  refine call_ok (o := o) (a := a) r (.call ids ret outs) f (args := rx :: args) (cargs := rc :: cargs) (by simp only [RVs]; exact ⟨_, _, rfl, h1, hargs⟩) ?_ q hq hp2 hn K Q hK
  rw [he]
  simp only [callMethod, Sem.run_bind, run_program, Result.andThen_ok, h2]
  congr 2
  simp
def sliceH (P : Program) (h : Hint) (nm : Nat) (t : TypeId) (x : AV) (lo hi mx : Option AV) : Ac AV := match h with
  | .inpl => sliceInA P t x lo hi mx
  | _ => match x, lo, hi, mx with
    | .ptr id 0 0 0, none, none, none => sliceArrA P nm t id
    | .ptr id 0 0 0, lo, hi, none => sliceArrB P t id lo hi
    | _, _, _, _ => sliceA P t x lo hi mx
theorem sliceH_ok (r : RH E s.heap W) (hint : Hint) (nm : Nat) (t : TypeId) {x : AV} {c : Value} (hx : RV E x c) {lo hi mx : Option AV} {cl ch cm : Option Value} (hl : (lo = none ∧ cl = none) ∨ ∃ v w, lo = some v ∧ cl = some w ∧ RV E v w) (hh : (hi = none ∧ ch = none) ∨ ∃ v w, hi = some v ∧ ch = some w ∧ RV E v w) (hm : (mx = none ∧ cm = none) ∨ ∃ v w, mx = some v ∧ cm = some w ∧ RV E v w) :
    SemAt P E s W (Instr.sliceAt t c cl ch cm) (sliceH P hint nm t x lo hi mx) := by
  unfold sliceH
  split
  · exact sliceIn_ok r t hx hl hh hm
  · split
    · have e1 : cl = none := by
        rcases hl with ⟨_, h⟩ | ⟨v, w, h, _⟩
        · exact h
        · cases h
      have e2 : ch = none := by
        rcases hh with ⟨_, h⟩ | ⟨v, w, h, _⟩
        · exact h
        · cases h
      have e3 : cm = none := by
        rcases hm with ⟨_, h⟩ | ⟨v, w, h, _⟩
        · exact h
        · cases h
      subst e1 e2 e3
      exact sliceArr_ok r nm t _ hx
    · have e3 : cm = none := by
        rcases hm with ⟨_, h⟩ | ⟨v, w, h, _⟩
        · exact h
        · cases h
      subst e3
      exact sliceArrB_ok r t _ hx hl hh
    · exact slice_ok r t hx hl hh hm
def bltA (P : Program) (h : Hint) (nm : Nat) (b : Builtin) (ts : List TypeId) (args : List AV) : Ac AV := match b with
  | .len => match ts, args with
    | t :: _, [x] => lenA P t x
    | _, _ => .fail
  | .append => match ts, args with
    | [t, t'], [x, y] => match t == t' with
      | true => match h with
        | .inpl => appInA P t x y
        | _ => appA P nm t x y
      | false => match y with
        | .val (.int _ _) => appZA P nm t t' x y
        | _ => appSA P nm t t' x y
    | _, _ => .fail
  | .copy => match ts, args with
    | [t, _], [x, y] => copyA P t x y
    | _, _ => .fail
  | .clear => match ts, args with
    | [t], [x] => clearA P t x
    | _, _ => .fail
  | .min => minA args
  | .max => maxA args
  | .unsafeSliceData => match args with
    | [x] => uSlDataA x
    | _ => .fail
  | .unsafeString => match ts, args with
    | [_, _], [x, y] => uStringA P h ts x y
    | _, _ => .fail
  | _ => .fail
theorem blt_ok (r : RH E s.heap W) (h : Hint) (nm : Nat) (b : Builtin) (ts : Array TypeId) (ty : TypeId) (cs : Array Bool) {args : List AV} {cargs : List Value} (ha : RVs E args cargs) {o : Oper} {a : Act}
    (he : (execOp a.eval o).run P W = (builtin b ts ty cs cargs.toArray).run P W) : OpSem P o a E s W (bltA P h nm b ts.toList args) := by
  have fin : ∀ (sem : Sem Value) (c : Ac AV), builtin b ts ty cs cargs.toArray = (do pure (.value (← sem))) → SemAt P E s W sem c → OpSem P o a E s W c := fun sem c h1 h2 => OpSem.of h2 fun cv W' hr => .inl (by rw [he, h1]; simp [hr])
  unfold bltA
  split
  · split
    case h_2 => exact OpSem.fail
    rename_i t rest x hts
    simp only [RVs] at ha
    obtain ⟨y, m, rfl, hy, rfl⟩ := ha
    exact fin _ _ rfl (len_ok r t ty hy ts (by rw [← Array.getElem?_toList, hts]; rfl))
  · split
    case h_2 => exact OpSem.fail
    rename_i t t' x y hts
    simp only [RVs] at ha
    obtain ⟨cx, m, rfl, hx, cy, m2, rfl, hy, rfl⟩ := ha
    have : ts = #[t, t'] := by rw [← Array.toArray_toList (xs := ts), hts]
    subst this
    split
    case h_2 =>
      split
      · exact fin _ _ rfl (appz_ok r nm t t' ty hx hy)
      · exact fin _ _ rfl (appS_ok r nm t t' ty hx hy)
    rename_i htt
    have htt' : t = t' := by simpa using htt
    subst htt'
    split
    · exact fin _ _ rfl (appIn_ok r t ty hx hy)
    · exact fin _ _ rfl (app_ok r nm t ty hx hy)
  · split
    case h_2 => exact OpSem.fail
    rename_i t t' x y hts
    simp only [RVs] at ha
    obtain ⟨cx, m, rfl, hx, cy, m2, rfl, hy, rfl⟩ := ha
    have : ts = #[t, t'] := by rw [← Array.toArray_toList (xs := ts), hts]
    subst this
    exact fin _ _ rfl (copy_ok r t t' ty hx hy)
  · split
    case h_2 => exact OpSem.fail
    rename_i t x hts
    simp only [RVs] at ha
    obtain ⟨cx, m, rfl, hx, rfl⟩ := ha
    have : ts = #[t] := by rw [← Array.toArray_toList (xs := ts), hts]
    subst this
    exact fin _ _ rfl (clear_ok r t ty hx)
  · exact fin _ _ rfl (min_ok r _ _ ha)
  · exact fin _ _ rfl (max_ok r _ _ ha)
  · split
    case h_2 => exact OpSem.fail
    simp only [RVs] at ha
    obtain ⟨cx, m, rfl, hx, rfl⟩ := ha
    exact fin _ _ rfl (uSlData_ok r ts ty hx)
  · split
    case h_2 => exact OpSem.fail
    rename_i t t' x y hts
    simp only [RVs] at ha
    obtain ⟨cx, m, rfl, hx, cy, m2, rfl, hy, rfl⟩ := ha
    exact fin _ _ rfl (uString_ok r h ts ty hx hy ⟨t, t', by rw [← Array.toArray_toList (xs := ts), hts]⟩)
  · exact OpSem.fail
def nilChk (P : Program) : AV → Ac AV
  | .ptr id i es j => .ret (.ptr id i es j)
  | .ifc t v => .ret (.ifc t v)
  | .fn (.func f) a b => .ret (.fn (.func f) a b)
  | .fn (.method name) [.ifc t v] b => match nilA P 50 t v name with
    | true => .ret (.fn (.method name) [.ifc t v] b)
    | false => .fail
  | _ => .fail
def pickA (c a b : AV) : Ac AV := match c with
  | .val (.bool t) => match t with
    | true => .ret a
    | false => .ret b
  | _ => .fail
def callA (P : Program) (h : Hint) (f : AV) (args : List AV) : Ac AV := match f with
  | .fn (.func g) first cap => goCall P h g (first ++ args ++ cap)
  | .fn (.method name) [recv] _ => goInv P h recv name args
  | _ => .fail
/-- what an operation does, in names -/
def opA (P : Program) (h : Hint) (nm : Nat) (op : Op) : Ac AV := match op with
  | .move x => (ev x).bind .ret
  | .assign x => (ev x).bind .ret
  | .pick c a b => (ev c).bind fun c => (ev a).bind fun a => (ev b).bind fun b => pickA c a b
  | .alloc t => allocA P nm t
  | .box t x => (ev x).bind fun v => boxA nm t v
  | .build t parts => evP parts.toList fun vs => buildA P t vs
  | .buildSlice t len parts => evP parts.toList fun vs => bsA P nm t len vs
  | .load t x => (ev x).bind fun v => loadR P h t v
  | .store t x y => (ev x).bind fun a => (ev y).bind fun v => storeH P h t a v
  | .makeMap t none => makeMapA P nm t
  | .lookup t x ix ok => (ev x).bind fun m => (ev ix).bind fun k => lookupA P t m k ok
  | .mapUpdate t m k x => (ev m).bind fun m => (ev k).bind fun k => (ev x).bind fun v => updA P t m k v
  | .insert t m k x => (ev m).bind fun m => (ev k).bind fun k => (ev x).bind fun v => updA P t m k v
  | .nilCheck x => (ev x).bind (nilChk P)
  | .binOp op t x y _ => (ev x).bind fun a => (ev y).bind fun b => binS P h op t x y a b
  | .unOp op _ x => (ev x).bind fun v => unA h op v
  | .convert src dst x => (ev x).bind fun v => convH P h src dst v
  | .makeInterface t x => (ev x).bind fun v => ifaceA P t v
  | .makeFunc f first cap => evL first.toList fun l => evL cap.toList fun m => .ret (.fn f l m)
  | .makeSlice t l c => (ev l).bind fun l => (ev c).bind fun c => mkSliceA P nm t l c
  | .slice t x lo hi mx => (ev x).bind fun v => evO lo fun lo => evO hi fun hi => evO mx fun mx => sliceH P h nm t v lo hi mx
  | .fieldAddr t x f => (ev x).bind fun v => fieldAddrA P t v f
  | .field t x f => (ev x).bind fun v => fieldA P t v f
  | .indexAddr t x i => (ev x).bind fun v => (ev i).bind fun i => indexAddrA P t v i
  | .index t x i => (ev x).bind fun v => (ev i).bind fun i => indexA P t v i
  | .extract x i => (ev x).bind fun v => extractA v i
  | .sliceToArrayPointer t x => (ev x).bind fun v => arrPtrA P t v
  | .call c => match c.callee with
    | .builtin b => evL c.args.toList fun args => bltA P h nm b c.argTypes.toList args
    | .value f => (ev f).bind fun f => evL c.args.toList fun args => callA P h f args
    | .invoke x name => (ev x).bind fun v => evL c.args.toList fun args => goInv P h v name args
  | _ => .fail
set_option maxHeartbeats 2000000 in
theorem op_sem {a : Act} (r : Rel E s W a) (h : Hint) (nm : Nat) (o : Oper) : OpSem P o a E s W (opA P h nm o.op) := by
  have rh := r.hp
  have sv : ∀ {sem : Sem Value} {c : Ac AV}, SemAt P E s W sem c → (execOp a.eval o) = (do pure (.value (← sem))) → OpSem P o a E s W c := fun h1 h2 => OpSem.of h1 fun cv W' hr => .inl (by rw [h2]; simp [hr])
  obtain ⟨dst, op, ty, pos, after, guard⟩ := o
  simp only
  unfold opA
  split
  · exact ev_ok r _ _ _ fun v hv => OpSem.of (sem := pure (a.eval _)) (SemAt.ret rh (by simp; rfl) hv) fun cv W' hr => .inl (by simp at hr; simp [execOp, hr])
  · exact ev_ok r _ _ _ fun v hv => OpSem.of (sem := pure (a.eval _)) (SemAt.ret rh (by simp; rfl) hv) fun cv W' hr => .inl (by simp at hr; simp [execOp, hr])
  · refine ev_ok r _ _ _ fun c hc => ev_ok r _ _ _ fun x hx => ev_ok r _ _ _ fun y hy => ?_
    unfold pickA
    split
    case h_2 => exact OpSem.fail
    rename_i t
    simp only [RV] at hc
    split
    · exact OpSem.of (sem := pure (a.eval _)) (SemAt.ret rh (by simp; rfl) hx) fun cv W' hr => .inl (by simp at hr; simp [execOp, hc, asBool, hr])
    · exact OpSem.of (sem := pure (a.eval _)) (SemAt.ret rh (by simp; rfl) hy) fun cv W' hr => .inl (by simp at hr; simp [execOp, hc, asBool, hr])
  · exact sv (alloc_ok rh nm _) rfl
  · exact ev_ok r _ _ _ fun v hv => sv (box_ok rh nm _ hv) rfl
  · rename_i t parts
    exact evP_ok r _ _ _ fun vs hvs => sv (build_ok rh t (vparts := parts.map fun (i, x) => (i, a.eval x)) (by simpa using hvs)) rfl
  · rename_i t len parts
    exact evP_ok r _ _ _ fun vs hvs => sv (bs_ok rh nm t len (vparts := parts.map fun (i, x) => (i, a.eval x)) (by simpa using hvs)) rfl
  · exact ev_ok r _ _ _ fun v hv => sv (loadR_ok rh h hv) rfl
  · refine ev_ok r _ _ _ fun x hx => ev_ok r _ _ _ fun v hv => OpSem.of (storeH_ok rh h hx hv) fun cv W' hr => .inr ?_
    simp only [Sem.run_bind] at hr
    simp only [execOp, Sem.run_bind]
    generalize (Instr.storeAt _ _ _).run P W = q at hr ⊢
    cases q with
    | ok u w => simp at hr; simp [hr]
    | halt x w => simp [Result.andThen] at hr
  · exact sv (makeMap_ok rh nm _) rfl
  · exact ev_ok r _ _ _ fun m hm => ev_ok r _ _ _ fun k hk => sv (lookup_ok rh _ _ hm hk) rfl
  · refine ev_ok r _ _ _ fun m hm => ev_ok r _ _ _ fun k hk => ev_ok r _ _ _ fun v hv => OpSem.of (upd_ok rh _ hm hk hv) fun cv W' hr => .inr ?_
    simp only [Sem.run_bind] at hr
    simp only [execOp, Sem.run_bind]
    generalize (Instr.mapUpdate _ _ _ _).run P W = q at hr ⊢
    cases q with
    | ok u w => simp at hr; simp [hr]
    | halt x w => simp [Result.andThen] at hr
  · refine ev_ok r _ _ _ fun m hm => ev_ok r _ _ _ fun k hk => ev_ok r _ _ _ fun v hv => OpSem.of (upd_ok rh _ hm hk hv) fun cv W' hr => .inr ?_
    simp only [Sem.run_bind] at hr
    simp only [execOp, Sem.run_bind]
    generalize (Instr.mapUpdate _ _ _ _).run P W = q at hr ⊢
    cases q with
    | ok u w => simp at hr; simp [hr]
    | halt x w => simp [Result.andThen] at hr
  · refine ev_ok r _ _ _ fun v hv => ?_
    unfold nilChk
    split
    · have hv' := hv
      simp only [RV] at hv
      obtain ⟨b, k, he, hc⟩ := hv
      exact OpSem.of (sem := pure (a.eval _)) (SemAt.ret rh (by simp; rfl) hv') fun cv W' hr => .inl (by simp at hr; simp [execOp, hc, ← hr.1, hr.2])
    · have hv' := hv
      simp only [RV] at hv
      obtain ⟨b, hc, _⟩ := hv
      exact OpSem.of (sem := pure (a.eval _)) (SemAt.ret rh (by simp; rfl) hv') fun cv W' hr => .inl (by simp at hr; simp [execOp, hc, ← hr.1, hr.2])
    · have hv' := hv
      simp only [RV] at hv
      obtain ⟨b, b2, hc, _⟩ := hv
      exact OpSem.of (sem := pure (a.eval _)) (SemAt.ret rh (by simp; rfl) hv') fun cv W' hr => .inl (by simp at hr; simp [execOp, hc, ← hr.1, hr.2])
    · split
      · rename_i hn
        have hv' := hv
        simp only [RV, RVs] at hv
        obtain ⟨xs, ys, hc, ⟨y, l, rfl, ⟨x, rfl, hx⟩, rfl⟩, hys⟩ := hv
        have hna := fun W => nilA_run (P := P) 50 _ _ _ x hn hx (P.types.size + Made.depth) W (by unfold Made.depth; omega)
        exact OpSem.of (sem := pure (a.eval _)) (SemAt.ret rh (by simp; rfl) hv') fun cv W' hr => .inl (by simp at hr; simp [execOp, hc, ← hr.1, hr.2, hna])
      · exact OpSem.fail
    · exact OpSem.fail
  · exact ev_ok r _ _ _ fun x hx => ev_ok r _ _ _ fun y hy => sv (binS_ok rh h _ _ _ _ hx hy) rfl
  · exact ev_ok r _ _ _ fun x hx => sv (un_ok rh h _ hx) rfl
  · exact ev_ok r _ _ _ fun x hx => sv (convH_ok rh h _ _ hx) rfl
  · exact ev_ok r _ _ _ fun x hx => sv (iface_ok rh _ hx) rfl
  · rename_i f first cap
    refine evL_ok r _ _ _ fun l hl => evL_ok r _ _ _ fun m hm => sv (sem := Instr.makeFunc f (first.map a.eval) (cap.map a.eval)) (SemAt.ret rh rfl ?_) rfl
    simp only [RV]
    have e1 : ∀ (x : Array Operand), x.map a.eval = (x.toList.map a.eval).toArray := fun x => by apply Array.ext'; simp
    exact ⟨_, _, by rw [e1, e1], hl, hm⟩
  · exact ev_ok r _ _ _ fun x hx => ev_ok r _ _ _ fun y hy => sv (mkSlice_ok rh nm _ hx hy) rfl
  · exact ev_ok r _ _ _ fun x hx => evO_ok r _ _ _ fun lo hlo => evO_ok r _ _ _ fun hi hhi => evO_ok r _ _ _ fun mx hmx => sv (sliceH_ok rh h nm _ hx hlo hhi hmx) rfl
  · exact ev_ok r _ _ _ fun x hx => sv (fieldAddr_ok rh _ hx _) rfl
  · exact ev_ok r _ _ _ fun x hx => sv (field_ok rh _ hx _) rfl
  · exact ev_ok r _ _ _ fun x hx => ev_ok r _ _ _ fun y hy => sv (indexAddr_ok rh _ hx hy) rfl
  · exact ev_ok r _ _ _ fun x hx => ev_ok r _ _ _ fun y hy => sv (index_ok rh _ hx hy) rfl
  · exact ev_ok r _ _ _ fun x hx => sv (extract_ok rh hx _) rfl
  · exact ev_ok r _ _ _ fun x hx => sv (arrPtr_ok rh _ hx) rfl
  · rename_i c
    split
    · rename_i b hb
      refine evL_ok r _ _ _ fun args hargs => blt_ok rh h nm b c.argTypes ty (c.args.map fun | .const _ => true | _ => false) hargs ?_
      simp only [execOp, resolve, hb, Sem.run_bind, Sem.run_pure, Result.andThen_ok, invoke]
      congr 2
      apply Array.ext'
      simp
    · rename_i f hf
      refine ev_ok r _ _ _ fun fv hfv => evL_ok r _ _ _ fun args hargs => ?_
      unfold callA
      split
      case h_3 => exact OpSem.fail
      · rename_i g first cap
        simp only [RV] at hfv
        obtain ⟨xs, ys, hc, hx, hy⟩ := hfv
        refine call_ok rh h g ((hx.append hargs).append hy) ?_
        simp only [execOp, resolve, hf, hc, Deferred.ofValue, Sem.run_bind, Sem.run_pure, Result.andThen_ok, invoke]
        congr 2
        apply Array.ext'
        simp
      · rename_i name recv cap
        simp only [RV, RVs] at hfv
        obtain ⟨xs, ys, hc, ⟨y, l, rfl, hy, rfl⟩, hys⟩ := hfv
        refine inv_ok rh h name hy hargs ?_
        have e0 : (#[y] ++ Array.map a.eval c.args)[0]? = some y := by simp [Array.getElem?_append]
        have e1 : (#[y] ++ Array.map a.eval c.args).extract 1 (#[y] ++ Array.map a.eval c.args).size = (c.args.toList.map a.eval).toArray := by
          apply Array.ext'
          simp
          rw [List.take_of_length_le (by simp)]
        simp only [execOp, resolve, hf, hc, Deferred.ofValue, Sem.run_bind, Sem.run_pure, Result.andThen_ok, invoke, e0, e1]
    · rename_i x name hf
      refine ev_ok r _ _ _ fun fv hfv => evL_ok r _ _ _ fun args hargs => inv_ok rh h name hfv hargs ?_
      have e0 : (#[a.eval x] ++ Array.map a.eval c.args)[0]? = some (a.eval x) := by simp [Array.getElem?_append]
      have e1 : (#[a.eval x] ++ Array.map a.eval c.args).extract 1 (#[a.eval x] ++ Array.map a.eval c.args).size = (c.args.toList.map a.eval).toArray := by
        apply Array.ext'
        simp
        rw [List.take_of_length_le (by simp)]
      simp only [execOp, resolve, hf, Sem.run_bind, Sem.run_pure, Result.andThen_ok, invoke, e0, e1]
  · exact OpSem.fail

/-! ### A step of a region -/
def dstOf (ops : Array Oper) (j : Nat) : Option Tmp := match nth ops.toList j with
  | some o => o.dst
  | none => none
def gWant (b w : Bool) : Bool := match b, w with
  | true, true => true
  | false, false => true
  | _, _ => false
/-- is the operation wanted? -/
def wantA (ops : Array Oper) (g : Option (Nat × Bool)) (k : Bool → Ac Unit) : Ac Unit := match g with
  | none => k true
  | some (j, want) => match dstOf ops j with
    | none => .fail
    | some d => .slot d fun v => match v with
      | .val (.bool b) => k (gWant b want)
      | .val (.tuple _) => k false
      | _ => .fail
def setD (d : Option Tmp) (v : AV) : Ac Unit := match d with
  | none => .ret ()
  | some t => .set t v (.ret ())
/-- a truth value that is decided -/
def fixB (h : Hint) (v : AV) : Ac AV := match h with
  | .tt c => match v with
    | .val (.bool e) => .need (e = c) (.ret (.val (.bool c)))
    | v => .ret v
  | .is w => .need (v = w) (.ret w)
  | _ => .ret v
def stepA (P : Program) (ops : Array Oper) (hs : Nat → Hint) (nx : Nat) (i : Nat) : Ac Unit := match nth ops.toList i with
  | none => .fail
  | some o => wantA ops o.guard fun b => match b with
    | true => (opA P (hs i) (nx + i) o.op).bind fun v => (fixB (hs i) v).bind fun w => setD o.dst w
    | false => setD o.dst undefA
end
theorem run_bind {α β : Type} (c : Ac α) (k : α → Ac β) : ∀ (s : St) (out : Out β), (c.bind k).run s = some out → ∃ o1 o2, c.run s = some o1 ∧ (k o1.a).run o1.s = some o2 ∧ out.a = o2.a ∧ out.s = o2.s ∧ out.rd = o1.rd ++ o2.rd ∧ out.wr = o1.wr ++ o2.wr ∧ out.nw = o1.nw ++ o2.nw ∧ out.ob = o1.ob ++ o2.ob := by
  induction c with
  | ret a => intro s out h; exact ⟨⟨a, s, [], [], [], []⟩, out, rfl, h, rfl, rfl, by simp, by simp, by simp, by simp⟩
  | slot t f ih =>
    intro s out h
    simp only [Ac.bind, Ac.run] at h
    split at h
    · cases h
    · rename_i v hv
      split at h
      · cases h
      · rename_i q hq
        simp only [Option.some.injEq] at h
        subst h
        obtain ⟨o1, o2, h1, h2, h3, h4, h5, h6, h7, h8⟩ := ih v s q hq
        exact ⟨⟨o1.a, o1.s, .slot t :: o1.rd, o1.wr, o1.nw, o1.ob⟩, o2, by simp only [Ac.run, hv, h1], h2, h3, h4, by simp [h5], h6, h7, h8⟩
  | get id f ih =>
    intro s out h
    simp only [Ac.bind, Ac.run] at h
    split at h
    · cases h
    · rename_i v hv
      split at h
      · cases h
      · rename_i q hq
        simp only [Option.some.injEq] at h
        subst h
        obtain ⟨o1, o2, h1, h2, h3, h4, h5, h6, h7, h8⟩ := ih v s q hq
        exact ⟨⟨o1.a, o1.s, .ob id :: o1.rd, o1.wr, o1.nw, o1.ob⟩, o2, by simp only [Ac.run, hv, h1], h2, h3, h4, by simp [h5], h6, h7, h8⟩
  | new id o f ih =>
    intro s out h
    simp only [Ac.bind, Ac.run] at h
    split at h
    · cases h
    · rename_i hv
      split at h
      · cases h
      · rename_i q hq
        simp only [Option.some.injEq] at h
        subst h
        obtain ⟨o1, o2, h1, h2, h3, h4, h5, h6, h7, h8⟩ := ih _ q hq
        exact ⟨⟨o1.a, o1.s, .ob id :: o1.rd, .ob id :: o1.wr, id :: o1.nw, o1.ob⟩, o2, by simp only [Ac.run, hv, h1], h2, h3, h4, by simp [h5], by simp [h6], by simp [h7], h8⟩
  | put id o f ih =>
    intro s out h
    simp only [Ac.bind, Ac.run] at h
    split at h
    · cases h
    · rename_i v hv
      split at h
      · cases h
      · rename_i q hq
        simp only [Option.some.injEq] at h
        subst h
        obtain ⟨o1, o2, h1, h2, h3, h4, h5, h6, h7, h8⟩ := ih _ q hq
        exact ⟨⟨o1.a, o1.s, .ob id :: o1.rd, .ob id :: o1.wr, o1.nw, o1.ob⟩, o2, by simp only [Ac.run, hv, h1], h2, h3, h4, by simp [h5], by simp [h6], h7, h8⟩
  | del id f ih =>
    intro s out h
    simp only [Ac.bind, Ac.run] at h
    split at h
    · cases h
    · rename_i q hq
      simp only [Option.some.injEq] at h
      subst h
      obtain ⟨o1, o2, h1, h2, h3, h4, h5, h6, h7, h8⟩ := ih _ q hq
      exact ⟨⟨o1.a, o1.s, o1.rd, .ob id :: o1.wr, o1.nw, o1.ob⟩, o2, by simp only [Ac.run, h1], h2, h3, h4, h5, by simp [h6], h7, h8⟩
  | set t v f ih =>
    intro s out h
    simp only [Ac.bind, Ac.run] at h
    split at h
    · cases h
    · rename_i w hv
      split at h
      · cases h
      · rename_i q hq
        simp only [Option.some.injEq] at h
        subst h
        obtain ⟨o1, o2, h1, h2, h3, h4, h5, h6, h7, h8⟩ := ih _ q hq
        exact ⟨⟨o1.a, o1.s, .slot t :: o1.rd, .slot t :: o1.wr, o1.nw, o1.ob⟩, o2, by simp only [Ac.run, hv, h1], h2, h3, h4, by simp [h5], by simp [h6], h7, h8⟩
  | need p f ih =>
    intro s out h
    simp only [Ac.bind, Ac.run] at h
    split at h
    · cases h
    · rename_i q hq
      simp only [Option.some.injEq] at h
      subst h
      obtain ⟨o1, o2, h1, h2, h3, h4, h5, h6, h7, h8⟩ := ih _ q hq
      exact ⟨⟨o1.a, o1.s, o1.rd, o1.wr, o1.nw, p :: o1.ob⟩, o2, by simp only [Ac.run, h1], h2, h3, h4, h5, h6, h7, by simp [h8]⟩
  | fail => intro s out h; simp [Ac.bind, Ac.run] at h
theorem rel_set {E : Env} {s : St} {W : World} {a : Act} {d : Option Tmp} {v : AV} {c : Value} {out : Out Unit} (h1 : a.tmps.size = s.slots.length) (h2 : ∀ t v, nth s.slots t = some v → ∃ c, a.tmps[t]? = some c ∧ RV E v c) (h3 : a.defers = []) (h4 : RH E s.heap W) (hv : RV E v c) (ho : (setD d v).run s = some out) :
    Rel E out.s W (a.put d c) ∧ out.nw = [] ∧ out.ob = [] ∧ out.s.heap = s.heap := by
  unfold setD at ho
  cases d with
  | none =>
    simp only [Ac.run, Option.some.injEq] at ho
    subst ho
    exact ⟨⟨h1, h2, h3, h4⟩, rfl, rfl, rfl⟩
  | some t =>
    simp only [Ac.run] at ho
    split at ho
    · cases ho
    · rename_i w hw
      simp only [Option.some.injEq] at ho
      subst ho
      have hlt : t < s.slots.length := by rw [nth_eq] at hw; exact (List.getElem?_eq_some_iff.1 hw).1
      refine ⟨⟨by simp [Act.put, setN_eq, h1], fun u x hu => ?_, h3, h4⟩, rfl, rfl, rfl⟩
      simp only [nth_eq, setN_eq] at hu
      simp only [Act.put, Array.getElem?_setIfInBounds]
      rw [List.getElem?_set] at hu
      by_cases e : t = u
      · subst e
        simp only [hlt, if_true, Option.some.injEq] at hu
        subst hu
        exact ⟨c, by simp [h1, hlt], hv⟩
      · rw [if_neg e] at hu
        obtain ⟨y, hy, hy2⟩ := h2 u x (by rw [nth_eq]; exact hu)
        exact ⟨y, by rw [if_neg e]; exact hy, hy2⟩
theorem step_ok {P : Program} (ops : Array Oper) (hs : Nat → Hint) (nx i : Nat) (o : Oper) (ho : ops[i]? = some o) : OpOK P ops o (stepA P ops hs nx i) := by
  intro E s W a out hrun hob r hn K Q hK
  unfold stepA at hrun
  have ho' : nth ops.toList i = some o := by rw [nth_eq]; simpa using ho
  rw [ho'] at hrun
  dsimp only at hrun
  have yes : ∀ out, ((opA P (hs i) (nx + i) o.op).bind fun v => (fixB (hs i) v).bind fun w => setD o.dst w).run s = some out → AllP out.ob → (∀ id ∈ out.nw, E id = none) → (∀ E' W' a', Ext E E' out.nw → Rel E' out.s W' a' → Mod E s.heap W E' out.s.heap W' → K a' W') → o.wp P a W K Q := by
    intro out hrun hob hn hK
    obtain ⟨o1, o2, h1, h2, h3, h4, h5, h6, h7, h8⟩ := run_bind _ _ s out hrun
    rw [h8, AllP.append] at hob
    obtain ⟨o3, o4, k1, k2, k3, k4, k5, k6, k7, k8⟩ := run_bind _ _ o1.s o2 h2
    rw [k8, AllP.append] at hob
    have hfix : o3.s = o1.s ∧ o3.nw = [] ∧ ∀ (E : Env) c, RV E o1.a c → RV E o3.a c := by
      unfold fixB at k1
      split at k1
      · split at k1
        · rename_i e heq
          simp only [Ac.run, Option.some.injEq] at k1
          have hob3 := hob.2.1
          rw [← k1] at hob3 ⊢
          refine ⟨rfl, rfl, fun E c hc => ?_⟩
          rw [heq] at hc
          simp only [RV] at hc ⊢
          rw [hc, hob3.1]
        · simp only [Ac.run, Option.some.injEq] at k1
          rw [← k1]
          exact ⟨rfl, rfl, fun E c hc => hc⟩
      · simp only [Ac.run, Option.some.injEq] at k1
        have hob3 := hob.2.1
        rw [← k1] at hob3 ⊢
        exact ⟨rfl, rfl, fun E c hc => hob3.1 ▸ hc⟩
      · simp only [Ac.run, Option.some.injEq] at k1
        rw [← k1]
        exact ⟨rfl, rfl, fun E c hc => hc⟩
    obtain ⟨f1, f2, f3⟩ := hfix
    rw [f1] at k2
    rw [k7, f2, List.nil_append] at h7
    rw [k4] at h4
    refine op_sem r (hs i) (nx + i) o o1 h1 hob.1 (fun id hid => hn id (by rw [h7]; exact List.mem_append_left _ hid)) K Q fun E' W' cv hx hv hh hm hsl => ?_
    obtain ⟨g1, g2, g3, g4⟩ := rel_set (a := a) (c := cv) (W := W') (v := o3.a) (out := o4) (by rw [hsl]; exact r.size) (fun t v ht => by
      rw [hsl] at ht
      obtain ⟨c, hc, hc2⟩ := r.sl t v ht
      exact ⟨c, hc, RV.mono hx.1 _ _ hc2⟩) r.df hh (f3 _ _ hv) k2
    refine hK E' W' _ (by rw [h7, g2, List.append_nil]; exact hx) (by rw [h4]; exact g1) (by rw [h4, g4]; exact hm)
  have no : ∀ out, (setD o.dst undefA).run s = some out → AllP out.ob → (∀ E' W' a', Ext E E' out.nw → Rel E' out.s W' a' → Mod E s.heap W E' out.s.heap W' → K a' W') → K (a.put o.dst undef) W := by
    intro out hrun hob hK
    obtain ⟨g1, g2, g3, g4⟩ := rel_set (a := a) (c := undef) (v := undefA) (W := W) r.size r.sl r.df r.hp (by simp [undefA, RV]) hrun
    refine hK E W _ (by rw [g2]; exact Ext.refl E) g1 (by rw [g4]; exact Mod.refl _ _ _)
  unfold wantA at hrun
  cases hg : o.guard with
  | none =>
    rw [hg] at hrun
    dsimp only at hrun
    have hw : Region.wanted o (yielded ops a.tmps) = true := by unfold Region.wanted; rw [hg]
    rw [if_pos hw]
    exact yes out hrun hob hn hK
  | some g =>
    obtain ⟨j, want⟩ := g
    rw [hg] at hrun
    dsimp only at hrun
    split at hrun
    · simp [Ac.run] at hrun
    · rename_i d hd
      simp only [Ac.run] at hrun
      split at hrun
      · cases hrun
      · rename_i v hv
        split at hrun
        · cases hrun
        · rename_i q hq
          simp only [Option.some.injEq] at hrun
          subst hrun
          obtain ⟨c, hc, hc2⟩ := r.sl d v hv
          have hdd : (ops[j]?).bind (·.dst) = some d := by
            unfold dstOf at hd
            split at hd
            · rename_i o' ho2
              rw [nth_eq] at ho2
              have : ops[j]? = some o' := by simpa using ho2
              rw [this]; exact hd
            · cases hd
          have hy : yielded ops a.tmps j = match c with | .bool b => some b | _ => none := by
            unfold yielded
            rw [hdd]
            simp only [Option.bind_some, hc]
            cases c <;> rfl
          split at hq
          · rename_i b
            simp only [RV] at hc2
            subst hc2
            have hw : Region.wanted o (yielded ops a.tmps) = gWant b want := by
              unfold Region.wanted
              rw [hg]
              simp only [hy]
              cases b <;> cases want <;> rfl
            rw [hw]
            cases hbw : gWant b want with
            | true =>
              rw [hbw] at hq
              rw [if_pos rfl]
              exact yes q hq hob hn hK
            | false =>
              rw [hbw] at hq
              rw [if_neg (by simp)]
              exact no q hq hob hK
          · rename_i l
            simp only [RV] at hc2
            subst hc2
            have hw : Region.wanted o (yielded ops a.tmps) = false := by
              unfold Region.wanted
              rw [hg]
              simp only [hy]
              rfl
            rw [if_neg (by rw [hw]; simp)]
            exact no q hq hob hK
          · simp [Ac.run] at hq
end Go.Proofs.Ytbgbjgedjmhcaaa
