/- A region that draws its order, by a plan: the final frame, the worlds between the operations that write, and each operation run once at the final frame. No conditions but those of each theorem. -/
import Derived.Test.YtonjaghkiaaipaaRows
import Derived.WalkKit
import Derived.RangeFuncNested
import Derived.OrdersIn
import Derived.CallsIn
namespace Go.Proofs.Ytonjaghkiaaipaa.OldB
open Go.RowKit
set_option linter.unusedVariables false
set_option linter.unusedSimpArgs false

/-- no 'defer' statement -/
def plainOp (o : Oper) : Bool := match o.op with
  | .defer _ => false
  | _ => true
theorem plainOp_spec {o : Oper} (h : plainOp o = true) (c) : o.op ≠ .defer c := by
  intro e
  unfold plainOp at h
  rw [e] at h
  cases h
/-- a wide fence, in a round or not -/
def wideR (ro : Option Nat) : Fence := { Fence.wide with round := ro }

/-- what operation i waits for, with all that those wait for, as a set of bits -/
def maskF (l : List Oper) : Nat → Nat → Nat
  | 0, _ => 0
  | f + 1, i => match l[i]? with
    | none => 0
    | some o => o.after.toList.foldl (fun m e => if Region.binds .any e then (m ||| 2 ^ e.on) ||| maskF l f e.on else m) 0

theorem fold_bit {α : Type} (p : α → Bool) (g h : α → Nat) (j : Nat) : ∀ (es : List α) (m : Nat), (es.foldl (fun m e => if p e then (m ||| 2 ^ g e) ||| h e else m) m).testBit j = true → m.testBit j = true ∨ ∃ e ∈ es, p e = true ∧ (g e = j ∨ (h e).testBit j = true)
  | [], m, H => .inl H
  | e :: es, m, H => by
    rw [List.foldl_cons] at H
    rcases fold_bit p g h j es _ H with h1 | ⟨e', h1, h2⟩
    · by_cases hp : p e = true
      · rw [if_pos hp, Nat.testBit_or, Nat.testBit_or, Nat.testBit_two_pow] at h1
        simp only [Bool.or_eq_true, decide_eq_true_eq] at h1
        rcases h1 with (h1 | h1) | h1
        · exact .inl h1
        · exact .inr ⟨e, List.mem_cons_self .., hp, .inl h1⟩
        · exact .inr ⟨e, List.mem_cons_self .., hp, .inr h1⟩
      · rw [if_neg hp] at h1; exact .inl h1
    · exact .inr ⟨e', List.mem_cons_of_mem _ h1, h2⟩

/-- what is listed has what it waits for listed -/
def Clo (l : List Oper) (L : Array Bool) : Prop := ∀ i o, l[i]? = some o → L.getD i false = true → ∀ e ∈ o.after, Region.binds .any e = true → L.getD e.on false = true
theorem mask_on {l : List Oper} {L : Array Bool} (hc : Clo l L) : ∀ (f i j : Nat), (maskF l f i).testBit j = true → (∀ o, l[i]? = some o → ∀ e ∈ o.after, Region.binds .any e = true → L.getD e.on false = true) → L.getD j false = true
  | 0, i, j, h, _ => by simp [maskF] at h
  | f + 1, i, j, h, hi => by
    unfold maskF at h
    cases ho : l[i]? with
    | none => rw [ho] at h; simp at h
    | some o =>
      rw [ho] at h
      rcases fold_bit _ _ _ j _ _ h with h1 | ⟨e, he, hb, h1⟩
      · simp at h1
      · have hl := hi o ho e (by simpa using he) hb
        rcases h1 with h1 | h1
        · rw [← h1]; exact hl
        · exact mask_on hc f e.on j h1 (fun o' ho' => hc e.on o' ho' hl)
theorem mask_up {l : List Oper} {L : Array Bool} (hc : Clo l L) (f i j : Nat) (h : (maskF l f i).testBit j = true) (hi : L.getD i false = true) : L.getD j false = true :=
  mask_on hc f i j h (fun o ho => hc i o ho hi)

/-- all values put at their places -/
def putAll : List Oper → List Value → Act → Act
  | o :: os, v :: vs, a => putAll os vs (a.put o.dst v)
  | _, _, a => a
theorem put_size (a : Act) (d : Option Tmp) (v : Value) : (a.put d v).tmps.size = a.tmps.size := by cases d <;> simp [Act.put]
theorem put_defers (a : Act) (d : Option Tmp) (v : Value) : (a.put d v).defers = a.defers := by cases d <;> rfl
theorem put_off (a : Act) (d : Option Tmp) (v : Value) (s : Nat) (h : d ≠ some s) : (a.put d v).tmps[s]? = a.tmps[s]? := by
  cases d with
  | none => rfl
  | some d =>
    have : d ≠ s := fun e => h (by rw [e])
    simp [Act.put, Array.getElem?_setIfInBounds, this]
theorem put_at (a : Act) (s : Nat) (v : Value) (h : s < a.tmps.size) : (a.put (some s) v).tmps[s]? = some v := by
  simp [Act.put, Array.getElem?_setIfInBounds, h]
theorem putAll_keeps : ∀ (l : List Oper) (vs : List Value) (a : Act), (putAll l vs a).tmps.size = a.tmps.size ∧ (putAll l vs a).defers = a.defers ∧ ∀ s, (∀ o ∈ l, o.dst ≠ some s) → (putAll l vs a).tmps[s]? = a.tmps[s]?
  | [], _, a => by unfold putAll; exact ⟨rfl, rfl, fun _ _ => rfl⟩
  | o :: os, [], a => by unfold putAll; exact ⟨rfl, rfl, fun _ _ => rfl⟩
  | o :: os, v :: vs, a => by
    unfold putAll
    obtain ⟨h1, h2, h3⟩ := putAll_keeps os vs (a.put o.dst v)
    exact ⟨h1.trans (put_size _ _ _), h2.trans (put_defers _ _ _), fun s hs => (h3 s fun o' ho' => hs o' (List.mem_cons_of_mem _ ho')).trans (put_off _ _ _ _ (hs o (List.mem_cons_self ..)))⟩

/-- the values that a frame has at the places of operations -/
def valsOf (l : List Oper) (aF : Act) : List Value := l.map fun o => match o.dst with
  | some d => aF.tmps.getD d undef
  | none => undef

/-- operation o, at the final frame, leaves that frame, and leads from one world to another -/
def StepP (P : Program) (ops : Array Oper) (aF : Act) (o : Oper) (w w' : World) : Prop :=
  if Region.wanted o (yielded ops aF.tmps) = true then o.wp P aF w (fun a' w'' => a' = aF ∧ w'' = w') (fun _ _ _ => False) else (aF.put o.dst undef = aF ∧ w = w')

/-- operation o, which reads what stood there before the region -/
def StepE (P : Program) (ops : Array Oper) (a0 aF : Act) (o : Oper) (w w' : World) : Prop :=
  Region.wanted o (yielded ops a0.tmps) = true ∧ ∃ v, (execOp a0.eval o).run P w = .ok (.value v) w' ∧ aF.put o.dst v = aF
/-- a step of one of both kinds -/
def StepK (P : Program) (ops : Array Oper) (a0 aF : Act) (early : Bool) (o : Oper) (w w' : World) : Prop :=
  if early then StepE P ops a0 aF o w w' else StepP P ops aF o w w'

/-- how many of the writing operations are listed -/
def phase (sp : List Nat) (L : Array Bool) : Nat := (sp.filter fun i => L.getD i false).length

/-- the check of a plan: the writing operations in their order, and for each operation the worlds in which it may come up -/
def planB (l : List Oper) (size : Nat) (er : List Nat) (sp : List Nat) (ph : List (List (Nat × Nat))) : Bool :=
  (l.all plainOp && Region.noSelect l.toArray) &&
  ((l.all fun o => match o.dst with | some d => decide (d < size) | none => true) &&
  (((List.range l.length).all fun i => match l[i]? with
    | none => true
    | some o => (o.after.toList.all fun e => !Region.binds .any e || decide (e.on < i)) && (o.looksAt l.toArray).all fun s => (List.range l.length).all fun j => (match l[j]? with | some oj => oj.dst != some s | none => true) || (if er.contains i then (maskF l l.length j).testBit i else (maskF l l.length i).testBit j)) &&
  (((List.range (sp.length - 1)).all fun k => (maskF l l.length (sp[k + 1]?.getD 0)).testBit (sp[k]?.getD 0)) &&
  (((List.range sp.length).all fun m => (List.range m).all fun k => sp[k]? != sp[m]?) &&
  ((List.range l.length).all fun i =>
    ((List.range sp.length).all fun k => sp[k]? != some i || (ph[i]?.getD []).contains (k, k + 1)) &&
    (sp.contains i || (List.range (sp.length + 1)).all fun k => decide (k < (sp.filter fun t => (maskF l l.length i).testBit t).length) || decide (sp.length < k + (sp.filter fun t => (maskF l l.length t).testBit i).length) || (ph[i]?.getD []).contains (k, k)))))))

theorem act_ext {a b : Act} (h1 : a.tmps.size = b.tmps.size) (h2 : a.defers = b.defers) (h3 : ∀ s : Nat, a.tmps[s]? = b.tmps[s]?) : a = b := by
  obtain ⟨ta, da⟩ := a
  obtain ⟨tb, db⟩ := b
  simp only at h1 h2 h3
  subst h2
  rw [Array.ext_getElem? h3]

/-- the frame on the way: what is listed has its value -/
structure OnWay (l : List Oper) (a0 aF : Act) (L : Array Bool) (a : Act) : Prop where
  old : ∀ s : Nat, (∀ (j : Nat) (o : Oper), l[j]? = some o → o.dst = some s → L.getD j false = false) → a.tmps[s]? = a0.tmps[s]?
  size : a.tmps.size = aF.tmps.size
  defers : a.defers = aF.defers
  off : ∀ s, (∀ o ∈ l, o.dst ≠ some s) → a.tmps[s]? = aF.tmps[s]?
  on : ∀ s j o, l[j]? = some o → o.dst = some s → L.getD j false = true → a.tmps[s]? = aF.tmps[s]?

theorem getD_set_self {L : Array Bool} {i : Nat} (hi : i < L.size) (b : Bool) : (L.setIfInBounds i true).getD i b = true := by
  simp [Array.getD_eq_getD_getElem?, Array.getElem?_setIfInBounds, hi]
theorem getD_set_other {L : Array Bool} {i j : Nat} (h : i ≠ j) (b : Bool) : (L.setIfInBounds i true).getD j b = L.getD j b := by
  simp [Array.getD_eq_getD_getElem?, Array.getElem?_setIfInBounds, h]

theorem OnWay.step {l : List Oper} {a0 aF : Act} {L : Array Bool} {a : Act} {i : Nat} {o : Oper} {v : Value} (h : OnWay l a0 aF L a) (hL : L.size = l.length) (ho : l[i]? = some o) (hd : ∀ d, o.dst = some d → d < aF.tmps.size) (hv : aF.put o.dst v = aF) : OnWay l a0 aF (L.setIfInBounds i true) (a.put o.dst v) := by
  have hi : i < L.size := by rw [hL]; exact (List.getElem?_eq_some_iff.1 ho).1
  refine ⟨fun s hs => ?_, (put_size _ _ _).trans h.size, (put_defers _ _ _).trans h.defers, fun s hs => ?_, fun s j o' hj hs hl => ?_⟩
  · have e : o.dst ≠ some s := fun e => by
      have := hs i o ho e
      rw [getD_set_self hi] at this
      cases this
    rw [put_off _ _ _ _ e]
    refine h.old s fun j o' hj hd => ?_
    have := hs j o' hj hd
    by_cases e2 : i = j
    · subst e2; rw [getD_set_self hi] at this; cases this
    · rwa [getD_set_other e2] at this
  · rw [put_off _ _ _ _ (hs o (List.mem_of_getElem? ho))]; exact h.off s hs
  · by_cases e : o.dst = some s
    · have h1 := put_at a s v (by rw [h.size]; exact hd s e)
      have h2 := put_at aF s v (hd s e)
      rw [e] at hv ⊢
      rw [h1, ← h2, hv]
    · rw [put_off _ _ _ _ e]
      have hji : i ≠ j := fun hh => by
        subst hh
        rw [ho] at hj
        obtain rfl := Option.some.inj hj
        exact e hs
      rw [getD_set_other hji] at hl
      exact h.on s j o' hj hs hl

theorem tmps_getD {a b : Act} {s : Nat} (h : a.tmps[s]? = b.tmps[s]?) : a.eval (.tmp s) = b.eval (.tmp s) := by
  show a.tmps.getD s undef = b.tmps.getD s undef
  simp only [Array.getD_eq_getD_getElem?, h]
theorem same_exec {P : Program} {ops : Array Oper} {o : Oper} {a aF : Act} (hs : ∀ cs b, o.op ≠ .select cs b) (h : ∀ s ∈ o.looksAt ops, a.tmps[s]? = aF.tmps[s]?) : execOp a.eval o = execOp aF.eval o :=
  execOp_congr o hs fun x hx => by
    cases x with
    | tmp s => exact tmps_getD (h s (List.mem_append_left _ (List.mem_filterMap.2 ⟨.tmp s, by simpa using hx, rfl⟩)))
    | _ => rfl
theorem same_wanted {ops : Array Oper} {o : Oper} {a aF : Act} (h : ∀ s ∈ o.looksAt ops, a.tmps[s]? = aF.tmps[s]?) : Region.wanted o (yielded ops a.tmps) = Region.wanted o (yielded ops aF.tmps) := by
  unfold Region.wanted
  cases hg : o.guard with
  | none => rfl
  | some g =>
    obtain ⟨g, b⟩ := g
    have e : yielded ops a.tmps g = yielded ops aF.tmps g := by
      unfold yielded
      cases hd : (ops[g]?).bind (·.dst) with
      | none => rfl
      | some d =>
        have := h d (List.mem_append_right _ (by rw [hg]; simp [hd]))
        simp only [Option.bind_some, this]
    simp only [e]

theorem step_in {P : Program} {ops : Array Oper} {ro : Option Nat} {n : Nat} {Q : Exit → Act → World → Prop} {i : Nat} {o : Oper} {a aF : Act} {w w' : World} {K : Act → World → Prop} (hd : plainOp o = true) (hs : ∀ cs b, o.op ≠ .select cs b) (ho : ops[i]? = some o) (hl : ∀ s ∈ o.looksAt ops, a.tmps[s]? = aF.tmps[s]?)
    (h : StepP P ops aF o w w') (hK : ∀ v, aF.put o.dst v = aF → K (a.put o.dst v) w') : wpOpIn (wideR ro) n P ops Q i K a w := by
  unfold StepP at h
  unfold wpOpIn
  simp only [ho]
  rw [same_wanted hl]
  split
  · rename_i hw
    rw [if_pos hw] at h
    unfold Oper.wp at h
    refine ⟨fun _ _ => trivial, ?_⟩
    rw [Oper.semAt_eq _ _ _ (plainOp_spec hd), same_exec (P := P) hs hl]
    generalize (execOp aF.eval o).run P w = r at *
    cases r with
    | ok x w1 =>
      cases x <;> simp only [Oper.upon] at h <;> simp only [Oper.uponIn]
      case value v => obtain ⟨h1, rfl⟩ := h; exact hK v h1
      case skip => obtain ⟨h1, rfl⟩ := h; exact hK _ h1
      case defer d =>
        have := congrArg (fun x => x.defers.length) h.1
        simp [put_defers] at this
      case enter f args =>
        refine ⟨fun hh => (by cases hh), ?_⟩
        have hc : CallsIn Fence.wide (n - 1) P f args w1 _ := callsIn_wide.2 h
        refine CallsIn.mono (F := wideR ro) hc fun e w2 he => ?_
        cases e with
        | returned v => obtain ⟨h1, rfl⟩ := he; exact hK v h1
        | panicked c => exact he.elim
        | outgrown => obtain ⟨_, _, hh⟩ := he; exact hh.elim
      case row row args =>
        refine ⟨fun hh => (by cases hh), ?_⟩
        intro c cs _
        obtain ⟨v, w2, ⟨h1, rfl⟩, s⟩ := h c cs
        exact ⟨v, _, hK v h1, stepsIn_wide.2 s⟩
    | halt x w1 => cases x <;> simp only [Oper.upon] at h
  · rename_i hw
    rw [if_neg hw] at h
    obtain ⟨h1, rfl⟩ := h
    exact ⟨fun _ _ => trivial, hK _ h1⟩

/-- the numbers that are not listed -/
def left (L : Array Bool) : Nat := L.toList.count false
theorem count_set (l : List Bool) : ∀ i, l[i]? = some false → (l.set i true).count false + 1 = l.count false := by
  induction l with
  | nil => intro i h; simp at h
  | cons b l ih =>
    intro i h
    cases i with
    | zero => simp at h; subst h; simp
    | succ i =>
      have := ih i (by simpa using h)
      rw [List.set_cons_succ, List.count_cons, List.count_cons]
      omega
theorem left_set {L : Array Bool} {i : Nat} (h : L.getD i true = false) : left (L.setIfInBounds i true) + 1 = left L := by
  unfold left
  have h1 : L.toList[i]? = some false := by
    rw [Array.getD_eq_getD_getElem?] at h
    cases e : L[i]? with
    | none => rw [e] at h; simp at h
    | some b => rw [e] at h; simp at h; subst h; simpa using e
  have := count_set L.toList i h1
  rwa [← Array.toList_setIfInBounds] at this
theorem left_zero {L : Array Bool} (h : left L = 0) (i : Nat) : L.getD i true = true := by
  unfold left at h
  rw [Array.getD_eq_getD_getElem?]
  cases e : L[i]? with
  | none => rfl
  | some b =>
    cases b with
    | true => rfl
    | false =>
      have h1 : L.toList[i]? = some false := by simpa using e
      have := count_set L.toList i h1
      omega

theorem filter_first (p : Nat → Bool) : ∀ (sp : List Nat) (k : Nat), k ≤ sp.length → (∀ m t, sp[m]? = some t → (p t = true ↔ m < k)) → (sp.filter p).length = k
  | [], k, hk, _ => by simp at hk; simp [hk]
  | t :: sp, k, hk, h => by
    cases k with
    | zero =>
      have : (t :: sp).filter p = [] := by
        rw [List.filter_eq_nil_iff]
        intro x hx hp
        obtain ⟨m, hm⟩ := List.getElem?_of_mem hx
        have := (h m x hm).1 hp
        omega
      rw [this]; rfl
    | succ k =>
      have h0 : p t = true := (h 0 t rfl).2 (by omega)
      rw [List.filter_cons_of_pos h0, List.length_cons, filter_first p sp k (by simpa using hk) (fun m t' hm => by rw [h (m + 1) t' (by simpa using hm)]; omega)]
theorem filter_apart (p q : Nat → Bool) : ∀ (sp : List Nat), (∀ t ∈ sp, p t = true → q t = true → False) → (sp.filter p).length + (sp.filter q).length ≤ sp.length
  | [], _ => by simp
  | t :: sp, h => by
    have ih := filter_apart p q sp (fun t' ht' => h t' (List.mem_cons_of_mem _ ht'))
    by_cases hp : p t = true
    · have hq : ¬ q t = true := fun hq => h t (List.mem_cons_self ..) hp hq
      rw [List.filter_cons_of_pos hp, List.filter_cons_of_neg hq, List.length_cons, List.length_cons]; omega
    · rw [List.filter_cons_of_neg hp]
      by_cases hq : q t = true
      · rw [List.filter_cons_of_pos hq, List.length_cons, List.length_cons]; omega
      · rw [List.filter_cons_of_neg hq, List.length_cons]; omega
theorem filter_le (p q : Nat → Bool) : ∀ (sp : List Nat), (∀ t ∈ sp, p t = true → q t = true) → (sp.filter p).length ≤ (sp.filter q).length
  | [], _ => by simp
  | t :: sp, h => by
    have ih := filter_le p q sp (fun t' ht' => h t' (List.mem_cons_of_mem _ ht'))
    by_cases hp : p t = true
    · rw [List.filter_cons_of_pos hp, List.filter_cons_of_pos (h t (List.mem_cons_self ..) hp), List.length_cons, List.length_cons]; omega
    · rw [List.filter_cons_of_neg hp]
      by_cases hq : q t = true
      · rw [List.filter_cons_of_pos hq, List.length_cons]; omega
      · rw [List.filter_cons_of_neg hq]; exact ih

theorem getD_fb {L : Array Bool} {i : Nat} (h : L.getD i true = false) : L.getD i false = false := by
  rw [Array.getD_eq_getD_getElem?] at h ⊢
  cases e : L[i]? with
  | none => rfl
  | some b => rw [e] at h; simpa using h
theorem getD_bf {L : Array Bool} {i : Nat} (hi : i < L.size) (h : L.getD i true = true) : L.getD i false = true := by
  rw [Array.getD_eq_getD_getElem?] at h ⊢
  rw [Array.getElem?_eq_getElem hi] at h ⊢
  simpa using h

/-- what a plan's check says -/
structure PlanOK (l : List Oper) (size : Nat) (er : List Nat) (sp : List Nat) (ph : List (List (Nat × Nat))) : Prop where
  plain : ∀ (i : Nat) (o : Oper), l[i]? = some o → plainOp o = true
  sel : Region.noSelect l.toArray = true
  dst : ∀ (i : Nat) (o : Oper) (d : Nat), l[i]? = some o → o.dst = some d → d < size
  low : ∀ (i : Nat) (o : Oper), l[i]? = some o → ∀ e ∈ o.after, Region.binds .any e = true → e.on < i
  look : ∀ (i : Nat) (o : Oper) (s j : Nat) (oj : Oper), l[i]? = some o → s ∈ o.looksAt l.toArray → l[j]? = some oj → oj.dst = some s → (if er.contains i then (maskF l l.length j).testBit i else (maskF l l.length i).testBit j) = true
  chain : ∀ (k t u : Nat), sp[k]? = some t → sp[k + 1]? = some u → (maskF l l.length u).testBit t = true
  nodup : ∀ (k m t : Nat), k < m → sp[k]? = some t → sp[m]? ≠ some t
  spine : ∀ (i k : Nat), i < l.length → sp[k]? = some i → (k, k + 1) ∈ ph[i]?.getD []
  rest : ∀ (i k : Nat), i < l.length → i ∉ sp → k ≤ sp.length → (sp.filter fun t => (maskF l l.length i).testBit t).length ≤ k → k + (sp.filter fun t => (maskF l l.length t).testBit i).length ≤ sp.length → (k, k) ∈ ph[i]?.getD []
theorem planB_ok {l : List Oper} {size : Nat} {er : List Nat} {sp : List Nat} {ph : List (List (Nat × Nat))} (h : planB l size er sp ph = true) : PlanOK l size er sp ph := by
  unfold planB at h
  simp only [Bool.and_eq_true, List.all_eq_true, List.mem_range] at h
  obtain ⟨⟨h1, h2⟩, h3, h4, h5, h6, h7⟩ := h
  refine ⟨fun i o ho => h1 o (List.mem_of_getElem? ho), h2, fun i o d ho hd => ?_, fun i o ho e he hb => ?_, fun i o s j oj ho hs hj hd => ?_, fun k t u ht hu => ?_, fun k m t hkm hk hm => ?_, fun i k hi hk => ?_, fun i k hi hn hk hlo hhi => ?_⟩
  · have := h3 o (List.mem_of_getElem? ho)
    rw [hd] at this
    simpa using this
  · have := h4 i (List.getElem?_eq_some_iff.1 ho).1
    rw [ho] at this
    simp only [Bool.and_eq_true, List.all_eq_true] at this
    have := this.1 e (by simpa using he)
    simpa [hb] using this
  · have := h4 i (List.getElem?_eq_some_iff.1 ho).1
    rw [ho] at this
    simp only [Bool.and_eq_true, List.all_eq_true, List.mem_range] at this
    have := this.2 s hs j (List.getElem?_eq_some_iff.1 hj).1
    rw [hj] at this
    simpa [hd] using this
  · have hk := (List.getElem?_eq_some_iff.1 hu).1
    have := h5 k (by omega)
    rw [ht, hu] at this
    simpa using this
  · have := h6 m (List.getElem?_eq_some_iff.1 hm).1 k hkm
    rw [hk, hm] at this
    simp at this
  · have := (h7 i hi).1 k (List.getElem?_eq_some_iff.1 hk).1
    rw [hk] at this
    simpa using this
  · have := (h7 i hi).2
    rw [Bool.or_eq_true] at this
    rcases this with h | h
    · exact absurd (by simpa using h) hn
    · rw [List.all_eq_true] at h
      have := h k (List.mem_range.2 (by omega))
      simp only [Bool.or_eq_true, decide_eq_true_eq] at this
      rcases this with (h | h) | h
      · omega
      · omega
      · simpa using h

/-- the steps of a plan, one behind the other -/
def StepsP (P : Program) (ops : Array Oper) (a0 aF : Act) (er : List Nat) (Ws : Nat → World) : Nat → List Oper → List (List (Nat × Nat)) → Prop
  | k, o :: os, p :: ps => (∀ q ∈ p, StepK P ops a0 aF (er.contains k) o (Ws q.1) (Ws q.2)) ∧ StepsP P ops a0 aF er Ws (k + 1) os ps
  | _, _, _ => True
theorem steps_at {P : Program} {ops : Array Oper} {a0 aF : Act} {er : List Nat} {Ws : Nat → World} : ∀ {k : Nat} {l : List Oper} {ph : List (List (Nat × Nat))}, StepsP P ops a0 aF er Ws k l ph → ∀ (i : Nat) (o : Oper) (p : Nat × Nat), l[i]? = some o → p ∈ ph[i]?.getD [] → StepK P ops a0 aF (er.contains (k + i)) o (Ws p.1) (Ws p.2)
  | _, [], _, _, i, o, p, ho, _ => by simp at ho
  | _, _ :: _, [], _, i, o, p, _, hp => by simp at hp
  | k, o' :: os, q :: ps, h, i, o, p, ho, hp => by
    cases i with
    | zero => simp at ho hp; subst ho; exact h.1 p hp
    | succ i =>
      have := steps_at h.2 i o p (by simpa using ho) (by simpa using hp)
      rwa [show k + 1 + i = k + (i + 1) by omega] at this
section main
variable {P : Program} {l : List Oper} {er sp : List Nat} {ph : List (List (Nat × Nat))} {a0 aF : Act} {Ws : Nat → World} {ro : Option Nat} {n : Nat} {Q : Exit → Act → World → Prop}

theorem clo_set {L : Array Bool} {i : Nat} (hL : L.size = l.length) (hc : Clo l L) (hi : i < l.length) (hr : ∀ (o : Oper), l[i]? = some o → ∀ e ∈ o.after, Region.binds .any e = true → L.getD e.on false = true) : Clo l (L.setIfInBounds i true) := by
  have up : ∀ j, L.getD j false = true → (L.setIfInBounds i true).getD j false = true := fun j hj => by
    by_cases e : i = j
    · subst e; exact getD_set_self (by omega) _
    · rw [getD_set_other e]; exact hj
  intro j o hj hl e he hb
  by_cases hij : i = j
  · subst hij; exact up _ (hr o hj e he hb)
  · rw [getD_set_other hij] at hl; exact up _ (hc j o hj hl e he hb)

theorem plan_done (hok : PlanOK l aF.tmps.size er sp ph) (hsp : ∀ t ∈ sp, t < l.length) {L : Array Bool} {a : Act} (hL : L.size = l.length) (hw : OnWay l a0 aF L a) (hall : ∀ i, i < l.length → L.getD i false = true) (hQ : Q .normal aF (Ws sp.length)) : Q .normal a (Ws (phase sp L)) := by
  have e1 : a = aF := act_ext hw.size hw.defers fun s => by
    by_cases h : ∀ o ∈ l, o.dst ≠ some s
    · exact hw.off s h
    · obtain ⟨o, ho, hd⟩ : ∃ o, o ∈ l ∧ o.dst = some s := by
        refine Decidable.byContradiction fun hh => h fun o ho hd => hh ⟨o, ho, hd⟩
      obtain ⟨j, hj⟩ := List.getElem?_of_mem ho
      exact hw.on s j o hj hd (hall j (List.getElem?_eq_some_iff.1 hj).1)
  have e2 : phase sp L = sp.length := by
    unfold phase
    rw [List.filter_eq_self.2 (fun t ht => hall t (hsp t ht))]
  rw [e1, e2]
  exact hQ

theorem plan_any (hok : PlanOK l aF.tmps.size er sp ph) (hsp : ∀ t ∈ sp, t < l.length) (hstep : ∀ (i : Nat) (o : Oper) (p : Nat × Nat), l[i]? = some o → p ∈ ph[i]?.getD [] → StepK P l.toArray a0 aF (er.contains i) o (Ws p.1) (Ws p.2)) (hQ : Q .normal aF (Ws sp.length)) :
    ∀ (fuel : Nat) (L : Array Bool) (a : Act), left L ≤ fuel → L.size = l.length → Clo l L → OnWay l a0 aF L a → wpAnyIn (wideR ro) n P .any l.toArray Q fuel L a (Ws (phase sp L))
  | 0, L, a, hf, hL, hc, hw => by
    have h0 := left_zero (show left L = 0 by omega)
    refine ⟨List.filter_eq_nil_iff.2 fun i hi => ?_, plan_done hok hsp hL hw (fun i hi => getD_bf (by omega) (h0 i)) hQ⟩
    simp [h0 i]
  | fuel + 1, L, a, hf, hL, hc, hw => by
    refine ⟨fun hr => ?_, fun i hi => ?_⟩
    · refine plan_done hok hsp hL hw (fun i => ?_) hQ
      induction i using Nat.strongRecOn with
      | ind i ih =>
        intro hi
        refine Decidable.byContradiction fun hn => ?_
        have hmem : i ∈ Region.ready .any l.toArray L := by
          rw [mem_ready]
          refine ⟨?_, l[i], by simp [hi], fun e he hb => ih e.on (hok.low i l[i] (by simp [hi]) e he hb) (Nat.lt_trans (hok.low i l[i] (by simp [hi]) e he hb) hi)⟩
          cases hg : L.getD i true with
          | true => exact absurd (getD_bf (by omega) hg) hn
          | false => rfl
        rw [hr] at hmem
        cases hmem
    · obtain ⟨hun, o, ho', hdeps⟩ := mem_ready.1 hi
      have ho : l[i]? = some o := by simpa using ho'
      have hi2 : i < l.length := (List.getElem?_eq_some_iff.1 ho).1
      have hunf := getD_fb hun
      have hdep : ∀ o', l[i]? = some o' → ∀ e ∈ o'.after, Region.binds .any e = true → L.getD e.on false = true := fun o' h' => by
        rw [ho] at h'
        obtain rfl := Option.some.inj h'
        exact hdeps
      have hin : ∀ t, (maskF l l.length i).testBit t = true → L.getD t false = true := fun t ht => mask_on hc _ i t ht hdep
      have hph : (phase sp L, phase sp (L.setIfInBounds i true)) ∈ ph[i]?.getD [] := by
        by_cases hs : i ∈ sp
        · obtain ⟨k, hk⟩ := List.getElem?_of_mem hs
          have hkl := (List.getElem?_eq_some_iff.1 hk).1
          -- listed just those before k
          have down : ∀ (m d t u : Nat), sp[m]? = some t → sp[m + d]? = some u → L.getD u false = true → L.getD t false = true := by
            intro m d
            induction d with
            | zero => intro t u h1 h2 h3; rw [Nat.add_zero, h1] at h2; obtain rfl := Option.some.inj h2; exact h3
            | succ d ih =>
              intro t u h1 h2 h3
              have hlt : m + d < sp.length := by have := (List.getElem?_eq_some_iff.1 h2).1; omega
              have h4 : sp[m + d]? = some sp[m + d] := List.getElem?_eq_getElem hlt
              exact ih t _ h1 h4 (mask_up hc _ _ _ (hok.chain (m + d) _ u h4 (by rw [← h2]; rfl)) h3)
          have hiff : ∀ (m t : Nat), sp[m]? = some t → (L.getD t false = true ↔ m < k) := by
            intro m t hm
            constructor
            · intro hl
              refine Decidable.byContradiction fun hge => ?_
              obtain ⟨d, hd⟩ : ∃ d, m = k + d := ⟨m - k, by omega⟩
              subst hd
              have := down k d i t hk hm hl
              rw [hunf] at this
              cases this
            · intro hlt
              have hlt' : k - 1 < sp.length := by omega
              have h4 : sp[k - 1]? = some sp[k - 1] := List.getElem?_eq_getElem hlt'
              have h5 : L.getD sp[k - 1] false = true := hin _ (hok.chain (k - 1) _ i h4 (by rw [show k - 1 + 1 = k by omega]; exact hk))
              obtain ⟨d, hd⟩ : ∃ d, k - 1 = m + d := ⟨k - 1 - m, by omega⟩
              exact down m d t _ hm (by rw [← hd]; exact h4) h5
          have e1 : phase sp L = k := filter_first _ sp k (by omega) hiff
          have e2 : phase sp (L.setIfInBounds i true) = k + 1 := filter_first _ sp (k + 1) (by omega) fun m t hm => by
            by_cases e : i = t
            · subst e
              have hmk : m = k := by
                rcases Nat.lt_trichotomy m k with h | h | h
                · exact absurd hk (hok.nodup m k i h hm)
                · exact h
                · exact absurd hm (hok.nodup k m i h hk)
              simp only [getD_set_self (show i < L.size by omega), true_iff]
              omega
            · rw [getD_set_other e, hiff m t hm]
              have hmk : m ≠ k := fun h => by
                subst h
                rw [hm] at hk
                exact e (Option.some.inj hk).symm
              omega
          rw [e1, e2]
          exact hok.spine i k hi2 hk
        · have e : phase sp (L.setIfInBounds i true) = phase sp L := by
            unfold phase
            congr 1
            refine List.filter_congr fun t ht => ?_
            rw [getD_set_other (fun h => hs (by rw [h]; exact ht))]
          rw [e]
          refine hok.rest i _ hi2 hs (List.length_filter_le _ _) (filter_le _ _ sp fun t _ ht => hin t ht) (filter_apart _ _ sp fun t _ h1 h2 => ?_)
          have := mask_up hc _ t i h2 h1
          rw [hunf] at this
          cases this
      have hgo : ∀ v, aF.put o.dst v = aF → wpAnyIn (wideR ro) n P .any l.toArray Q fuel (L.setIfInBounds i true) (a.put o.dst v) (Ws (phase sp (L.setIfInBounds i true))) := fun v hv =>
        plan_any hok hsp hstep hQ fuel _ _ (by have := left_set hun; omega) (by simpa using hL) (clo_set hL hc hi2 hdep) (hw.step hL ho (fun d hd => hok.dst i o d ho hd) hv)
      have hst := hstep i o _ ho hph
      unfold StepK at hst
      by_cases her : er.contains i = true
      · rw [if_pos her] at hst
        have hlook : ∀ s ∈ o.looksAt l.toArray, a.tmps[s]? = a0.tmps[s]? := fun s hs => hw.old s fun j oj hj hd => by
          have h1 := hok.look i o s j oj ho hs hj hd
          rw [if_pos her] at h1
          cases hg : L.getD j false with
          | false => rfl
          | true =>
            have := mask_up hc _ j i h1 hg
            rw [hunf] at this
            cases this
        obtain ⟨hwant, v, hrun, hput⟩ := hst
        unfold wpOpIn
        simp only [ho']
        rw [same_wanted hlook, if_pos hwant]
        refine ⟨fun _ _ => trivial, ?_⟩
        rw [Oper.semAt_eq _ _ _ (plainOp_spec (hok.plain i o ho)), same_exec (P := P) (Region.noSelect_spec hok.sel i o · · ho') hlook, hrun]
        exact hgo v hput
      · rw [if_neg her] at hst
        have hlook : ∀ s ∈ o.looksAt l.toArray, a.tmps[s]? = aF.tmps[s]? := fun s hs => by
          by_cases h : ∀ o ∈ l, o.dst ≠ some s
          · exact hw.off s h
          · obtain ⟨oj, hoj, hd⟩ : ∃ o, o ∈ l ∧ o.dst = some s := by
              refine Decidable.byContradiction fun hh => h fun o ho hd => hh ⟨o, ho, hd⟩
            obtain ⟨j, hj⟩ := List.getElem?_of_mem hoj
            have h1 := hok.look i o s j oj ho hs hj hd
            rw [if_neg her] at h1
            exact hw.on s j oj hj hd (hin j h1)
        exact step_in (hok.plain i o ho) (Region.noSelect_spec hok.sel i o · · ho') ho' hlook hst hgo

/-- a region by a plan, in a round or not -/
theorem wpIn_region_plan {id : Nat} {a : Act} {w : World} (aF : Act) (er sp : List Nat) (ph : List (List (Nat × Nat))) (Ws : Nat → World) (N : Nat) (hN : a.tmps.size = N) (hm : P.follows .mixedOrders = true) (hB : planB l N er sp ph = true) (hsp : (sp.all fun t => decide (t < l.length)) = true) (haF : putAll l (valsOf l aF) a = aF) (hw0 : Ws 0 = { w with drawn := w.drawn + 1 })
    (hsteps : StepsP P l.toArray a aF er Ws 0 l ph) (hQ : Q .normal aF (Ws sp.length)) : (Code.region id l.toArray true).wpIn (wideR ro) n P Q a w := by
  obtain ⟨k1, k2, k3⟩ := putAll_keeps l (valsOf l aF) a
  rw [haF] at k1 k2 k3
  have hok : PlanOK l aF.tmps.size er sp ph := by rw [k1, hN]; exact planB_ok hB
  have hsp' : ∀ t ∈ sp, t < l.length := fun t ht => by simpa using List.all_eq_true.1 hsp t ht
  refine wpIn_region_any hm ?_
  have hz : ∀ (m i : Nat), (Array.replicate m false).getD i false = false := fun m i => by
    rw [Array.getD_eq_getD_getElem?, Array.getElem?_replicate]; split <;> rfl
  have h0 : phase sp (Array.replicate l.toArray.size false) = 0 := by
    unfold phase
    rw [List.length_eq_zero_iff, List.filter_eq_nil_iff]
    intro t _
    rw [hz]; simp
  have hst := steps_at hsteps
  simp only [Nat.zero_add] at hst
  have := plan_any (Q := Q) (ro := ro) (n := n) (P := P) (a0 := a) hok hsp' hst hQ l.toArray.size (Array.replicate l.toArray.size false) a (by unfold left; simp) (by simp) (fun i o _ hl => by rw [hz] at hl; cases hl)
    ⟨fun _ _ => rfl, k1.symm, k2.symm, fun s hs => (k3 s hs).symm, fun s j o _ _ hl => by rw [hz] at hl; cases hl⟩
  rw [h0, hw0] at this
  exact this
end main

theorem StepP.of {P : Program} {ops : Array Oper} {aF : Act} {o : Oper} {w w' : World} (hg : o.guard = none) (h : o.wp P aF w (fun a' w'' => a' = aF ∧ w'' = w') (fun _ _ _ => False)) : StepP P ops aF o w w' := by
  unfold StepP
  have : Region.wanted o (yielded ops aF.tmps) = true := by simp [Region.wanted, hg]
  rw [if_pos this]
  exact h
theorem StepsP.nil {P : Program} {ops : Array Oper} {a0 aF : Act} {er : List Nat} {Ws : Nat → World} {k : Nat} {ph : List (List (Nat × Nat))} : StepsP P ops a0 aF er Ws k [] ph := trivial
theorem StepsP.cons {P : Program} {ops : Array Oper} {a0 aF : Act} {er : List Nat} {Ws : Nat → World} {k : Nat} {o : Oper} {os : List Oper} {p : List (Nat × Nat)} {ps : List (List (Nat × Nat))} (he : er.contains k = false) (h : ∀ q ∈ p, StepP P ops aF o (Ws q.1) (Ws q.2)) (t : StepsP P ops a0 aF er Ws (k + 1) os ps) : StepsP P ops a0 aF er Ws k (o :: os) (p :: ps) :=
  ⟨fun q hq => by unfold StepK; rw [he]; exact h q hq, t⟩
/-- an operation that only hands on what stood in a slot before the region -/
theorem StepsP.early {P : Program} {ops : Array Oper} {a0 aF : Act} {er : List Nat} {Ws : Nat → World} {k : Nat} {o : Oper} {os : List Oper} {m : Nat} {ps : List (List (Nat × Nat))} (he : er.contains k = true) (hg : o.guard = none) (x : Operand) (ho : o.op = .move x) (hv : aF.put o.dst (a0.eval x) = aF) (t : StepsP P ops a0 aF er Ws (k + 1) os ps) : StepsP P ops a0 aF er Ws k (o :: os) (((List.range m).map fun j => (j, j)) :: ps) :=
  ⟨fun q hq => by
    obtain ⟨j, _, rfl⟩ := List.mem_map.1 hq
    unfold StepK
    rw [he]
    exact ⟨by simp [Region.wanted, hg], a0.eval x, by simp only [execOp, ho]; rfl, hv⟩, t⟩
theorem step1 {P : Program} {ops : Array Oper} {aF : Act} {Ws : Nat → World} {o : Oper} {a b : Nat} (h : StepP P ops aF o (Ws a) (Ws b)) : ∀ q ∈ [(a, b)], StepP P ops aF o (Ws q.1) (Ws q.2) := fun q hq => by
  obtain rfl := List.mem_singleton.1 hq
  exact h
theorem step2 {P : Program} {ops : Array Oper} {aF : Act} {Ws : Nat → World} {o : Oper} {a b c d : Nat} (h : StepP P ops aF o (Ws a) (Ws b)) (k : StepP P ops aF o (Ws c) (Ws d)) : ∀ q ∈ [(a, b), (c, d)], StepP P ops aF o (Ws q.1) (Ws q.2) := fun q hq => by
  rcases List.mem_cons.1 hq with rfl | hq
  · exact h
  · exact step1 k q hq
theorem step3 {P : Program} {ops : Array Oper} {aF : Act} {Ws : Nat → World} {o : Oper} {a b c d e f : Nat} (h : StepP P ops aF o (Ws a) (Ws b)) (k : StepP P ops aF o (Ws c) (Ws d)) (m : StepP P ops aF o (Ws e) (Ws f)) : ∀ q ∈ [(a, b), (c, d), (e, f)], StepP P ops aF o (Ws q.1) (Ws q.2) := fun q hq => by
  rcases List.mem_cons.1 hq with rfl | hq
  · exact h
  · exact step2 k m q hq
theorem StepP.append {P : Program} {ops : Array Oper} {aF : Act} {o : Oper} {w w' : World} {v' : Value} (hg : o.guard = none) (s x : Operand) (t : TypeId) (ho : o.op = .call { callee := .builtin .append, args := #[s, x], argTypes := #[t, t] }) (v vx : Value) (hs : aF.eval s = v) (hx : aF.eval x = vx)
    (hrun : (Builtin.append_ #[t, t] o.type #[v, vx]).run P w = .ok v' w') (hput : aF.put o.dst v' = aF) : StepP P ops aF o w w' := by
  refine StepP.of hg ?_
  unfold Oper.wp
  simp [execOp, ho, resolve, invoke, builtin, hs, hx, hrun, Result.andThen, Oper.upon, hput]
end Go.Proofs.Ytonjaghkiaaipaa.OldB
