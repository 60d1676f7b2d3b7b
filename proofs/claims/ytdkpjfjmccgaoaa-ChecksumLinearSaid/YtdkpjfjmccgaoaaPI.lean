/- A region by a plan, where some operations (literals, appends, assignments) may come in several orders: what holds of their slots and of the world is told by a predicate. No conditions but those of each theorem. -/
import Derived.Test.YtdkpjfjmccgaoaaP
namespace Go.Proofs.Ytdkpjfjmccgaoaa
open Go.RowKit
set_option linter.unusedVariables false
set_option linter.unusedSimpArgs false

/-- the frame on the way: a slot that is not written yet is as it was; a slot of an operation that is no special one has its final value once that is listed -/
structure OnD (l : List Oper) (a0 aF : Act) (Sp : List Nat) (L : Array Bool) (a : Act) : Prop where
  old : ∀ s : Nat, (∀ (j : Nat) (o : Oper), l[j]? = some o → o.dst = some s → L.getD j false = false) → a.tmps[s]? = a0.tmps[s]?
  size : a.tmps.size = a0.tmps.size
  defers : a.defers = a0.defers
  on : ∀ s j o, l[j]? = some o → o.dst = some s → Sp.contains j = false → L.getD j false = true → a.tmps[s]? = aF.tmps[s]?

/-- the check: no 'defer', no 'select'; slots within the frame, each written once; edges go back; an operation that is no special one reads what is listed by then and no special slot (an early one: what is not written by then) -/
def planIB (l : List Oper) (size : Nat) (er Sp : List Nat) : Bool :=
  (l.all plainOp && Region.noSelect l.toArray) &&
  ((l.all fun o => match o.dst with | some d => decide (d < size) | none => true) &&
  (((List.range l.length).all fun i => (List.range i).all fun j => match l[i]?, l[j]? with | some oi, some oj => (match oi.dst, oj.dst with | some d, some e => decide (d ≠ e) | _, _ => true) | _, _ => true) &&
  ((List.range l.length).all fun i => match l[i]? with
    | none => true
    | some o => (o.after.toList.all fun e => !Region.binds .any e || decide (e.on < i)) && (Sp.contains i || (o.looksAt l.toArray).all fun s => (List.range l.length).all fun j => (match l[j]? with | some oj => oj.dst != some s | none => true) || (if er.contains i then (maskF l l.length j).testBit i else (maskF l l.length i).testBit j && !Sp.contains j)))))

structure IOK (l : List Oper) (size : Nat) (er Sp : List Nat) : Prop where
  plain : ∀ (i : Nat) (o : Oper), l[i]? = some o → plainOp o = true
  sel : Region.noSelect l.toArray = true
  dst : ∀ (i : Nat) (o : Oper) (d : Nat), l[i]? = some o → o.dst = some d → d < size
  once : ∀ (i j : Nat) (oi oj : Oper) (s : Nat), l[i]? = some oi → l[j]? = some oj → oi.dst = some s → oj.dst = some s → i = j
  low : ∀ (i : Nat) (o : Oper), l[i]? = some o → ∀ e ∈ o.after, Region.binds .any e = true → e.on < i
  look : ∀ (i : Nat) (o : Oper) (s j : Nat) (oj : Oper), l[i]? = some o → Sp.contains i = false → s ∈ o.looksAt l.toArray → l[j]? = some oj → oj.dst = some s → if er.contains i then (maskF l l.length j).testBit i = true else (maskF l l.length i).testBit j = true ∧ Sp.contains j = false
theorem planIB_ok {l : List Oper} {size : Nat} {er Sp : List Nat} (h : planIB l size er Sp = true) : IOK l size er Sp := by
  unfold planIB at h
  simp only [Bool.and_eq_true] at h
  obtain ⟨⟨h1, h2⟩, h3, h4, h5⟩ := h
  rw [List.all_eq_true] at h1 h3 h4 h5
  have hlt : ∀ {i : Nat} {o : Oper}, l[i]? = some o → i < l.length := fun ho => (List.getElem?_eq_some_iff.1 ho).1
  have once1 : ∀ (i j : Nat) (oi oj : Oper) (s : Nat), l[i]? = some oi → l[j]? = some oj → oi.dst = some s → oj.dst = some s → ¬ j < i := fun i j oi oj s hi hj di dj hji => by
    have := h4 i (List.mem_range.2 (hlt hi))
    rw [List.all_eq_true] at this
    have := this j (List.mem_range.2 hji)
    simp [hi, hj, di, dj] at this
  refine ⟨fun i o ho => h1 o (List.mem_of_getElem? ho), h2, fun i o d ho hd => ?_, fun i j oi oj s hi hj di dj => ?_, fun i o ho e he hb => ?_, fun i o s j oj ho hsp hs hj hd => ?_⟩
  · have := h3 o (List.mem_of_getElem? ho)
    simpa [hd] using this
  · rcases Nat.lt_trichotomy i j with h | h | h
    · exact absurd h (once1 j i oj oi s hj hi dj di)
    · exact h
    · exact absurd h (once1 i j oi oj s hi hj di dj)
  · have := h5 i (List.mem_range.2 (hlt ho))
    simp only [ho, Bool.and_eq_true] at this
    have := List.all_eq_true.1 this.1 e (by simpa using he)
    simpa [hb] using this
  · have := h5 i (List.mem_range.2 (hlt ho))
    simp only [ho, Bool.and_eq_true] at this
    have := this.2
    rw [hsp, Bool.false_or] at this
    have := List.all_eq_true.1 (List.all_eq_true.1 this s hs) j (List.mem_range.2 (hlt hj))
    simp only [hj, hd, bne_self_eq_false, Bool.false_or] at this
    split
    · rename_i he; rw [if_pos he] at this; exact this
    · rename_i he; rw [if_neg he] at this; simpa using this

/-- what a special operation does, from every frame and world on the way -/
def StepS (P : Program) (l : List Oper) (a0 aF : Act) (Sp : List Nat) (J : Array Bool → Act → World → Prop) (i : Nat) (o : Oper) : Prop :=
  o.guard = none ∧ ∀ (L : Array Bool) (a : Act) (w : World), L.size = l.length → OnD l a0 aF Sp L a → J L a w → L.getD i false = false → (∀ e ∈ o.after, Region.binds .any e = true → L.getD e.on false = true) →
    ∃ v w', (execOp a.eval o).run P w = .ok (.value v) w' ∧ J (L.setIfInBounds i true) (a.put o.dst v) w'
/-- the predicate looks at special operations and their slots alone -/
def JFar (l : List Oper) (Sp : List Nat) (J : Array Bool → Act → World → Prop) : Prop :=
  ∀ (L : Array Bool) (a : Act) (w : World) (i : Nat) (o : Oper) (v : Value), L.size = l.length → l[i]? = some o → Sp.contains i = false → J L a w → J (L.setIfInBounds i true) (a.put o.dst v) w

theorem OnD.step {l : List Oper} {a0 aF : Act} {Sp : List Nat} {er : List Nat} {L : Array Bool} {a : Act} {i : Nat} {o : Oper} {v : Value} (hok : IOK l a0.tmps.size er Sp) (h : OnD l a0 aF Sp L a) (hL : L.size = l.length) (ho : l[i]? = some o) (hv : Sp.contains i = false → ∀ d, o.dst = some d → aF.tmps[d]? = some v) : OnD l a0 aF Sp (L.setIfInBounds i true) (a.put o.dst v) := by
  have hi : i < L.size := by rw [hL]; exact (List.getElem?_eq_some_iff.1 ho).1
  refine ⟨fun s hs => ?_, (put_size _ _ _).trans h.size, (put_defers _ _ _).trans h.defers, fun s j o' hj hd hsp hl => ?_⟩
  · have e : o.dst ≠ some s := fun e => by
      have := hs i o ho e
      rw [getD_set_self hi] at this
      cases this
    rw [put_off _ _ _ _ e]
    refine h.old s fun j o' hj hd => ?_
    have := hs j o' hj hd
    by_cases e2 : i = j
    · subst e2; rw [getD_set_self hi] at this; cases this
    · rw [getD_set_other e2] at this; exact this
  · by_cases e : i = j
    · subst e
      rw [ho] at hj
      obtain rfl := Option.some.inj hj
      rw [hd, put_at _ _ _ (by rw [h.size]; exact hok.dst i o s ho hd)]
      exact (hv hsp s hd).symm
    · have e2 : o.dst ≠ some s := fun e2 => e (hok.once i j o o' s ho hj e2 hd)
      rw [put_off _ _ _ _ e2]
      rw [getD_set_other e] at hl
      exact h.on s j o' hj hd hsp hl

section main
variable {P : Program} {l : List Oper} {er Sp : List Nat} {a0 aF : Act} {J : Array Bool → Act → World → Prop} {ro : Option Nat} {n : Nat} {Q : Exit → Act → World → Prop}
/-- what an operation that is no special one does: it leaves the world as it is, at the final frame (an early one: at the first) -/
def StepD (P : Program) (l : List Oper) (a0 aF : Act) (er : List Nat) (J : Array Bool → Act → World → Prop) (i : Nat) (o : Oper) : Prop :=
  o.guard = none ∧ ∃ v, (∀ d, o.dst = some d → aF.tmps[d]? = some v) ∧ ∀ L a w, J L a w → (execOp (if er.contains i then a0 else aF).eval o).run P w = .ok (.value v) w

theorem planI_any (hok : IOK l a0.tmps.size er Sp) (hsame : ∀ s, (∀ o ∈ l, o.dst ≠ some s) → a0.tmps[s]? = aF.tmps[s]?) (hfar : JFar l Sp J) (hs : ∀ i o, l[i]? = some o → Sp.contains i = true → StepS P l a0 aF Sp J i o) (hd : ∀ i o, l[i]? = some o → Sp.contains i = false → StepD P l a0 aF er J i o)
    (hQ : ∀ L a w, L.size = l.length → (∀ i, i < l.length → L.getD i false = true) → OnD l a0 aF Sp L a → J L a w → Q .normal a w) :
    ∀ (fuel : Nat) (L : Array Bool) (a : Act) (w : World), left L ≤ fuel → L.size = l.length → Clo l L → OnD l a0 aF Sp L a → J L a w → wpAnyIn (wideR ro) n P .any l.toArray Q fuel L a w
  | 0, L, a, w, hf, hL, hc, hw, hJ => by
    have h0 := left_zero (show left L = 0 by omega)
    refine ⟨List.filter_eq_nil_iff.2 fun i hi => ?_, hQ L a w hL (fun i hi => getD_bf (by omega) (h0 i)) hw hJ⟩
    simp [h0 i]
  | fuel + 1, L, a, w, hf, hL, hc, hw, hJ => by
    refine ⟨fun hr => ?_, fun i hi => ?_⟩
    · refine hQ L a w hL (fun i => ?_) hw hJ
      induction i using Nat.strongRecOn with
      | ind i ih =>
        intro hi
        refine Decidable.byContradiction fun hn => ?_
        have hmem : i ∈ Region.ready .any l.toArray L := by
          rw [mem_ready]
          refine ⟨?_, l[i], by simp [hi], fun e he hb => ih e.on (hok.low i l[i] (by simp [hi]) e he hb) (Nat.lt_trans (hok.low i l[i] (by simp [hi]) e he hb) hi)⟩
          cases hg : L.getD i true with
          | true => exact absurd (getD_bf (by omega) hg) hn
          | false => rfl
        rw [hr] at hmem
        cases hmem
    · obtain ⟨hun, o, ho', hdeps⟩ := mem_ready.1 hi
      have ho : l[i]? = some o := by simpa using ho'
      have hi2 : i < l.length := (List.getElem?_eq_some_iff.1 ho).1
      have hunf := getD_fb hun
      have hdep : ∀ o', l[i]? = some o' → ∀ e ∈ o'.after, Region.binds .any e = true → L.getD e.on false = true := fun o' h' => by
        rw [ho] at h'
        obtain rfl := Option.some.inj h'
        exact hdeps
      have hin : ∀ t, (maskF l l.length i).testBit t = true → L.getD t false = true := fun t ht => mask_on hc _ i t ht hdep
      have hgo : ∀ v w', J (L.setIfInBounds i true) (a.put o.dst v) w' → OnD l a0 aF Sp (L.setIfInBounds i true) (a.put o.dst v) → wpAnyIn (wideR ro) n P .any l.toArray Q fuel (L.setIfInBounds i true) (a.put o.dst v) w' := fun v w' hj hon =>
        planI_any hok hsame hfar hs hd hQ fuel _ _ w' (by have := left_set hun; omega) (by simpa using hL) (clo_set hL hc hi2 hdep) hon hj
      have fin : o.guard = none → ∀ v w', (execOp a.eval o).run P w = .ok (.value v) w' → J (L.setIfInBounds i true) (a.put o.dst v) w' → OnD l a0 aF Sp (L.setIfInBounds i true) (a.put o.dst v) → wpOpIn (wideR ro) n P l.toArray Q i (wpAnyIn (wideR ro) n P .any l.toArray Q fuel (L.setIfInBounds i true)) a w := fun hg v w' hrun hj hon => by
        unfold wpOpIn
        simp only [ho']
        have hwant : Region.wanted o (yielded l.toArray a.tmps) = true := by simp [Region.wanted, hg]
        rw [if_pos hwant]
        refine ⟨fun _ _ => trivial, ?_⟩
        rw [Oper.semAt_eq _ _ _ (plainOp_spec (hok.plain i o ho)), hrun]
        exact hgo v w' hj hon
      cases hsp : Sp.contains i with
      | true =>
        obtain ⟨hg, hst⟩ := hs i o ho hsp
        obtain ⟨v, w', hrun, hj⟩ := hst L a w hL hw hJ hunf (hdep o ho)
        exact fin hg v w' hrun hj (hw.step hok hL ho (fun h => by rw [hsp] at h; cases h))
      | false =>
        obtain ⟨hg, v, hv, hst⟩ := hd i o ho hsp
        have hrun := hst L a w hJ
        have hrun2 : (execOp a.eval o).run P w = .ok (.value v) w := by
          by_cases her : er.contains i = true
          · rw [if_pos her] at hrun
            have hlook : ∀ s ∈ o.looksAt l.toArray, a.tmps[s]? = a0.tmps[s]? := fun s hs => hw.old s fun j oj hj hd => by
              have h1 := hok.look i o s j oj ho hsp hs hj hd
              rw [if_pos her] at h1
              cases hg : L.getD j false with
              | false => rfl
              | true =>
                have := mask_up hc _ j i h1 hg
                rw [hunf] at this
                cases this
            rw [same_exec (P := P) (Region.noSelect_spec hok.sel i o · · ho') hlook]
            exact hrun
          · rw [if_neg her] at hrun
            have hlook : ∀ s ∈ o.looksAt l.toArray, a.tmps[s]? = aF.tmps[s]? := fun s hs => by
              by_cases h : ∀ o ∈ l, o.dst ≠ some s
              · have e1 := hw.old s (fun j oj hj hd => absurd hd (h oj (List.mem_of_getElem? hj)))
                exact e1.trans (hsame s h)
              · obtain ⟨oj, hoj, hd⟩ : ∃ o, o ∈ l ∧ o.dst = some s := by
                  refine Decidable.byContradiction fun hh => h fun o ho hd => hh ⟨o, ho, hd⟩
                obtain ⟨j, hj⟩ := List.getElem?_of_mem hoj
                have h1 := hok.look i o s j oj ho hsp hs hj hd
                rw [if_neg her] at h1
                exact hw.on s j oj hj hd h1.2 (hin j h1.1)
            rw [same_exec (P := P) (Region.noSelect_spec hok.sel i o · · ho') hlook]
            exact hrun
        exact fin hg v w hrun2 (hfar L a w i o v hL ho hsp hJ) (hw.step hok hL ho (fun _ => hv))
/-- a region by such a plan, in a round or not; the final values of special slots are of no account -/
theorem wpIn_region_planI {id : Nat} {a : Act} {w : World} {aF : Act} (vals : List Value) (hE : putAll l vals a = aF) (er Sp : List Nat) (J : Array Bool → Act → World → Prop) (N : Nat) (hN : a.tmps.size = N) (hm : P.follows .mixedOrders = true) (hB : planIB l N er Sp = true) (hJ0 : J (Array.replicate l.length false) a { w with drawn := w.drawn + 1 })
    (hfar : JFar l Sp J) (hs : ∀ i o, l[i]? = some o → Sp.contains i = true → StepS P l a aF Sp J i o) (hd : ∀ i o, l[i]? = some o → Sp.contains i = false → StepD P l a aF er J i o)
    (hQ : ∀ L a' w', L.size = l.length → (∀ i, i < l.length → L.getD i false = true) → OnD l a aF Sp L a' → J L a' w' → Q .normal a' w') : (Code.region id l.toArray true).wpIn (wideR ro) n P Q a w := by
  subst hN
  have hz : ∀ (m i : Nat), (Array.replicate m false).getD i false = false := fun m i => by
    rw [Array.getD_eq_getD_getElem?, Array.getElem?_replicate]; split <;> rfl
  refine wpIn_region_any hm ?_
  refine planI_any (planIB_ok hB) (fun s hs => by rw [← hE]; exact (putAll_keeps l vals a).2.2 s hs |>.symm) hfar hs hd hQ l.toArray.size (Array.replicate l.toArray.size false) a _ (by unfold left; simp) (by simp) (fun i o _ hl => by rw [hz] at hl; cases hl)
    ⟨fun _ _ => rfl, rfl, rfl, fun s j o _ _ _ hl => by rw [hz] at hl; cases hl⟩ (by simpa using hJ0)
end main
end Go.Proofs.Ytdkpjfjmccgaoaa
