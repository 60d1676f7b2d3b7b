/- A region by a plan, where the worlds between the operations that write are told by what holds of them. No conditions but those of each theorem. -/
import Derived.Test.YtfaeieeokelokaaPV
namespace Go.Proofs.Ytfaeieeokelokaa
open Go.RowKit
set_option linter.unusedVariables false
set_option linter.unusedSimpArgs false

/-- operation o, at the final frame, leaves that frame, and leads from world w to one of which R holds -/
def StepR (P : Program) (ops : Array Oper) (aF : Act) (o : Oper) (w : World) (R : World → Prop) : Prop :=
  if Region.wanted o (yielded ops aF.tmps) = true then o.wp P aF w (fun a' w'' => a' = aF ∧ R w'') (fun _ _ _ => False) else (aF.put o.dst undef = aF ∧ R w)
/-- a step of one of both kinds, from all worlds of which R holds -/
def StepKR (P : Program) (ops : Array Oper) (a0 aF : Act) (early : Bool) (o : Oper) (R R' : World → Prop) : Prop :=
  if early then ∀ w, R w → ∃ w', R' w' ∧ StepE P ops a0 aF o w w' else ∀ w, R w → StepR P ops aF o w R'

theorem step_inR {P : Program} {ops : Array Oper} {ro : Option Nat} {n : Nat} {Q : Exit → Act → World → Prop} {i : Nat} {o : Oper} {a aF : Act} {w : World} {R : World → Prop} {K : Act → World → Prop} (hd : plainOp o = true) (hs : ∀ cs b, o.op ≠ .select cs b) (ho : ops[i]? = some o) (hl : ∀ s ∈ o.looksAt ops, a.tmps[s]? = aF.tmps[s]?)
    (h : StepR P ops aF o w R) (hK : ∀ v w', R w' → aF.put o.dst v = aF → K (a.put o.dst v) w') : wpOpIn (wideR ro) n P ops Q i K a w := by
  unfold StepR at h
  unfold wpOpIn
  simp only [ho]
  rw [same_wanted hl]
  split
  · rename_i hw
    rw [if_pos hw] at h
    unfold Oper.wp at h
    refine ⟨fun _ _ => trivial, ?_⟩
    rw [Oper.semAt_eq _ _ _ (plainOp_spec hd), same_exec (P := P) hs hl]
    generalize (execOp aF.eval o).run P w = r at *
    cases r with
    | ok x w1 =>
      cases x <;> simp only [Oper.upon] at h <;> simp only [Oper.uponIn]
      case value v => obtain ⟨h1, h2⟩ := h; exact hK v _ h2 h1
      case skip => obtain ⟨h1, h2⟩ := h; exact hK _ _ h2 h1
      case defer d =>
        have := congrArg (fun x => x.defers.length) h.1
        simp [put_defers] at this
      case enter f args =>
        refine ⟨fun hh => (by cases hh), ?_⟩
        have hc : CallsIn Fence.wide (n - 1) P f args w1 _ := callsIn_wide.2 h
        refine CallsIn.mono (F := wideR ro) hc fun e w2 he => ?_
        cases e with
        | returned v => obtain ⟨h1, h2⟩ := he; exact hK v _ h2 h1
        | panicked c => exact he.elim
        | outgrown => obtain ⟨_, _, hh⟩ := he; exact hh.elim
      case row row args =>
        refine ⟨fun hh => (by cases hh), ?_⟩
        intro c cs _
        obtain ⟨v, w2, ⟨h1, h2⟩, s⟩ := h c cs
        exact ⟨v, _, hK v _ h2 h1, stepsIn_wide.2 s⟩
    | halt x w1 => cases x <;> simp only [Oper.upon] at h
  · rename_i hw
    rw [if_neg hw] at h
    obtain ⟨h1, h2⟩ := h
    exact ⟨fun _ _ => trivial, hK _ _ h2 h1⟩

section main
variable {P : Program} {l : List Oper} {er sp : List Nat} {ph : List (List (Nat × Nat))} {a0 aF : Act} {WP : Nat → World → Prop} {ro : Option Nat} {n : Nat} {Q : Exit → Act → World → Prop}
theorem plan_doneR (hok : PlanOK l aF.tmps.size er sp ph) (hsp : ∀ t ∈ sp, t < l.length) {L : Array Bool} {a : Act} (hL : L.size = l.length) (hw : OnWay l a0 aF L a) (hall : ∀ i, i < l.length → L.getD i false = true) (hQ : ∀ w, WP sp.length w → Q .normal aF w) {w : World} (hw0 : WP (phase sp L) w) : Q .normal a w := by
  have e1 : a = aF := act_ext hw.size hw.defers fun s => by
    by_cases h : ∀ o ∈ l, o.dst ≠ some s
    · exact hw.off s h
    · obtain ⟨o, ho, hd⟩ : ∃ o, o ∈ l ∧ o.dst = some s := by
        refine Decidable.byContradiction fun hh => h fun o ho hd => hh ⟨o, ho, hd⟩
      obtain ⟨j, hj⟩ := List.getElem?_of_mem ho
      exact hw.on s j o hj hd (hall j (List.getElem?_eq_some_iff.1 hj).1)
  have e2 : phase sp L = sp.length := by
    unfold phase
    rw [List.filter_eq_self.2 (fun t ht => hall t (hsp t ht))]
  rw [e1]
  rw [e2] at hw0
  exact hQ w hw0

theorem plan_anyR (hok : PlanOK l aF.tmps.size er sp ph) (hsp : ∀ t ∈ sp, t < l.length) (hstep : ∀ (i : Nat) (o : Oper) (p : Nat × Nat), l[i]? = some o → p ∈ ph[i]?.getD [] → StepKR P l.toArray a0 aF (er.contains i) o (WP p.1) (WP p.2)) (hQ : ∀ w, WP sp.length w → Q .normal aF w) :
    ∀ (fuel : Nat) (L : Array Bool) (a : Act) (w : World), left L ≤ fuel → L.size = l.length → Clo l L → OnWay l a0 aF L a → WP (phase sp L) w → wpAnyIn (wideR ro) n P .any l.toArray Q fuel L a w
  | 0, L, a, w, hf, hL, hc, hw, hW => by
    have h0 := left_zero (show left L = 0 by omega)
    refine ⟨List.filter_eq_nil_iff.2 fun i hi => ?_, plan_doneR hok hsp hL hw (fun i hi => getD_bf (by omega) (h0 i)) hQ hW⟩
    simp [h0 i]
  | fuel + 1, L, a, w, hf, hL, hc, hw, hW => by
    refine ⟨fun hr => ?_, fun i hi => ?_⟩
    · refine plan_doneR hok hsp hL hw (fun i => ?_) hQ hW
      induction i using Nat.strongRecOn with
      | ind i ih =>
        intro hi
        refine Decidable.byContradiction fun hn => ?_
        have hmem : i ∈ Region.ready .any l.toArray L := by
          rw [mem_ready]
          refine ⟨?_, l[i], by simp [hi], fun e he hb => ih e.on (hok.low i l[i] (by simp [hi]) e he hb) (Nat.lt_trans (hok.low i l[i] (by simp [hi]) e he hb) hi)⟩
          cases hg : L.getD i true with
          | true => exact absurd (getD_bf (by omega) hg) hn
          | false => rfl
        rw [hr] at hmem
        cases hmem
    · obtain ⟨hun, o, ho', hdeps⟩ := mem_ready.1 hi
      have ho : l[i]? = some o := by simpa using ho'
      have hi2 : i < l.length := (List.getElem?_eq_some_iff.1 ho).1
      have hunf := getD_fb hun
      have hdep : ∀ o', l[i]? = some o' → ∀ e ∈ o'.after, Region.binds .any e = true → L.getD e.on false = true := fun o' h' => by
        rw [ho] at h'
        obtain rfl := Option.some.inj h'
        exact hdeps
      have hin : ∀ t, (maskF l l.length i).testBit t = true → L.getD t false = true := fun t ht => mask_on hc _ i t ht hdep
      have hph : (phase sp L, phase sp (L.setIfInBounds i true)) ∈ ph[i]?.getD [] := by
        by_cases hs : i ∈ sp
        · obtain ⟨k, hk⟩ := List.getElem?_of_mem hs
          have hkl := (List.getElem?_eq_some_iff.1 hk).1
          -- listed just those before k
          have down : ∀ (m d t u : Nat), sp[m]? = some t → sp[m + d]? = some u → L.getD u false = true → L.getD t false = true := by
            intro m d
            induction d with
            | zero => intro t u h1 h2 h3; rw [Nat.add_zero, h1] at h2; obtain rfl := Option.some.inj h2; exact h3
            | succ d ih =>
              intro t u h1 h2 h3
              have hlt : m + d < sp.length := by have := (List.getElem?_eq_some_iff.1 h2).1; omega
              have h4 : sp[m + d]? = some sp[m + d] := List.getElem?_eq_getElem hlt
              exact ih t _ h1 h4 (mask_up hc _ _ _ (hok.chain (m + d) _ u h4 (by rw [← h2]; rfl)) h3)
          have hiff : ∀ (m t : Nat), sp[m]? = some t → (L.getD t false = true ↔ m < k) := by
            intro m t hm
            constructor
            · intro hl
              refine Decidable.byContradiction fun hge => ?_
              obtain ⟨d, hd⟩ : ∃ d, m = k + d := ⟨m - k, by omega⟩
              subst hd
              have := down k d i t hk hm hl
              rw [hunf] at this
              cases this
            · intro hlt
              have hlt' : k - 1 < sp.length := by omega
              have h4 : sp[k - 1]? = some sp[k - 1] := List.getElem?_eq_getElem hlt'
              have h5 : L.getD sp[k - 1] false = true := hin _ (hok.chain (k - 1) _ i h4 (by rw [show k - 1 + 1 = k by omega]; exact hk))
              obtain ⟨d, hd⟩ : ∃ d, k - 1 = m + d := ⟨k - 1 - m, by omega⟩
              exact down m d t _ hm (by rw [← hd]; exact h4) h5
          have e1 : phase sp L = k := filter_first _ sp k (by omega) hiff
          have e2 : phase sp (L.setIfInBounds i true) = k + 1 := filter_first _ sp (k + 1) (by omega) fun m t hm => by
            by_cases e : i = t
            · subst e
              have hmk : m = k := by
                rcases Nat.lt_trichotomy m k with h | h | h
                · exact absurd hk (hok.nodup m k i h hm)
                · exact h
                · exact absurd hm (hok.nodup k m i h hk)
              simp only [getD_set_self (show i < L.size by omega), true_iff]
              omega
            · rw [getD_set_other e, hiff m t hm]
              have hmk : m ≠ k := fun h => by
                subst h
                rw [hm] at hk
                exact e (Option.some.inj hk).symm
              omega
          rw [e1, e2]
          exact hok.spine i k hi2 hk
        · have e : phase sp (L.setIfInBounds i true) = phase sp L := by
            unfold phase
            congr 1
            refine List.filter_congr fun t ht => ?_
            rw [getD_set_other (fun h => hs (by rw [h]; exact ht))]
          rw [e]
          refine hok.rest i _ hi2 hs (List.length_filter_le _ _) (filter_le _ _ sp fun t _ ht => hin t ht) (filter_apart _ _ sp fun t _ h1 h2 => ?_)
          have := mask_up hc _ t i h2 h1
          rw [hunf] at this
          cases this
      have hgo : ∀ v w', WP (phase sp (L.setIfInBounds i true)) w' → aF.put o.dst v = aF → wpAnyIn (wideR ro) n P .any l.toArray Q fuel (L.setIfInBounds i true) (a.put o.dst v) w' := fun v w' hw' hv =>
        plan_anyR hok hsp hstep hQ fuel _ _ w' (by have := left_set hun; omega) (by simpa using hL) (clo_set hL hc hi2 hdep) (hw.step hL ho (fun d hd => hok.dst i o d ho hd) hv) hw'
      have hst := hstep i o _ ho hph
      unfold StepKR at hst
      by_cases her : er.contains i = true
      · rw [if_pos her] at hst
        have hlook : ∀ s ∈ o.looksAt l.toArray, a.tmps[s]? = a0.tmps[s]? := fun s hs => hw.old s fun j oj hj hd => by
          have h1 := hok.look i o s j oj ho hs hj hd
          rw [if_pos her] at h1
          cases hg : L.getD j false with
          | false => rfl
          | true =>
            have := mask_up hc _ j i h1 hg
            rw [hunf] at this
            cases this
        obtain ⟨w', hw', hwant, v, hrun, hput⟩ := hst w hW
        unfold wpOpIn
        simp only [ho']
        rw [same_wanted hlook, if_pos hwant]
        refine ⟨fun _ _ => trivial, ?_⟩
        rw [Oper.semAt_eq _ _ _ (plainOp_spec (hok.plain i o ho)), same_exec (P := P) (Region.noSelect_spec hok.sel i o · · ho') hlook, hrun]
        exact hgo v w' hw' hput
      · rw [if_neg her] at hst
        have hlook : ∀ s ∈ o.looksAt l.toArray, a.tmps[s]? = aF.tmps[s]? := fun s hs => by
          by_cases h : ∀ o ∈ l, o.dst ≠ some s
          · exact hw.off s h
          · obtain ⟨oj, hoj, hd⟩ : ∃ o, o ∈ l ∧ o.dst = some s := by
              refine Decidable.byContradiction fun hh => h fun o ho hd => hh ⟨o, ho, hd⟩
            obtain ⟨j, hj⟩ := List.getElem?_of_mem hoj
            have h1 := hok.look i o s j oj ho hs hj hd
            rw [if_neg her] at h1
            exact hw.on s j oj hj hd (hin j h1)
        exact step_inR (hok.plain i o ho) (Region.noSelect_spec hok.sel i o · · ho') ho' hlook (hst w hW) hgo

/-- the steps of a plan, one behind the other -/
def StepsR (P : Program) (ops : Array Oper) (a0 aF : Act) (er : List Nat) (WP : Nat → World → Prop) : Nat → List Oper → List (List (Nat × Nat)) → Prop
  | k, o :: os, p :: ps => (∀ q ∈ p, StepKR P ops a0 aF (er.contains k) o (WP q.1) (WP q.2)) ∧ StepsR P ops a0 aF er WP (k + 1) os ps
  | _, _, _ => True
theorem stepsR_at {P : Program} {ops : Array Oper} {a0 aF : Act} {er : List Nat} {WP : Nat → World → Prop} : ∀ {k : Nat} {l : List Oper} {ph : List (List (Nat × Nat))}, StepsR P ops a0 aF er WP k l ph → ∀ (i : Nat) (o : Oper) (p : Nat × Nat), l[i]? = some o → p ∈ ph[i]?.getD [] → StepKR P ops a0 aF (er.contains (k + i)) o (WP p.1) (WP p.2)
  | _, [], _, _, i, o, p, ho, _ => by simp at ho
  | _, _ :: _, [], _, i, o, p, _, hp => by simp at hp
  | k, o' :: os, q :: ps, h, i, o, p, ho, hp => by
    cases i with
    | zero => simp at ho hp; subst ho; exact h.1 p hp
    | succ i =>
      have := stepsR_at h.2 i o p (by simpa using ho) (by simpa using hp)
      rwa [show k + 1 + i = k + (i + 1) by omega] at this
/-- a region by a plan, in a round or not -/
theorem wpIn_region_planR {id : Nat} {a : Act} {w : World} {aF : Act} (vals : List Value) (hE : putAll l vals a = aF) (er sp : List Nat) (ph : List (List (Nat × Nat))) (WP : Nat → World → Prop) (N : Nat) (hN : a.tmps.size = N) (hm : P.follows .mixedOrders = true) (hB : planB l N er sp ph = true) (hsp : (sp.all fun t => decide (t < l.length)) = true) (haF : putAll l (valsOf l aF) a = aF) (hw0 : WP 0 { w with drawn := w.drawn + 1 })
    (hsteps : StepsR P l.toArray a aF er WP 0 l ph) (hQ : ∀ w, WP sp.length w → Q .normal aF w) : (Code.region id l.toArray true).wpIn (wideR ro) n P Q a w := by
  obtain ⟨k1, k2, k3⟩ := putAll_keeps l (valsOf l aF) a
  rw [haF] at k1 k2 k3
  have hok : PlanOK l aF.tmps.size er sp ph := by rw [k1, hN]; exact planB_ok hB
  have hsp' : ∀ t ∈ sp, t < l.length := fun t ht => by simpa using List.all_eq_true.1 hsp t ht
  refine wpIn_region_any hm ?_
  have hz : ∀ (m i : Nat), (Array.replicate m false).getD i false = false := fun m i => by
    rw [Array.getD_eq_getD_getElem?, Array.getElem?_replicate]; split <;> rfl
  have h0 : phase sp (Array.replicate l.toArray.size false) = 0 := by
    unfold phase
    rw [List.length_eq_zero_iff, List.filter_eq_nil_iff]
    intro t _
    rw [hz]; simp
  have hst := stepsR_at hsteps
  simp only [Nat.zero_add] at hst
  exact plan_anyR (Q := Q) (ro := ro) (n := n) (P := P) (a0 := a) hok hsp' hst hQ l.toArray.size (Array.replicate l.toArray.size false) a _ (by unfold left; simp) (by simp) (fun i o _ hl => by rw [hz] at hl; cases hl)
    ⟨fun _ _ => rfl, k1.symm, k2.symm, fun s hs => (k3 s hs).symm, fun s j o _ _ hl => by rw [hz] at hl; cases hl⟩ (by rw [h0]; exact hw0)
end main
theorem StepsR.nil {P : Program} {ops : Array Oper} {a0 aF : Act} {er : List Nat} {WP : Nat → World → Prop} {k : Nat} {ph : List (List (Nat × Nat))} : StepsR P ops a0 aF er WP k [] ph := trivial
theorem StepsR.cons {P : Program} {ops : Array Oper} {a0 aF : Act} {er : List Nat} {WP : Nat → World → Prop} {k : Nat} {o : Oper} {os : List Oper} {p : List (Nat × Nat)} {ps : List (List (Nat × Nat))} (he : er.contains k = false) (h : ∀ q ∈ p, ∀ w, WP q.1 w → StepR P ops aF o w (WP q.2)) (t : StepsR P ops a0 aF er WP (k + 1) os ps) : StepsR P ops a0 aF er WP k (o :: os) (p :: ps) :=
  ⟨fun q hq => by unfold StepKR; rw [he]; exact h q hq, t⟩
theorem stepR1 {P : Program} {ops : Array Oper} {aF : Act} {WP : Nat → World → Prop} {o : Oper} {a b : Nat} (h : ∀ w, WP a w → StepR P ops aF o w (WP b)) : ∀ q ∈ [(a, b)], ∀ w, WP q.1 w → StepR P ops aF o w (WP q.2) := fun q hq => by
  obtain rfl := List.mem_singleton.1 hq
  exact h
theorem StepR.want {P : Program} {ops : Array Oper} {aF : Act} {o : Oper} {w : World} {R : World → Prop} (hw : Region.wanted o (yielded ops aF.tmps) = true) (h : o.wp P aF w (fun a' w'' => a' = aF ∧ R w'') (fun _ _ _ => False)) : StepR P ops aF o w R := by
  unfold StepR
  rw [if_pos hw]
  exact h
theorem StepR.skip {P : Program} {ops : Array Oper} {aF : Act} {o : Oper} {w : World} {R : World → Prop} (hw : Region.wanted o (yielded ops aF.tmps) = false) (h : aF.put o.dst undef = aF) (hR : R w) : StepR P ops aF o w R := by
  unfold StepR
  rw [if_neg (by rw [hw]; simp)]
  exact ⟨h, hR⟩
end Go.Proofs.Ytfaeieeokelokaa
