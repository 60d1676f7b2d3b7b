/- A region by a plan, where the final frame is told by the values that are put. No conditions but those of each theorem. -/
import Derived.Test.YtfaeieeokelokaaP
namespace Go.Proofs.Ytfaeieeokelokaa
open Go.RowKit
set_option linter.unusedVariables false
section
variable {P : Program} {l : List Oper} {ro : Option Nat} {n : Nat} {Q : Exit → Act → World → Prop}
theorem wpIn_region_plan_v {id : Nat} {a : Act} {w : World} {aF : Act} (vals : List Value) (hE : putAll l vals a = aF) (er sp : List Nat) (ph : List (List (Nat × Nat))) (Ws : Nat → World) (N : Nat) (hN : a.tmps.size = N) (hm : P.follows .mixedOrders = true) (hB : planB l N er sp ph = true) (hsp : (sp.all fun t => decide (t < l.length)) = true) (haF : putAll l (valsOf l aF) a = aF) (hw0 : Ws 0 = { w with drawn := w.drawn + 1 })
    (hsteps : StepsP P l.toArray a aF er Ws 0 l ph) (hQ : Q .normal aF (Ws sp.length)) : (Code.region id l.toArray true).wpIn (wideR ro) n P Q a w :=
  wpIn_region_plan aF er sp ph Ws N hN hm hB hsp haF hw0 hsteps hQ
end
theorem any_steps {P : Program} {ops : Array Oper} {aF : Act} {Ws : Nat → World} {o : Oper} {p : List (Nat × Nat)} (hp : (p.all fun q => q.1 == q.2) = true) (h : ∀ w, StepP P ops aF o w w) : ∀ q ∈ p, StepP P ops aF o (Ws q.1) (Ws q.2) := fun q hq => by
  have := List.all_eq_true.1 hp q hq
  have e : q.1 = q.2 := by simpa using this
  rw [← e]
  exact h _
theorem StepP.want {P : Program} {ops : Array Oper} {aF : Act} {o : Oper} {w w' : World} (hw : Region.wanted o (yielded ops aF.tmps) = true) (h : o.wp P aF w (fun a' w'' => a' = aF ∧ w'' = w') (fun _ _ _ => False)) : StepP P ops aF o w w' := by
  unfold StepP
  rw [if_pos hw]
  exact h
theorem StepP.skip {P : Program} {ops : Array Oper} {aF : Act} {o : Oper} {w : World} (hw : Region.wanted o (yielded ops aF.tmps) = false) (h : aF.put o.dst undef = aF) : StepP P ops aF o w w := by
  unfold StepP
  rw [if_neg (by rw [hw]; simp)]
  exact ⟨h, rfl⟩
theorem step4 {P : Program} {ops : Array Oper} {aF : Act} {Ws : Nat → World} {o : Oper} {a b c d e f g i : Nat} (h : StepP P ops aF o (Ws a) (Ws b)) (k : StepP P ops aF o (Ws c) (Ws d)) (m : StepP P ops aF o (Ws e) (Ws f)) (n : StepP P ops aF o (Ws g) (Ws i)) : ∀ q ∈ [(a, b), (c, d), (e, f), (g, i)], StepP P ops aF o (Ws q.1) (Ws q.2) := fun q hq => by
  rcases List.mem_cons.1 hq with rfl | hq
  · exact h
  · exact step3 k m n q hq
end Go.Proofs.Ytfaeieeokelokaa
