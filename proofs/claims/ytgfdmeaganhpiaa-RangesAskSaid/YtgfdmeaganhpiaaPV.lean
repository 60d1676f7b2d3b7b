/- A region by a plan, where the final frame is told by the values that are put. No conditions but those of each theorem. -/
import Derived.Test.YtgfdmeaganhpiaaP
namespace Go.Proofs.Ytgfdmeaganhpiaa.Old
open Go.RowKit
set_option linter.unusedVariables false
section
variable {P : Program} {l : List Oper} {ro : Option Nat} {n : Nat} {Q : Exit → Act → World → Prop}
theorem wpIn_region_plan_v {id : Nat} {a : Act} {w : World} {aF : Act} (vals : List Value) (hE : putAll l vals a = aF) (er sp : List Nat) (ph : List (List (Nat × Nat))) (Ws : Nat → World) (N : Nat) (hN : a.tmps.size = N) (hm : P.follows .mixedOrders = true) (hB : planB l N er sp ph = true) (hsp : (sp.all fun t => decide (t < l.length)) = true) (haF : putAll l (valsOf l aF) a = aF) (hw0 : Ws 0 = { w with drawn := w.drawn + 1 })
    (hsteps : StepsP P l.toArray a aF er Ws 0 l ph) (hQ : Q .normal aF (Ws sp.length)) : (Code.region id l.toArray true).wpIn (wideR ro) n P Q a w :=
  wpIn_region_plan aF er sp ph Ws N hN hm hB hsp haF hw0 hsteps hQ
end
theorem any_steps {P : Program} {ops : Array Oper} {aF : Act} {Ws : Nat → World} {o : Oper} {p : List (Nat × Nat)} (hp : (p.all fun q => q.1 == q.2) = true) (h : ∀ w, StepP P ops aF o w w) : ∀ q ∈ p, StepP P ops aF o (Ws q.1) (Ws q.2) := fun q hq => by
  have := List.all_eq_true.1 hp q hq
  have e : q.1 = q.2 := by simpa using this
  rw [← e]
  exact h _
end Go.Proofs.Ytgfdmeaganhpiaa.Old
