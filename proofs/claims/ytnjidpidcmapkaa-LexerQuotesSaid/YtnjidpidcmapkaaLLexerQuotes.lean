/- LexerQuotes: for every text the law returns true. No condition. -/
import Derived.Test.YtnjidpidcmapkaaRows
import Derived.WalkKit
import Derived.ProofKit
import Derived.OpenShut
import Derived.ShutString
import Derived.ChangeOld
import Derived.Below
import Derived.Carry
import Derived.Test.YtnjidpidcmapkaaSyA
import Derived.Test.YtnjidpidcmapkaaSyB
import Derived.Test.YtnjidpidcmapkaaSyC
import Derived.Test.YtnjidpidcmapkaaSyD
import Derived.Test.YtnjidpidcmapkaaSyF
import Derived.Test.YtnjidpidcmapkaaSyG
import Derived.Test.YtnjidpidcmapkaaSyH
import Derived.Test.YtnjidpidcmapkaaSyI
import Derived.Test.YtnjidpidcmapkaaSyJ
import Derived.Test.YtnjidpidcmapkaaSyP
import Derived.Test.YtnjidpidcmapkaaSyE
import Derived.Test.YtnjidpidcmapkaaSyK
import Derived.Test.YtnjidpidcmapkaaSyL
import Derived.Test.YtnjidpidcmapkaaSyM
import Derived.Test.YtnjidpidcmapkaaSyN
import Derived.Test.YtnjidpidcmapkaaSyO
import Derived.Test.YtnjidpidcmapkaaSyQ
import Derived.Test.YtnjidpidcmapkaaSyR
import Derived.Test.YtnjidpidcmapkaaSyU
import Derived.Test.YtnjidpidcmapkaaSyV
import Derived.Test.YtnjidpidcmapkaaSyW
import Derived.Test.YtnjidpidcmapkaaSyX
import Derived.Test.YtnjidpidcmapkaaSyZ
import Derived.Test.YtnjidpidcmapkaaX0
import Derived.Test.YtnjidpidcmapkaaX1
import Derived.Test.YtnjidpidcmapkaaX2
import Derived.Test.YtnjidpidcmapkaaX3
import Derived.Test.YtnjidpidcmapkaaX4
import Derived.Test.YtnjidpidcmapkaaX5
import Derived.Test.YtnjidpidcmapkaaX6
import Derived.Test.YtnjidpidcmapkaaX7
import Derived.Test.YtnjidpidcmapkaaX8
import Derived.Test.YtnjidpidcmapkaaX9
import Derived.Test.YtnjidpidcmapkaaXA
import Derived.Test.YtnjidpidcmapkaaXB
import Derived.Test.YtnjidpidcmapkaaXC
import Derived.Test.YtnjidpidcmapkaaXE
namespace Go.Proofs.Ytnjidpidcmapkaa.lexerQuotes
open Go.ChangeShapes Go.WideShapes Go.ChangeAt Go.RowKit
open Go.ChangeMaps (open_string shut_string)
set_option linter.unusedVariables false

theorem own : ownKnob Try.prog.godebug = none := by kernel_rfl
theorem laidOut : laidOutB Try.prog = true := by kernel_rfl

theorem walk (s : ByteArray) (w : World) (w0 : s.size ≤ maxLen) :
    Calls Try.prog 6 #[.string s] w fun e w' => e = .returned (.bool true) ∧ Below w.heap.size w w' := by
  obtain ⟨L, hL, rfl⟩ := of_str s
  exact CallOK.lawB (quotes_any L hL) (fun id o ho => by simp [find] at ho) (cargs := [.string (str L)]) (E := fun _ => none) ⟨_, _, rfl, rfl, rfl⟩ ⟨fun id o ho => by simp [find] at ho, fun id id' o o' ho => by simp [find] at ho⟩

set_option maxRecDepth 100000 in
theorem lifted (os : Os) (started : os.Started) (H : Type) (enc : TypeId × Value → H) :
    ReturnsInHanded {} Try.checked os 6 .any (Rows.lexerQuotesSpec.pre6 enc Try.prog Try.f6 Rows.lexerQuotesRow.domain false) (Rows.lexerQuotesSpec.post enc Try.prog Try.f6 false true false false) := by
  refine returnsInHanded_of_change (C := Try.checked) own started (by kernel_rfl) Try.func6
    (ChangeSpec.witness6 (enc := enc) (C := Try.checked) false ⟨#[], #[.string ByteArray.empty], []⟩ 8 (by kernel_rfl) (by kernel_rfl) (by kernel_rfl) (by kernel_rfl)) ?_
  intro W base args ds gs before hval0 hW hcnd _
  have hval : ∀ (j : Nat) t v, Try.f6.params[j]? = some t → args[j]? = some v → Value.okWide Try.prog W .any base t v := hval0
  have hW' := hW
  obtain ⟨p, q, hA0, hV, rfl, hfz, hnd⟩ := hW
  have hA : DataW.TrodAll enc Try.prog W 0 (fun _ => true) true Try.f6.params.toList args.toList ds p := hA0
  rw [Try.params6] at hA hval
  obtain ⟨v0, vs0, d0, ds0, p0, q0, hargs, rfl, rfl, h0, r0⟩ := trodAll_cons hA
  obtain ⟨rfl, rfl, rfl⟩ := trodAll_nil r0
  obtain rfl : args = #[v0] := by cases args; simp_all
  obtain ⟨rfl, rfl⟩ := trodVars_none hV
  obtain ⟨a0, rfl, rfl, rfl, w0⟩ := open_string Try.underlying9 (hval 0 9 v0 rfl rfl) h0
  clear hA0 hval0
  refine (walk a0 W w0).mono fun e W' ⟨he, bel⟩ => ?_
  subst he
  exact ⟨_, rfl, _, _, _, [], _, [], hW', trodAll_mk1 (shut_bool Try.underlying4 _), (trodAll_cons_mk (shut_string Try.underlying9 w0) trodAll_mk0), rfl, bel.frame _, fun h => by cases h⟩

theorem over : Rows.lexerQuotesRow.holds Try.pinned (OpenSpec.ofChange Rows.lexerQuotesSpec) :=
  OpenClaim.holds_of_wide 6 Try.f6 rfl rfl rfl rfl rfl rfl rfl ⟨rfl, rfl, rfl, rfl, rfl⟩ rfl rfl rfl rfl rfl (by kernel_rfl) Try.func6 (by kernel_rfl)
    (of_decide_eq_true (by kernel_rfl)) (by unfold Func.isWrapper; first | (rw [if_pos (by decide +kernel)]; kernel_rfl) | (rw [if_neg (by decide +kernel)]; exact ⟨rfl, rfl⟩))
    (fun os started H enc _ => lifted os started H enc)

theorem proved : Rows.LexerQuotesSaid := over
#print axioms proved
end Go.Proofs.Ytnjidpidcmapkaa.lexerQuotes
