/- For all texts s and all ints k: NamesRaw returns true. No condition. -/
import Derived.Test.YtdpclmogfnigdaaRows
import Derived.WalkKit
import Derived.ProofKit
import Derived.OpenShut
import Derived.ShutString
import Derived.ChangeOld
import Derived.Below
import Derived.Carry
import Derived.Test.YtdpclmogfnigdaaC
import Derived.Test.YtdpclmogfnigdaaP
import Derived.Test.YtdpclmogfnigdaaPV
import Derived.Test.YtdpclmogfnigdaaD
import Derived.Test.YtdpclmogfnigdaaE
import Derived.Test.YtdpclmogfnigdaaF
import Derived.Test.YtdpclmogfnigdaaG
import Derived.Test.YtdpclmogfnigdaaH
import Derived.Test.YtdpclmogfnigdaaI
import Derived.Test.YtdpclmogfnigdaaJ
import Derived.Test.YtdpclmogfnigdaaK
import Derived.Test.YtdpclmogfnigdaaL
import Derived.Test.YtdpclmogfnigdaaM
import Derived.Test.YtdpclmogfnigdaaN
import Derived.Test.YtdpclmogfnigdaaO
import Derived.Test.YtdpclmogfnigdaaQ
import Derived.Test.YtdpclmogfnigdaaR
import Derived.Test.YtdpclmogfnigdaaS
import Derived.Test.YtdpclmogfnigdaaT
namespace Go.Proofs.Ytdpclmogfnigdaa.namesRaw
open Go.ChangeShapes Go.WideShapes Go.ChangeAt Go.RowKit
open Go.ChangeMaps (open_string shut_string)
set_option linter.unusedVariables false

theorem own : ownKnob Try.prog.godebug = none := by kernel_rfl
theorem laidOut : laidOutB Try.prog = true := by kernel_rfl

set_option linter.unusedSimpArgs false
set_option maxRecDepth 100000 in
set_option maxHeartbeats 4000000 in
theorem walk (s : ByteArray) (k : Int) (w : World) (w0 : s.size ≤ maxLen) (w1 : (Lit.int .i64 k).wf = true) :
    Calls Try.prog 3 #[.string s, .int .i64 k] w fun e w' => e = .returned (.bool true) ∧ Below w.heap.size w w' := by
  unfold maxLen at w0
  clear w1
  have HAw := hid awake_any
  by_cases h80 : s.size ≤ 80
  · have h80' : ¬ (80 : Int) < (s.size : Int) := by omega
    have A1 := hid (fun k => agrees_any s k (by omega))
    have hx1 : (({ data := #[97] } : ByteArray) ++ s).size = 1 + s.size := by simp; rfl
    have hx2 : (s ++ ({ data := #[95, 108, 111, 103] } : ByteArray)).size = s.size + 4 := by simp; rfl
    have A2 := hid (fun k => agrees_any (({ data := #[97] } : ByteArray) ++ s) k (by omega))
    have A3 := hid (fun k => agrees_any (s ++ ({ data := #[95, 108, 111, 103] } : ByteArray)) k (by omega))
    go_enter Try.func3, Try.ntmps3
    go_wp2_with fail
    refine (A1.out _ _).mono ?_
    rintro e w1 ⟨rfl, hb1⟩
    have HB1 := hid hb1
    clear hb1
    go_wp2_with fail
    refine (A2.out _ _).mono ?_
    rintro e w2 ⟨rfl, hb2⟩
    have HB2 := hid (bt HB1.out hb2)
    clear hb2
    go_wp2_with fail
    refine (A3.out _ _).mono ?_
    rintro e w3 ⟨rfl, hb3⟩
    have HB3 := hid (bt HB2.out hb3)
    clear hb3
    go_wp2_with fail
    refine (HAw.out _).mono ?_
    rintro e w4 ⟨rfl, hb4⟩
    have HB4 := hid (bt HB3.out hb4)
    clear hb4
    go_wp2_with fail
    go_ret
    exact ⟨rfl, HB4.out⟩
  · have h80' : (80 : Int) < (s.size : Int) := by omega
    go_enter Try.func3, Try.ntmps3
    go_wp2_with fail
    refine (HAw.out _).mono ?_
    rintro e w1 ⟨rfl, hb1⟩
    have HB1 := hid hb1
    clear hb1
    go_wp2_with fail
    go_ret
    exact ⟨rfl, HB1.out⟩

set_option maxRecDepth 100000 in
theorem lifted (os : Os) (started : os.Started) (H : Type) (enc : TypeId × Value → H) :
    ReturnsInHanded {} Try.checked os 3 .any (Rows.namesRawSpec.pre6 enc Try.prog Try.f3 Rows.namesRawRow.domain false) (Rows.namesRawSpec.post enc Try.prog Try.f3 false true false false) := by
  refine returnsInHanded_of_change (C := Try.checked) own started (by kernel_rfl) Try.func3
    (ChangeSpec.witness6 (enc := enc) (C := Try.checked) false ⟨#[], #[.string ByteArray.empty, .int .i64 0], []⟩ 8 (by kernel_rfl) (by kernel_rfl) (by kernel_rfl) (by kernel_rfl)) ?_
  intro W base args ds gs before hval0 hW hcnd _
  have hval : ∀ (j : Nat) t v, Try.f3.params[j]? = some t → args[j]? = some v → Value.okWide Try.prog W .any base t v := hval0
  have hW' := hW
  obtain ⟨p, q, hA0, hV, rfl, hfz, hnd⟩ := hW
  have hA : DataW.TrodAll enc Try.prog W 0 (fun _ => true) true Try.f3.params.toList args.toList ds p := hA0
  rw [Try.params3] at hA hval
  obtain ⟨v0, vs0, d0, ds0, p0, q0, hargs, rfl, rfl, h0, r0⟩ := trodAll_cons hA
  obtain ⟨v1, vs1, d1, ds1, p1, q1, rfl, rfl, rfl, h1, r1⟩ := trodAll_cons r0
  obtain ⟨rfl, rfl, rfl⟩ := trodAll_nil r1
  obtain rfl : args = #[v0, v1] := by cases args; simp_all
  obtain ⟨rfl, rfl⟩ := trodVars_none hV
  obtain ⟨a0, rfl, rfl, rfl, w0⟩ := open_string Try.underlying9 (hval 0 9 v0 rfl rfl) h0
  obtain ⟨a1, rfl, rfl, rfl, w1⟩ := open_int Try.underlying3 (hval 1 3 v1 rfl rfl) h1
  clear hA0 hval0
  refine (walk a0 a1 W w0 w1).mono fun e W' ⟨he, bel⟩ => ?_
  subst he
  exact ⟨_, rfl, _, _, _, [], _, [], hW', trodAll_mk1 (shut_bool Try.underlying4 _), (trodAll_cons_mk (shut_string Try.underlying9 w0) (trodAll_cons_mk (shut_int Try.underlying3 w1) trodAll_mk0)), rfl, bel.frame _, fun h => by cases h⟩

theorem over : Rows.namesRawRow.holds Try.pinned (OpenSpec.ofChange Rows.namesRawSpec) :=
  OpenClaim.holds_of_wide 3 Try.f3 rfl rfl rfl rfl rfl rfl rfl ⟨rfl, rfl, rfl, rfl, rfl⟩ rfl rfl rfl rfl rfl (by kernel_rfl) Try.func3 (by kernel_rfl)
    (of_decide_eq_true (by kernel_rfl)) (by unfold Func.isWrapper; first | (rw [if_pos (by decide +kernel)]; kernel_rfl) | (rw [if_neg (by decide +kernel)]; exact ⟨rfl, rfl⟩))
    (fun os started H enc _ => lifted os started H enc)

theorem proved : Rows.NamesRawSaid := over
#print axioms proved
end Go.Proofs.Ytdpclmogfnigdaa.namesRaw
