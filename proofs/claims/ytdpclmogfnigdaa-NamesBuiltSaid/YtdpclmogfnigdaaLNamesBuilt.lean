/- For all lists of numbers: NamesBuilt returns true. No condition. -/
import Derived.Test.YtdpclmogfnigdaaRows
import Derived.WalkKit
import Derived.ProofKit
import Derived.OpenShut
import Derived.ShutString
import Derived.ChangeOld
import Derived.Below
import Derived.Carry
import Derived.Test.YtdpclmogfnigdaaC
import Derived.Test.YtdpclmogfnigdaaP
import Derived.Test.YtdpclmogfnigdaaPV
import Derived.Test.YtdpclmogfnigdaaD
import Derived.Test.YtdpclmogfnigdaaE
import Derived.Test.YtdpclmogfnigdaaF
import Derived.Test.YtdpclmogfnigdaaG
import Derived.Test.YtdpclmogfnigdaaH
import Derived.Test.YtdpclmogfnigdaaI
import Derived.Test.YtdpclmogfnigdaaJ
import Derived.Test.YtdpclmogfnigdaaK
import Derived.Test.YtdpclmogfnigdaaL
import Derived.Test.YtdpclmogfnigdaaM
import Derived.Test.YtdpclmogfnigdaaN
import Derived.Test.YtdpclmogfnigdaaO
import Derived.Test.YtdpclmogfnigdaaQ
import Derived.Test.YtdpclmogfnigdaaR
import Derived.Test.YtdpclmogfnigdaaS
import Derived.Test.YtdpclmogfnigdaaT
namespace Go.Proofs.Ytdpclmogfnigdaa.namesBuilt
open Go.ChangeShapes Go.WideShapes Go.ChangeAt Go.RowKit
open Go.ChangeMaps (open_string shut_string)
set_option linter.unusedVariables false

theorem own : ownKnob Try.prog.godebug = none := by kernel_rfl
theorem laidOut : laidOutB Try.prog = true := by kernel_rfl

set_option linter.unusedSimpArgs false
/-- what keeps all blocks keeps the reader -/
theorem src_below {n₀ B : Nat} {W W' : World} (h : SrcOK n₀ B W) (hb : Below W.heap.size W W') (hn : n₀ ≤ W.heap.size) : SrcOK n₀ B W' := by
  obtain ⟨a, len, cap, at', hr, h1, h2, h3⟩ := h
  exact ⟨a, len, cap, at', (hb.block B (Array.getElem?_eq_some_iff.1 hr).1).trans hr, h1, h2, h3.below (hb.mono hn)⟩
set_option maxRecDepth 100000 in
set_option maxHeartbeats 4000000 in
theorem walk (a0 : Option Addr) (len0 cap0 : Nat) (z0 : List Int) (w : World) (w0 : IsRow .i64 w a0 len0 cap0 z0) :
    Calls Try.prog 4 #[.slice a0 len0 cap0] w fun e w' => e = .returned (.bool true) ∧ Below w.heap.size w w' := by
  obtain ⟨hn, hl, hc⟩ := nums_of w0
  unfold maxLen at hc
  have HN := hid (new_ok a0 len0 cap0 w hn hl hc)
  have HAw := hid awake_any
  clear w0 hn hl hc
  go_enter Try.func4, Try.ntmps4
  go_wp2_with fail
  refine HN.out.mono ?_
  rintro e w1 ⟨rfl, HS, hb1⟩
  have HB1 := hid hb1
  have HBt := hid (built_ok w.heap.size w.heap.size (Nat.le_refl _) w1 hb1.size HS.out)
  have hlt := HS.out.lt
  clear hb1 HN
  go_wp2_with fail
  refine HBt.out.mono ?_
  rintro e w2 ⟨x, hx, rfl, H2⟩
  have HB2 := hid (HB1.out.grown H2.out.1 HB1.out.size (fun k e => by cases e; exact Nat.le_refl _))
  have HS2 := hid H2.out.2
  clear H2 HBt HS
  go_wp2_with fail
  refine (range_ok w.heap.size w.heap.size (Nat.le_refl _) (-1) 9 (by omega) (by omega) (by omega) w2 HS2.out).mono ?_
  rintro e w3 ⟨k, k0, k8, rfl, H3⟩
  have HB3 := hid (HB2.out.grown H3.out.1 HB2.out.size (fun k e => by cases e; exact Nat.le_refl _))
  have HS3 := hid H3.out.2
  have hlt3 := HS3.out.lt
  clear H3 HS2
  go_wp2_with fail
  refine (agrees_any x k (by omega) _).mono ?_
  rintro e w4 ⟨rfl, hb4⟩
  have HB4 := hid (bt HB3.out hb4)
  have HS4 := hid (src_below HS3.out hb4 HB3.out.size)
  clear hb4 HS3
  go_wp2_with fail
  refine (built_ok w.heap.size w.heap.size (Nat.le_refl _) w4 HB4.out.size HS4.out).mono ?_
  rintro e w5 ⟨y, hy, rfl, H5⟩
  have HB5 := hid (HB4.out.grown H5.out.1 HB4.out.size (fun k e => by cases e; exact Nat.le_refl _))
  have HS5 := hid H5.out.2
  clear H5 HS4
  go_wp2_with fail
  refine (range_ok w.heap.size w.heap.size (Nat.le_refl _) 0 5 (by omega) (by omega) (by omega) w5 HS5.out).mono ?_
  rintro e w6 ⟨j, j0, j5, rfl, H6⟩
  have HB6 := hid (HB5.out.grown H6.out.1 HB5.out.size (fun k e => by cases e; exact Nat.le_refl _))
  clear H6 HS5
  go_wp2_with fail
  refine (agrees_any y j (by omega) _).mono ?_
  rintro e w7 ⟨rfl, hb7⟩
  have HB7 := hid (bt HB6.out hb7)
  clear hb7
  go_wp2_with fail
  refine (HAw.out _).mono ?_
  rintro e w8 ⟨rfl, hb8⟩
  have HB8 := hid (bt HB7.out hb8)
  clear hb8
  go_wp2_with fail
  go_ret
  exact ⟨rfl, HB8.out⟩

set_option maxRecDepth 100000 in
theorem lifted (os : Os) (started : os.Started) (H : Type) (enc : TypeId × Value → H) :
    ReturnsInHanded {} Try.checked os 4 .any (Rows.namesBuiltSpec.pre6 enc Try.prog Try.f4 Rows.namesBuiltRow.domain false) (Rows.namesBuiltSpec.post enc Try.prog Try.f4 false true false false) := by
  refine returnsInHanded_of_change (C := Try.checked) own started (by kernel_rfl) Try.func4
    (ChangeSpec.witness6 (enc := enc) (C := Try.checked) false ⟨#[], #[.slice none 0 0], []⟩ 8 (by kernel_rfl) (by kernel_rfl) (by kernel_rfl) (by kernel_rfl)) ?_
  intro W base args ds gs before hval0 hW hcnd _
  have hval : ∀ (j : Nat) t v, Try.f4.params[j]? = some t → args[j]? = some v → Value.okWide Try.prog W .any base t v := hval0
  have hW' := hW
  obtain ⟨p, q, hA0, hV, rfl, hfz, hnd⟩ := hW
  have hA : DataW.TrodAll enc Try.prog W 0 (fun _ => true) true Try.f4.params.toList args.toList ds p := hA0
  rw [Try.params4] at hA hval
  obtain ⟨v0, vs0, d0, ds0, p0, q0, hargs, rfl, rfl, h0, r0⟩ := trodAll_cons hA
  obtain ⟨rfl, rfl, rfl⟩ := trodAll_nil r0
  obtain rfl : args = #[v0] := by cases args; simp_all
  obtain ⟨rfl, rfl⟩ := trodVars_none hV
  obtain ⟨a0, len0, cap0, rfl⟩ := okWide_slice Try.underlying24 (hval 0 24 v0 rfl rfl)
  have k0 := h0
  have lt0 : ∀ x ∈ p0, x.block < W.heap.size := by obtain ⟨m, hm⟩ := k0; exact DataW.trod_lt m _ _ _ hm
  obtain ⟨z0, w0⟩ : ∃ zs, IsRow .i64 W a0 len0 cap0 zs := by
    obtain ⟨fuel, hf⟩ := h0
    rcases open_ints Try.underlying24 Try.underlying3 (by kernel_rfl) hf with ⟨hcs, _⟩ | ⟨x, l, c, zs, hcs, _, hl, hm, hz, _, hcell, hwz⟩
    · simp [Value.cells] at hcs
      obtain ⟨rfl, rfl, rfl⟩ := hcs
      exact ⟨[], .inl ⟨rfl, rfl, rfl, rfl⟩⟩
    · simp [Value.cells] at hcs
      obtain ⟨rfl, rfl, rfl⟩ := hcs
      exact ⟨zs, .inr ⟨_, rfl, hl, hm, by simpa using hz, hcell, hwz⟩⟩
  clear hA0 hval0
  refine (walk a0 len0 cap0 z0 W w0).mono fun e W' ⟨he, bel⟩ => ?_
  subst he
  exact ⟨_, rfl, _, _, _, [], _, [], hW', trodAll_mk1 (shut_bool Try.underlying4 _), (trodAll_cons_mk (Below.trod laidOut (by kernel_rfl) (of_decide_eq_true (by kernel_rfl)) k0 bel lt0) trodAll_mk0), rfl, bel.frame _, fun h => by cases h⟩

theorem over : Rows.namesBuiltRow.holds Try.pinned (OpenSpec.ofChange Rows.namesBuiltSpec) :=
  OpenClaim.holds_of_wide 4 Try.f4 rfl rfl rfl rfl rfl rfl rfl ⟨rfl, rfl, rfl, rfl, rfl⟩ rfl rfl rfl rfl rfl (by kernel_rfl) Try.func4 (by kernel_rfl)
    (of_decide_eq_true (by kernel_rfl)) (by unfold Func.isWrapper; first | (rw [if_pos (by decide +kernel)]; kernel_rfl) | (rw [if_neg (by decide +kernel)]; exact ⟨rfl, rfl⟩))
    (fun os started H enc _ => lifted os started H enc)

theorem proved : Rows.NamesBuiltSaid := over
#print axioms proved
end Go.Proofs.Ytdpclmogfnigdaa.namesBuilt
