/- For all lists of numbers: SpacemapRolls returns true. No condition. -/
import Derived.Test.YtablogkafbajaaaRows
import Derived.WalkKit
import Derived.ProofKit
import Derived.OpenShut
import Derived.ShutString
import Derived.ChangeOld
import Derived.Below
import Derived.Carry
import Derived.Test.YtablogkafbajaaaC
import Derived.Test.YtablogkafbajaaaD
import Derived.Test.YtablogkafbajaaaE
import Derived.Test.YtablogkafbajaaaF
import Derived.Test.YtablogkafbajaaaG
import Derived.Test.YtablogkafbajaaaH
import Derived.Test.YtablogkafbajaaaI
import Derived.Test.YtablogkafbajaaaJ
import Derived.Test.YtablogkafbajaaaKk
import Derived.Test.YtablogkafbajaaaN
import Derived.Test.YtablogkafbajaaaO
import Derived.Test.YtablogkafbajaaaS
import Derived.Test.YtablogkafbajaaaQ
import Derived.Test.YtablogkafbajaaaR
namespace Go.Proofs.Ytablogkafbajaaa.spacemapRolls
open Go.ChangeShapes Go.WideShapes Go.ChangeAt Go.RowKit
open Go.ChangeMaps (open_string shut_string)
set_option linter.unusedVariables false

theorem own : ownKnob Try.prog.godebug = none := by kernel_rfl
theorem laidOut : laidOutB Try.prog = true := by kernel_rfl

set_option linter.unusedSimpArgs false
theorem ch_same (X : List Int) (k : Nat) : ch X X k = [] := by
  induction k with
  | zero => rfl
  | succ k ih => unfold ch; rw [ih]; simp
set_option maxRecDepth 100000 in
set_option maxHeartbeats 8000000 in
theorem walk (a0 : Option Addr) (len0 cap0 : Nat) (z0 : List Int) (w : World) (w0 : IsRow .i64 w a0 len0 cap0 z0) :
    Calls Try.prog 6 #[.slice a0 len0 cap0] w fun e w' => e = .returned (.bool true) ∧ Below w.heap.size w w' := by
  obtain ⟨hn, hl, hc⟩ := nums_of w0
  unfold maxLen at hc
  have HN := hid (new_ok a0 len0 cap0 w hn hl hc)
  have HAw := hid awake_any
  clear w0 hn hl hc
  go_enter Try.func6, Try.ntmps6
  go_wp2_with fail
  refine HN.out.mono ?_
  rintro e w1 ⟨rfl, HS, hb1⟩
  have HB1 := hid hb1
  have hs1 := hb1.size
  have HRg := hid (range_ok w.heap.size w.heap.size (Nat.le_refl _) 0 20 (by omega) (by omega) (by omega) w1 HS.out)
  clear hb1 HN HS
  go_wp2_with fail
  refine HRg.out.mono ?_
  rintro e w2 ⟨z, z0, z30, rfl, H2⟩
  have HB2 := hid (HB1.out.grown H2.out.1 hs1 (fun k e => by cases e; exact Nat.le_refl _))
  have HS2 := hid H2.out.2
  have hs2 := HB2.out.size
  clear H2 HRg HB1
  go_wp2_with fail
  refine (play_ok w.heap.size w.heap.size z w2 (Nat.le_refl _) hs2 z0 (by omega) HS2.out).mono ?_
  rintro e w3 ⟨M, a, ca, b, cb, R, c, cc, d, cd, X, Y, rfl, hX9, HT⟩
  clear HS2
  go_wp2_with fail
  have hYX := HT.out.p.len
  refine (rollback_ok HT.out.p).mono ?_
  rintro e w4 ⟨rfl, H4⟩
  have HT4 := hid (HT.out.prog H4.out.2 (.inl rfl) H4.out.1)
  clear H4 HT
  go_wp2_with fail
  refine (rrollback_ok HT4.out.r).mono ?_
  rintro e w5 ⟨rfl, c', cc', hc', H5⟩
  have HT5 := hid (HT4.out.ref0 H5.out.2 hc' H5.out.1)
  clear H5 HT4
  go_wp2_with fail
  refine (same_ok HT5.out.p HT5.out.r).mono ?_
  rintro e w6 ⟨rfl, hb6⟩
  have HT6 := hid (HT5.out.below hb6)
  clear hb6 HT5
  go_wp2_with fail
  refine (changed_ok HT6.out.p).mono ?_
  rintro e w7 ⟨v, rfl, H7⟩
  have HT7 := hid (HT6.out.below H7.out.2)
  have HO7 := hid H7.out.1
  rw [ch_same] at HO7
  obtain ⟨va, vc, hv⟩ := own_slice HO7.out
  subst hv
  clear H7 HT6 HO7
  go_wp2_with fail
  refine (commit_ok HT7.out.p).mono ?_
  rintro e w8 ⟨rfl, H8⟩
  have HT8 := hid (HT7.out.prog H8.out.2 (.inr rfl) H8.out.1)
  clear H8 HT7
  go_wp2_with fail
  refine (same_ok HT8.out.p HT8.out.r).mono ?_
  rintro e w10 ⟨rfl, hb10⟩
  have HT := hid (HT8.out.below hb10)
  clear hb10 HT8
  go_wp2_with fail
  refine (HAw.out _).mono ?_
  rintro e w9 ⟨rfl, hb9⟩
  have HT9 := hid (HT.out.below hb9)
  clear hb9
  go_wp2_with fail
  go_ret
  exact ⟨rfl, HB2.out.trans HT9.out.bel⟩

set_option maxRecDepth 100000 in
theorem lifted (os : Os) (started : os.Started) (H : Type) (enc : TypeId × Value → H) :
    ReturnsInHanded {} Try.checked os 6 .any (Rows.spacemapRollsSpec.pre6 enc Try.prog Try.f6 Rows.spacemapRollsRow.domain false) (Rows.spacemapRollsSpec.post enc Try.prog Try.f6 false true false false) := by
  refine returnsInHanded_of_change (C := Try.checked) own started (by kernel_rfl) Try.func6
    (ChangeSpec.witness6 (enc := enc) (C := Try.checked) false ⟨#[], #[.slice none 0 0], []⟩ 8 (by kernel_rfl) (by kernel_rfl) (by kernel_rfl) (by kernel_rfl)) ?_
  intro W base args ds gs before hval0 hW hcnd _
  have hval : ∀ (j : Nat) t v, Try.f6.params[j]? = some t → args[j]? = some v → Value.okWide Try.prog W .any base t v := hval0
  have hW' := hW
  obtain ⟨p, q, hA0, hV, rfl, hfz, hnd⟩ := hW
  have hA : DataW.TrodAll enc Try.prog W 0 (fun _ => true) true Try.f6.params.toList args.toList ds p := hA0
  rw [Try.params6] at hA hval
  obtain ⟨v0, vs0, d0, ds0, p0, q0, hargs, rfl, rfl, h0, r0⟩ := trodAll_cons hA
  obtain ⟨rfl, rfl, rfl⟩ := trodAll_nil r0
  obtain rfl : args = #[v0] := by cases args; simp_all
  obtain ⟨rfl, rfl⟩ := trodVars_none hV
  obtain ⟨a0, len0, cap0, rfl⟩ := okWide_slice Try.underlying22 (hval 0 22 v0 rfl rfl)
  have k0 := h0
  have lt0 : ∀ x ∈ p0, x.block < W.heap.size := by obtain ⟨m, hm⟩ := k0; exact DataW.trod_lt m _ _ _ hm
  obtain ⟨z0, w0⟩ : ∃ zs, IsRow .i64 W a0 len0 cap0 zs := by
    obtain ⟨fuel, hf⟩ := h0
    rcases open_ints Try.underlying22 Try.underlying3 (by kernel_rfl) hf with ⟨hcs, _⟩ | ⟨x, l, c, zs, hcs, _, hl, hm, hz, _, hcell, hwz⟩
    · simp [Value.cells] at hcs
      obtain ⟨rfl, rfl, rfl⟩ := hcs
      exact ⟨[], .inl ⟨rfl, rfl, rfl, rfl⟩⟩
    · simp [Value.cells] at hcs
      obtain ⟨rfl, rfl, rfl⟩ := hcs
      exact ⟨zs, .inr ⟨_, rfl, hl, hm, by simpa using hz, hcell, hwz⟩⟩
  clear hA0 hval0
  refine (walk a0 len0 cap0 z0 W w0).mono fun e W' ⟨he, bel⟩ => ?_
  subst he
  exact ⟨_, rfl, _, _, _, [], _, [], hW', trodAll_mk1 (shut_bool Try.underlying4 _), (trodAll_cons_mk (Below.trod laidOut (by kernel_rfl) (of_decide_eq_true (by kernel_rfl)) k0 bel lt0) trodAll_mk0), rfl, bel.frame _, fun h => by cases h⟩

theorem over : Rows.spacemapRollsRow.holds Try.pinned (OpenSpec.ofChange Rows.spacemapRollsSpec) :=
  OpenClaim.holds_of_wide 6 Try.f6 rfl rfl rfl rfl rfl rfl rfl ⟨rfl, rfl, rfl, rfl, rfl⟩ rfl rfl rfl rfl rfl (by kernel_rfl) Try.func6 (by kernel_rfl)
    (of_decide_eq_true (by kernel_rfl)) (by unfold Func.isWrapper; first | (rw [if_pos (by decide +kernel)]; kernel_rfl) | (rw [if_neg (by decide +kernel)]; exact ⟨rfl, rfl⟩))
    (fun os started H enc _ => lifted os started H enc)

theorem proved : Rows.SpacemapRollsSaid := over
#print axioms proved
end Go.Proofs.Ytablogkafbajaaa.spacemapRolls
