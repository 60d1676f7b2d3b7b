/- For all words group and id, all ints n and all texts s: NamesIdentities returns true. No condition. -/
import Derived.Test.YtdpclmogfnigdaaRows
import Derived.WalkKit
import Derived.ProofKit
import Derived.OpenShut
import Derived.ShutString
import Derived.ChangeOld
import Derived.Below
import Derived.Carry
import Derived.Test.YtdpclmogfnigdaaC
import Derived.Test.YtdpclmogfnigdaaP
import Derived.Test.YtdpclmogfnigdaaPV
import Derived.Test.YtdpclmogfnigdaaD
import Derived.Test.YtdpclmogfnigdaaE
import Derived.Test.YtdpclmogfnigdaaF
import Derived.Test.YtdpclmogfnigdaaG
import Derived.Test.YtdpclmogfnigdaaH
import Derived.Test.YtdpclmogfnigdaaI
import Derived.Test.YtdpclmogfnigdaaJ
namespace Go.Proofs.Ytdpclmogfnigdaa.namesIdentities
open Go.ChangeShapes Go.WideShapes Go.ChangeAt Go.RowKit
open Go.ChangeMaps (open_string shut_string)
set_option linter.unusedVariables false

theorem own : ownKnob Try.prog.godebug = none := by kernel_rfl
theorem laidOut : laidOutB Try.prog = true := by kernel_rfl

set_option linter.unusedSimpArgs false
set_option maxRecDepth 100000 in
set_option maxHeartbeats 4000000 in
theorem walk (a0 a1 a2 : Int) (a3 : ByteArray) (w : World) (w0 : (Lit.int .u64 a0).wf = true) (w1 : (Lit.int .u64 a1).wf = true) (w2 : (Lit.int .i64 a2).wf = true) (w3 : a3.size ≤ maxLen) :
    Calls Try.prog 6 #[.int .u64 a0, .int .u64 a1, .int .i64 a2, .string a3] w fun e w' => e = .returned (.bool true) ∧ Below w.heap.size w w' := by
  unfold maxLen at w3
  obtain ⟨x, rfl, hx⟩ : ∃ a : Nat, a1 = a ∧ a < 18446744073709551616 := by simp [Lit.wf, IntKind.min, IntKind.max, IntKind.signed, IntKind.bits] at w1; exact ⟨a1.toNat, by omega, by omega⟩
  clear w0 w1 w2
  have HAw := hid awake_any
  by_cases h40 : a3.size ≤ 40
  · have h40' : ¬ (40 : Int) < (a3.size : Int) := by omega
    have HHex := hid (hex_any x hx)
    have HRef := hid (rhex_any x hx)
    have HF1 := hid (fromhex_any (bs (hexL x)))
    rw [bs_data, fh_hex x hx] at HF1
    have HF2 := hid (fromhex_any a3)
    have HI1 := hid (ident_any a0 a2)
    have HI2 := hid (rident_any a0 a2)
    have hsz : (bs (hexL x)).size = 16 := by rw [bs_size, hexL_len]
    have HXX := hid hx
    clear hx
    rcases fh_back a3.data.toList with hB | ⟨y, hB, hy, hE⟩
    · rw [hB] at HF2
      clear hB
      go_enter Try.func6, Try.ntmps6
      go_wp2_with fail
      refine (HHex.out _).mono ?_
      rintro e w1 ⟨rfl, hb1⟩
      have HB1 := hid hb1
      clear hb1
      go_wp2_with fail
      refine (HF1.out _).mono ?_
      rintro e w2 ⟨rfl, hb2⟩
      have HB2 := hid (bt HB1.out hb2)
      clear hb2
      go_wp2_with fail
      refine (HF2.out _).mono ?_
      rintro e w3 ⟨rfl, hb3⟩
      have HB3 := hid (bt HB2.out hb3)
      clear hb3
      go_wp2_with fail
      refine (HI1.out _).mono ?_
      rintro e w4 ⟨rfl, rfl⟩
      go_wp2_with fail
      refine (HI2.out _).mono ?_
      rintro e w5 ⟨rfl, rfl⟩
      go_wp2_with fail
      refine (HRef.out _).mono ?_
      rintro e w6 ⟨rfl, hb6⟩
      have HB6 := hid (bt HB3.out hb6)
      clear hb6
      go_wp2_with fail
      refine (HAw.out _).mono ?_
      rintro e w7 ⟨rfl, hb7⟩
      have HB7 := hid (bt HB6.out hb7)
      clear hb7
      go_wp2_with fail
      go_ret
      exact ⟨rfl, HB7.out⟩
    · rw [hB] at HF2
      have h3 : a3 = bs (hexL y) := by rw [hE, bs_self]
      clear hB hE
      subst h3
      have HHex2 := hid (hex_any y hy)
      go_enter Try.func6, Try.ntmps6
      go_wp2_with fail
      refine (HHex.out _).mono ?_
      rintro e w1 ⟨rfl, hb1⟩
      have HB1 := hid hb1
      clear hb1
      go_wp2_with fail
      refine (HF1.out _).mono ?_
      rintro e w2 ⟨rfl, hb2⟩
      have HB2 := hid (bt HB1.out hb2)
      clear hb2
      go_wp2_with fail
      refine (HF2.out _).mono ?_
      rintro e w3 ⟨rfl, hb3⟩
      have HB3 := hid (bt HB2.out hb3)
      clear hb3
      go_wp2_with fail
      refine (HI1.out _).mono ?_
      rintro e w4 ⟨rfl, rfl⟩
      go_wp2_with fail
      refine (HI2.out _).mono ?_
      rintro e w5 ⟨rfl, rfl⟩
      go_wp2_with fail
      refine (HRef.out _).mono ?_
      rintro e w6 ⟨rfl, hb6⟩
      have HB6 := hid (bt HB3.out hb6)
      clear hb6
      go_wp2_with fail
      refine (HHex2.out _).mono ?_
      rintro e w7 ⟨rfl, hb7⟩
      have HB7 := hid (bt HB6.out hb7)
      clear hb7
      go_wp2_with fail
      refine (HAw.out _).mono ?_
      rintro e w8 ⟨rfl, hb8⟩
      have HB8 := hid (bt HB7.out hb8)
      clear hb8
      go_wp2_with fail
      go_ret
      exact ⟨rfl, HB8.out⟩
  · have h40' : (40 : Int) < (a3.size : Int) := by omega
    go_enter Try.func6, Try.ntmps6
    go_wp2_with fail
    refine (HAw.out _).mono ?_
    rintro e w1 ⟨rfl, hb1⟩
    have HB1 := hid hb1
    clear hb1
    go_wp2_with fail
    go_ret
    exact ⟨rfl, HB1.out⟩

set_option maxRecDepth 100000 in
theorem lifted (os : Os) (started : os.Started) (H : Type) (enc : TypeId × Value → H) :
    ReturnsInHanded {} Try.checked os 6 .any (Rows.namesIdentitiesSpec.pre6 enc Try.prog Try.f6 Rows.namesIdentitiesRow.domain false) (Rows.namesIdentitiesSpec.post enc Try.prog Try.f6 false true false false) := by
  refine returnsInHanded_of_change (C := Try.checked) own started (by kernel_rfl) Try.func6
    (ChangeSpec.witness6 (enc := enc) (C := Try.checked) false ⟨#[], #[.int .u64 0, .int .u64 0, .int .i64 0, .string ByteArray.empty], []⟩ 8 (by kernel_rfl) (by kernel_rfl) (by kernel_rfl) (by kernel_rfl)) ?_
  intro W base args ds gs before hval0 hW hcnd _
  have hval : ∀ (j : Nat) t v, Try.f6.params[j]? = some t → args[j]? = some v → Value.okWide Try.prog W .any base t v := hval0
  have hW' := hW
  obtain ⟨p, q, hA0, hV, rfl, hfz, hnd⟩ := hW
  have hA : DataW.TrodAll enc Try.prog W 0 (fun _ => true) true Try.f6.params.toList args.toList ds p := hA0
  rw [Try.params6] at hA hval
  obtain ⟨v0, vs0, d0, ds0, p0, q0, hargs, rfl, rfl, h0, r0⟩ := trodAll_cons hA
  obtain ⟨v1, vs1, d1, ds1, p1, q1, rfl, rfl, rfl, h1, r1⟩ := trodAll_cons r0
  obtain ⟨v2, vs2, d2, ds2, p2, q2, rfl, rfl, rfl, h2, r2⟩ := trodAll_cons r1
  obtain ⟨v3, vs3, d3, ds3, p3, q3, rfl, rfl, rfl, h3, r3⟩ := trodAll_cons r2
  obtain ⟨rfl, rfl, rfl⟩ := trodAll_nil r3
  obtain rfl : args = #[v0, v1, v2, v3] := by cases args; simp_all
  obtain ⟨rfl, rfl⟩ := trodVars_none hV
  obtain ⟨a0, rfl, rfl, rfl, w0⟩ := open_int Try.underlying40 (hval 0 40 v0 rfl rfl) h0
  obtain ⟨a1, rfl, rfl, rfl, w1⟩ := open_int Try.underlying40 (hval 1 40 v1 rfl rfl) h1
  obtain ⟨a2, rfl, rfl, rfl, w2⟩ := open_int Try.underlying3 (hval 2 3 v2 rfl rfl) h2
  obtain ⟨a3, rfl, rfl, rfl, w3⟩ := open_string Try.underlying9 (hval 3 9 v3 rfl rfl) h3
  clear hA0 hval0
  refine (walk a0 a1 a2 a3 W w0 w1 w2 w3).mono fun e W' ⟨he, bel⟩ => ?_
  subst he
  exact ⟨_, rfl, _, _, _, [], _, [], hW', trodAll_mk1 (shut_bool Try.underlying4 _), (trodAll_cons_mk (shut_int Try.underlying40 w0) (trodAll_cons_mk (shut_int Try.underlying40 w1) (trodAll_cons_mk (shut_int Try.underlying3 w2) (trodAll_cons_mk (shut_string Try.underlying9 w3) trodAll_mk0)))), rfl, bel.frame _, fun h => by cases h⟩

theorem over : Rows.namesIdentitiesRow.holds Try.pinned (OpenSpec.ofChange Rows.namesIdentitiesSpec) :=
  OpenClaim.holds_of_wide 6 Try.f6 rfl rfl rfl rfl rfl rfl rfl ⟨rfl, rfl, rfl, rfl, rfl⟩ rfl rfl rfl rfl rfl (by kernel_rfl) Try.func6 (by kernel_rfl)
    (of_decide_eq_true (by kernel_rfl)) (by unfold Func.isWrapper; first | (rw [if_pos (by decide +kernel)]; kernel_rfl) | (rw [if_neg (by decide +kernel)]; exact ⟨rfl, rfl⟩))
    (fun os started H enc _ => lifted os started H enc)

theorem proved : Rows.NamesIdentitiesSaid := over
#print axioms proved
end Go.Proofs.Ytdpclmogfnigdaa.namesIdentities
