/- For all numbers at (uint8) and v (uint64) and both values of keep: DiskBad returns true. No condition. -/
import Derived.Test.YtfaeieeokelokaaRows
import Derived.WalkKit
import Derived.ProofKit
import Derived.OpenShut
import Derived.ShutString
import Derived.ChangeOld
import Derived.Below
import Derived.Carry
import Derived.Test.YtfaeieeokelokaaY
import Derived.Test.YtfaeieeokelokaaZ
import Derived.Test.YtfaeieeokelokaaY
namespace Go.Proofs.Ytfaeieeokelokaa.diskBad
open Go.ChangeShapes Go.WideShapes Go.ChangeAt Go.RowKit
open Go.ChangeMaps (open_string shut_string)
set_option linter.unusedVariables false

theorem own : ownKnob Try.prog.godebug = none := by kernel_rfl
theorem laidOut : laidOutB Try.prog = true := by kernel_rfl

set_option linter.unusedSimpArgs false
/-- what Loaded leaves -/
def b0 (X : List Int) : Dk := ldK (nk [(X.length : Int)]) 0 X
/-- .. and SetBad -/
def b1 (X : List Int) (t : Nat) : Dk := { b0 X with bad := badU (b0 X).bad ((0 : Nat) : Int) (t : Int) true }
/-- .. and Write -/
def b2 (X : List Int) (t : Nat) (v : Int) : Dk := wrK (b1 X t) ((0 : Nat) : Int) (t : Int) v
/-- .. and Restart -/
def b3 (X : List Int) (t : Nat) (v : Int) (kp : Bool) : Dk := reK (b2 X t v) (fun i => decide (i < 1) && kp)
theorem facts (X : List Int) (hX : X.length = 4) (t : Nat) (ht : t < 4) (v : Int) (kp : Bool) :
    chk4 (b0 X) 0 (t : Int) = 0 ∧ rdV (b0 X) 0 (t : Int) = ge X t ∧ chk4 (b1 X t) 0 (t : Int) = 7 ∧ wrE (b1 X t) 0 (t : Int) = 0 ∧ Bnd (b1 X t) (2 ^ 32) ∧ (b2 X t v).F.length = 1 ∧
    chk4 (b3 X t v kp) 0 (t : Int) = 0 ∧ rdV (b3 X t v kp) 0 (t : Int) = (if kp then v else ge X t) ∧ (b0 X).U.length = 1 ∧ (gu (b0 X).U 0).now.length = 4 := by
  obtain ⟨a, b, c, d, rfl⟩ : ∃ a b c d, X = [a, b, c, d] := by
    match X, hX with
    | [a, b, c, d], _ => exact ⟨a, b, c, d, rfl⟩
  have hb : ∀ t, Bnd (b1 [a, b, c, d] t) (2 ^ 32) := fun t => ⟨by show (0 : Int) ≤ 0; omega, by show (0 : Int) ≤ _; omega, by show 0 ≤ _; omega, by show (0 : Int) ≤ 0; omega, by show (0 : Int) ≤ _; omega⟩
  have h4 : t = 0 ∨ t = 1 ∨ t = 2 ∨ t = 3 := by omega
  rcases h4 with rfl | rfl | rfl | rfl <;> cases kp <;> exact ⟨by kernel_rfl, by kernel_rfl, by kernel_rfl, by kernel_rfl, hb _, by kernel_rfl, by kernel_rfl, by kernel_rfl, by kernel_rfl, by kernel_rfl⟩
set_option maxRecDepth 100000 in
set_option maxHeartbeats 8000000 in
theorem walk (n : Int) (v : Int) (kp : Bool) (W : World) (w0 : (Lit.int .u8 n).wf = true) (w1 : (Lit.int .u64 v).wf = true) :
    Calls Try.prog 9 #[.int .u8 n, .int .u64 v, .bool kp] W fun e w' => e = .returned (.bool true) ∧ Below W.heap.size W w' := by
  have hn : 0 ≤ n ∧ n < 256 := by
    simp [Lit.wf, IntKind.min, IntKind.max, IntKind.signed, IntKind.bits] at w0
    omega
  obtain ⟨hn0, hn1⟩ := hn
  clear w0 w1
  obtain ⟨t, ht⟩ : ∃ t : Nat, n % 4 = (t : Int) := ⟨(n % 4).toNat, by omega⟩
  have ht4 : t < 4 := by omega
  have HT := hid ht4
  have HF := hid (fun X (hX : X.length = 4) => facts X hX t ht4 v kp)
  clear ht4
  go_enter Try.func9, Try.ntmps9
  go_wp2_with fail
  refine (words_ok 4 (by omega) (by omega) 9 W).mono ?_
  rintro e w1 ⟨X, g, cg, rfl, hX, hg, H1⟩
  have hg1 := H1.out.1.lt
  have HR := hid H1.out.1
  have HB := hid H1.out.2
  have HX := hid hX
  have hs := H1.out.2.size
  have HBA := hid (HB.out.alloc hs (.cells #[.slice (some ⟨g, 0, none⟩) X.length cg] 36))
  have HRA := hid (HR.out.gr (Gr.of_below ((Below.refl w1.heap.size w1).alloc (Nat.le_refl _) (.cells #[.slice (some ⟨g, 0, none⟩) X.length cg] 36)) []) (by simp))
  have HC := hid (show (w1.alloc (.cells #[.slice (some ⟨g, 0, none⟩) X.length cg] 36)).cell? ⟨w1.heap.size, 0, none⟩ = some (.slice (some ⟨g, 0, none⟩) X.length cg) by go_simp)
  have HL := hid (loaded1_ok _ w1.heap.size 1 g cg X (by simp) HC.out HRA.out (by rw [hX]; omega) (by rw [hX]; omega))
  clear H1 HR HB hX hg hg1
  have HFX := hid (HF.out X HX.out)
  clear HF
  generalize hW2 : w1.alloc (.cells #[.slice (some ⟨g, 0, none⟩) X.length cg] 36) = w2 at *
  have hn4 : 0 ≤ (t : Int) := by omega
  go_wp2_with fail
  refine HL.out.mono ?_
  rintro e w3 ⟨A, rfl, H3⟩
  have O3 := hid (show Own0 w2.heap.size w2 w3 A (b0 X) [] from H3.out)
  clear HL H3 HRA HC hW2 hs
  go_wp2_with fail
  refine (own0_read O3.out 0 (t : Int)).mono ?_
  rintro e w4 ⟨rfl, H4⟩
  rw [HFX.out.1, HFX.out.2.1]
  have O4 := hid H4.out.1
  clear O3 H4
  go_wp2_with fail
  refine (own_setbad O4.out 0 t true (by rw [HFX.out.2.2.2.2.2.2.2.2.1]; omega) (by rw [HFX.out.2.2.2.2.2.2.2.2.2]; exact HT.out)).mono ?_
  rintro e w5 ⟨rfl, H5⟩
  have O5 := hid (show Own w2.heap.size w2 w5 A (b1 X t) [] from H5.out.1)
  clear O4 H5
  go_wp2_with fail
  refine (own_read O5.out 0 (t : Int)).mono ?_
  rintro e w6 ⟨rfl, H6⟩
  rw [HFX.out.2.2.1]
  have O6 := hid H6.out.1
  generalize rdV (b1 X t) 0 (t : Int) = r6 at *
  clear O5 H6
  go_wp2_with fail
  refine (own_write O6.out 0 (t : Int) v HFX.out.2.2.2.2.1).mono ?_
  rintro e w7 ⟨rfl, H7⟩
  rw [HFX.out.2.2.2.1]
  have O7 := hid (show Own w2.heap.size w2 w7 A (b2 X t v) [] from H7.out.1)
  clear O6 H7
  have hb8 := (Below.refl w7.heap.size w7).alloc (Nat.le_refl _) (.cells #[.bool kp] 4)
  have O8 := hid (O7.out.more hb8 w7.heap.size (Nat.le_refl _) (by simp))
  have c8 := hid (show (w7.alloc (.cells #[.bool kp] 4)).cell? ⟨w7.heap.size, 0, none⟩ = some (.bool kp) by go_simp)
  have C8 := hid (show ∀ i, i < 1 → (w7.alloc (.cells #[.bool kp] 4)).cell? ⟨w7.heap.size, i, none⟩ = some (.bool (decide (i < 1) && kp)) from fun i hi => by
    have h0 : i = 0 := by omega
    rw [h0]
    exact c8.out)
  clear hb8 c8
  go_wp2_with fail
  refine (own_restart O8.out (some ⟨w7.heap.size, 0, none⟩) 1 1 (fun i => decide (i < 1) && kp) (by omega) (by rw [HFX.out.2.2.2.2.2.1]; omega) (.inr ⟨w7.heap.size, rfl, List.mem_cons_self .., C8.out⟩) (fun i hi => by rw [decide_eq_false (by omega)]; rfl)).mono ?_
  rintro e w8 ⟨rfl, H8⟩
  have O9 := hid (show Own w2.heap.size w2 w8 A (b3 X t v kp) _ from H8.out.1)
  clear H8 O8 C8 O7
  go_wp2_with fail
  refine (own_read O9.out 0 (t : Int)).mono ?_
  rintro e w9 ⟨rfl, H9⟩
  rw [HFX.out.2.2.2.2.2.2.1, HFX.out.2.2.2.2.2.2.2.1]
  have O10 := hid H9.out.1
  clear H9 O9
  have HAW := hid (awake_ok w9)
  have HBF := hid (HBA.out.trans (O10.out.bel.mono HBA.out.size))
  clear HBA O10 HFX
  generalize ge X t = old at *
  cases kp with
  | true =>
    go_wp2_with fail
    refine HAW.out.mono ?_
    rintro e wA ⟨rfl, hb⟩
    have HBE := hid (HBF.out.trans (hb.mono HBF.out.size))
    clear hb
    go_wp2_with fail
    go_ret
    exact ⟨rfl, HBE.out⟩
  | false =>
    go_wp2_with fail
    refine HAW.out.mono ?_
    rintro e wA ⟨rfl, hb⟩
    have HBE := hid (HBF.out.trans (hb.mono HBF.out.size))
    clear hb
    go_wp2_with fail
    go_ret
    exact ⟨rfl, HBE.out⟩

set_option maxRecDepth 100000 in
theorem lifted (os : Os) (started : os.Started) (H : Type) (enc : TypeId × Value → H) :
    ReturnsInHanded {} Try.checked os 9 .any (Rows.diskBadSpec.pre6 enc Try.prog Try.f9 Rows.diskBadRow.domain false) (Rows.diskBadSpec.post enc Try.prog Try.f9 false true false false) := by
  refine returnsInHanded_of_change (C := Try.checked) own started (by kernel_rfl) Try.func9
    (ChangeSpec.witness6 (enc := enc) (C := Try.checked) false ⟨#[], #[.int .u8 0, .int .u64 0, .bool false], []⟩ 8 (by kernel_rfl) (by kernel_rfl) (by kernel_rfl) (by kernel_rfl)) ?_
  intro W base args ds gs before hval0 hW hcnd _
  have hval : ∀ (j : Nat) t v, Try.f9.params[j]? = some t → args[j]? = some v → Value.okWide Try.prog W .any base t v := hval0
  have hW' := hW
  obtain ⟨p, q, hA0, hV, rfl, hfz, hnd⟩ := hW
  have hA : DataW.TrodAll enc Try.prog W 0 (fun _ => true) true Try.f9.params.toList args.toList ds p := hA0
  rw [Try.params9] at hA hval
  obtain ⟨v0, vs0, d0, ds0, p0, q0, hargs, rfl, rfl, h0, r0⟩ := trodAll_cons hA
  obtain ⟨v1, vs1, d1, ds1, p1, q1, rfl, rfl, rfl, h1, r1⟩ := trodAll_cons r0
  obtain ⟨v2, vs2, d2, ds2, p2, q2, rfl, rfl, rfl, h2, r2⟩ := trodAll_cons r1
  obtain ⟨rfl, rfl, rfl⟩ := trodAll_nil r2
  obtain rfl : args = #[v0, v1, v2] := by cases args; simp_all
  obtain ⟨rfl, rfl⟩ := trodVars_none hV
  obtain ⟨a0, rfl, rfl, rfl, w0⟩ := open_int Try.underlying5 (hval 0 5 v0 rfl rfl) h0
  obtain ⟨a1, rfl, rfl, rfl, w1⟩ := open_int Try.underlying26 (hval 1 26 v1 rfl rfl) h1
  obtain ⟨a2, rfl, rfl, rfl⟩ := open_bool Try.underlying4 (hval 2 4 v2 rfl rfl) h2
  clear hA0 hval0
  refine (walk a0 a1 a2 W w0 w1).mono fun e W' ⟨he, bel⟩ => ?_
  subst he
  exact ⟨_, rfl, _, _, _, [], _, [], hW', trodAll_mk1 (shut_bool Try.underlying4 _), (trodAll_cons_mk (shut_int Try.underlying5 w0) (trodAll_cons_mk (shut_int Try.underlying26 w1) (trodAll_cons_mk (shut_bool Try.underlying4 _) trodAll_mk0))), rfl, bel.frame _, fun h => by cases h⟩

theorem over : Rows.diskBadRow.holds Try.pinned (OpenSpec.ofChange Rows.diskBadSpec) :=
  OpenClaim.holds_of_wide 9 Try.f9 rfl rfl rfl rfl rfl rfl rfl ⟨rfl, rfl, rfl, rfl, rfl⟩ rfl rfl rfl rfl rfl (by kernel_rfl) Try.func9 (by kernel_rfl)
    (of_decide_eq_true (by kernel_rfl)) (by unfold Func.isWrapper; first | (rw [if_pos (by decide +kernel)]; kernel_rfl) | (rw [if_neg (by decide +kernel)]; exact ⟨rfl, rfl⟩))
    (fun os started H enc _ => lifted os started H enc)

theorem proved : Rows.DiskBadSaid := over
#print axioms proved
end Go.Proofs.Ytfaeieeokelokaa.diskBad
