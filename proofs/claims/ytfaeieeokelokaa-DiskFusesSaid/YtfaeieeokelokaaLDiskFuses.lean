/- For all numbers n (uint8) and both values of 'missing': DiskFuses returns true. No condition. -/
import Derived.Test.YtfaeieeokelokaaRows
import Derived.WalkKit
import Derived.ProofKit
import Derived.OpenShut
import Derived.ShutString
import Derived.ChangeOld
import Derived.Below
import Derived.Carry
import Derived.Test.YtfaeieeokelokaaR
namespace Go.Proofs.Ytfaeieeokelokaa.diskFuses
open Go.ChangeShapes Go.WideShapes Go.ChangeAt Go.RowKit
open Go.ChangeMaps (open_string shut_string)
set_option linter.unusedVariables false

theorem own : ownKnob Try.prog.godebug = none := by kernel_rfl
theorem laidOut : laidOutB Try.prog = true := by kernel_rfl

set_option linter.unusedSimpArgs false
/-- the array with the fuse set, behind i writes -/
def fz (b : Bool) (k : Nat) : Nat → Dk
  | 0 => { nk [4, 4] with U := (nk [4, 4]).U.set 1 { gu (nk [4, 4]).U 1 with mis := b }, fuse := k }
  | i + 1 => wrK (fz b k i) 0 (((i + 1) % 4 : Nat) : Int) ((i + 1 : Nat) : Int)
def kpA (i : Nat) : Bool := decide (i < 192)
theorem wrK_no {k : Dk} {d t v : Int} (h : chk3 k d t ≠ 0) : wrK k d t v = k ∧ wrE k d t = chk3 k d t := by
  unfold wrK wrE; rw [if_neg h, if_neg h]; exact ⟨rfl, rfl⟩
theorem flK_no {k : Dk} {d : Int} (h : chk3 k d 0 ≠ 0) : flK k d = k := by unfold flK; rw [if_neg h]
theorem fz_in : ∀ (k : Fin 21) (b : Bool) (i : Fin 20), i.1 + 1 < k.1 → (b = true → chk3 (fz b k.1 i.1) 1 0 = 6) ∧ chk3 (fz b k.1 i.1) 0 9 = 1 ∧ wrE (fz b k.1 i.1) 0 (((i.1 + 1) % 4 : Nat) : Int) = 0 ∧ (0 ≤ (fz b k.1 i.1).fuse ∧ (fz b k.1 i.1).fuse ≤ 100 ∧ (fz b k.1 i.1).F.length ≤ 100 ∧ 0 ≤ (fz b k.1 i.1).wr ∧ (fz b k.1 i.1).wr ≤ 100) := by decide +kernel
theorem fz_out : ∀ (k : Fin 20) (b : Bool), (fz b (k.1 + 1) k.1).down = false ∧ (fz b (k.1 + 1) k.1).wr = (k.1 : Int) ∧ wrE (fz b (k.1 + 1) k.1) 0 0 = 5 ∧
    (0 ≤ (fz b (k.1 + 1) k.1).fuse ∧ (fz b (k.1 + 1) k.1).fuse ≤ 100 ∧ (fz b (k.1 + 1) k.1).F.length ≤ 100 ∧ 0 ≤ (fz b (k.1 + 1) k.1).wr ∧ (fz b (k.1 + 1) k.1).wr ≤ 100) := by decide +kernel
theorem fz_out2 : ∀ (k : Fin 20) (b : Bool), (wrK (fz b (k.1 + 1) k.1) 0 0 77).down = true ∧ chk3 (wrK (fz b (k.1 + 1) k.1) 0 0 77) 0 0 = 5 ∧ chk3 (wrK (fz b (k.1 + 1) k.1) 0 0 77) 5 0 = 5 ∧ chk4 (wrK (fz b (k.1 + 1) k.1) 0 0 77) 0 0 = 5 ∧ (wrK (fz b (k.1 + 1) k.1) 0 0 77).F.length ≤ 100 := by decide +kernel
theorem fz_out3 : ∀ (k : Fin 20) (b : Bool), chk4 (reK (wrK (fz b (k.1 + 1) k.1) 0 0 77) kpA) 0 0 = 0 ∧ (rdV (reK (wrK (fz b (k.1 + 1) k.1) 0 0 77) kpA) 0 0 != 77) = true ∧ wrE (reK (wrK (fz b (k.1 + 1) k.1) 0 0 77) kpA) 0 0 = 0 ∧
    (0 ≤ (reK (wrK (fz b (k.1 + 1) k.1) 0 0 77) kpA).fuse ∧ (reK (wrK (fz b (k.1 + 1) k.1) 0 0 77) kpA).fuse ≤ 100 ∧ (reK (wrK (fz b (k.1 + 1) k.1) 0 0 77) kpA).F.length ≤ 100 ∧ 0 ≤ (reK (wrK (fz b (k.1 + 1) k.1) 0 0 77) kpA).wr ∧ (reK (wrK (fz b (k.1 + 1) k.1) 0 0 77) kpA).wr ≤ 100) := by decide +kernel
theorem bnd100 {k : Dk} (h : 0 ≤ k.fuse ∧ k.fuse ≤ 100 ∧ k.F.length ≤ 100 ∧ 0 ≤ k.wr ∧ k.wr ≤ 100) : Bnd k (2 ^ 32) := ⟨h.1, by omega, by omega, h.2.2.2.1, by omega⟩
set_option maxRecDepth 100000 in
set_option maxHeartbeats 8000000 in
theorem walk (n : Int) (b : Bool) (W : World) (w0 : (Lit.int .u8 n).wf = true) :
    Calls Try.prog 6 #[.int .u8 n, .bool b] W fun e w' => e = .returned (.bool true) ∧ Below W.heap.size W w' := by
  have hn : 0 ≤ n ∧ n < 256 := by
    simp [Lit.wf, IntKind.min, IntKind.max, IntKind.signed, IntKind.bits] at w0
    omega
  obtain ⟨hn0, hn1⟩ := hn
  clear w0
  have HB0 := hid ((Below.refl W.heap.size W).alloc (Nat.le_refl _) (.cells #[.int .i64 4, .int .i64 4] 3))
  have hAr : Ar (W.alloc (.cells #[.int .i64 4, .int .i64 4] 3)) (some ⟨W.heap.size, 0, none⟩) [4, 4] := .inr ⟨W.heap.size, 0, rfl, by simp, fun i hi => by
    obtain rfl | rfl : i = 0 ∨ i = 1 := by simp at hi; omega
    · go_simp; rfl
    · go_simp; rfl⟩
  have HN := hid (own_new (some ⟨W.heap.size, 0, none⟩) 2 [4, 4] (W.alloc (.cells #[.int .i64 4, .int .i64 4] 3)) (by decide) (fun i hi => by
    obtain rfl | rfl : i = 0 ∨ i = 1 := by simp at hi; omega
    · exact ⟨by decide, by decide⟩
    · exact ⟨by decide, by decide⟩) hAr W.heap.size W HB0.out (Nat.le_refl _))
  clear hAr
  obtain ⟨K, hK⟩ : ∃ K : Nat, 1 + n % 20 = (K : Int) := ⟨(1 + n % 20).toNat, by omega⟩
  have hK1 : 1 ≤ K ∧ K ≤ 20 := by omega
  go_enter Try.func6, Try.ntmps6
  go_wp2_with fail
  refine HN.out.mono ?_
  rintro e w1 ⟨A, rfl, H1⟩
  have O1 := hid H1.out.1
  clear HN HB0 H1 hn0 hn1 hK
  obtain ⟨k, rfl⟩ : ∃ k, K = k + 1 := ⟨K - 1, by omega⟩
  have hk : k < 20 := by omega
  have HIN := hid (fun (i : Nat) (hi : i < k) => fz_in ⟨k + 1, by omega⟩ b ⟨i, by omega⟩ (by show i + 1 < k + 1; omega))
  have HO1 := hid (fz_out ⟨k, hk⟩ b)
  have HO2 := hid (fz_out2 ⟨k, hk⟩ b)
  have HO3 := hid (fz_out3 ⟨k, hk⟩ b)
  go_wp2_with fail
  refine (own_setmis O1.out 1 b (by decide)).mono ?_
  rintro e w2 ⟨rfl, H2⟩
  have O2 := hid H2.out.1
  clear O1 H2
  go_wp2_with fail
  refine (own_fuse O2.out ((k + 1 : Nat) : Int)).mono ?_
  rintro e w3 ⟨rfl, H3⟩
  have O3 := hid (show Own W.heap.size W w3 A (fz b (k + 1) 0) [] by
    have h9 := H3.out.1
    rw [show max ((k + 1 : Nat) : Int) 0 = ((k + 1 : Nat) : Int) by omega] at h9
    exact h9)
  clear O2 H3
  go_wp2_with fail
  go_loopw [8] (fun iv wr => ∃ i : Nat, i ≤ k ∧ iv = .int .i64 ((i + 1 : Nat) : Int) ∧ Hid (Own W.heap.size W wr A (fz b (k + 1) i) [])) (fun iv _ => k + 2 - (intOf iv).toNat)
  case atStart => exact ⟨0, by omega, rfl, O3⟩
  case round =>
    clear O3
    obtain ⟨i, hi, rfl, O⟩ := hrel
    by_cases hlt : i < k
    · have hlt' : ((i + 1 : Nat) : Int) < ((k + 1 : Nat) : Int) := by omega
      have HF := hid (HIN.out i hlt)
      have hm4 : (((i + 1 : Nat) : Int)) % 4 = (((i + 1) % 4 : Nat) : Int) := by omega
      have HB := hid (bnd100 HF.out.2.2.2)
      have HST := hid (show fz b (k + 1) (i + 1) = wrK (fz b (k + 1) i) 0 (((i + 1) % 4 : Nat) : Int) ((i + 1 : Nat) : Int) from rfl)
      generalize fz b (k + 1) i = s at *
      have H1 := hid (wrK_no (v := 9) (show chk3 s 0 9 ≠ 0 by rw [HF.out.2.1]; decide))
      have H1e := hid HF.out.2.1
      have H0e := hid HF.out.2.2.1
      cases b with
      | true =>
        have H6e := hid (HF.out.1 rfl)
        have H6 := hid (wrK_no (v := 9) (show chk3 s 1 0 ≠ 0 by rw [H6e.out]; decide))
        clear HF
        go_wp2_with fail
        refine (own_write O.out 1 0 9 HB.out).mono ?_
        rintro e w4 ⟨rfl, H4⟩
        rw [H6.out.2, H6e.out]
        have O4 := hid (show Own W.heap.size W w4 A s [] by have h9 := H4.out.1; rw [H6.out.1] at h9; exact h9)
        clear H4 O H6 H6e
        go_wp2_with fail
        refine (own_write O4.out 0 9 9 HB.out).mono ?_
        rintro e w5 ⟨rfl, H5⟩
        rw [H1.out.2, H1e.out]
        have O5 := hid (show Own W.heap.size W w5 A s [] by have h9 := H5.out.1; rw [H1.out.1] at h9; exact h9)
        clear H5 O4 H1 H1e
        go_wp2_with fail
        refine (own_write O5.out 0 (((i + 1) % 4 : Nat) : Int) ((i + 1 : Nat) : Int) HB.out).mono ?_
        rintro e w6 ⟨rfl, H6⟩
        rw [H0e.out]
        have O6 := hid (show Own W.heap.size W w6 A (fz true (k + 1) (i + 1)) [] by rw [HST.out]; exact H6.out.1)
        clear H6 O5 H0e HST
        go_wp2_with fail
        go_roundw
        case rel => exact ⟨i + 1, by omega, by go_num, O6⟩
        case measure => simp [intOf]; omega
      | false =>
        clear HF
        go_wp2_with fail
        refine (own_write O.out 0 9 9 HB.out).mono ?_
        rintro e w5 ⟨rfl, H5⟩
        rw [H1.out.2, H1e.out]
        have O5 := hid (show Own W.heap.size W w5 A s [] by have h9 := H5.out.1; rw [H1.out.1] at h9; exact h9)
        clear H5 O H1 H1e
        go_wp2_with fail
        refine (own_write O5.out 0 (((i + 1) % 4 : Nat) : Int) ((i + 1 : Nat) : Int) HB.out).mono ?_
        rintro e w6 ⟨rfl, H6⟩
        rw [H0e.out]
        have O6 := hid (show Own W.heap.size W w6 A (fz false (k + 1) (i + 1)) [] by rw [HST.out]; exact H6.out.1)
        clear H6 O5 H0e HST
        go_wp2_with fail
        go_roundw
        case rel => exact ⟨i + 1, by omega, by go_num, O6⟩
        case measure => simp [intOf]; omega
    · obtain rfl : i = k := by omega
      have hlt' : ¬ ((i + 1 : Nat) : Int) < ((i + 1 : Nat) : Int) := by omega
      have D1 := hid HO1.out.1
      have D2 := hid HO1.out.2.1
      have D3 := hid HO1.out.2.2.1
      have D4 := hid (bnd100 HO1.out.2.2.2)
      have D5 := hid HO2.out.1
      have D6 := hid HO2.out.2.1
      have D7 := hid HO2.out.2.2.1
      have D8 := hid HO2.out.2.2.2.1
      have D9 := hid HO2.out.2.2.2.2
      have E1 := hid HO3.out.1
      have E2 := hid HO3.out.2.1
      have E3 := hid HO3.out.2.2.1
      have E4 := hid (bnd100 HO3.out.2.2.2)
      have hki : (((i + 1 : Nat) : Int) - 1) = (i : Int) := by omega
      clear HIN HO1 HO2 HO3
      generalize fz b (i + 1) i = s at *
      go_wp2_with fail
      refine (own_down O.out).mono ?_
      rintro e w4 ⟨rfl, rfl⟩
      rw [D1.out]
      go_wp2_with fail
      refine (own_writes O.out).mono ?_
      rintro e w4 ⟨rfl, rfl⟩
      rw [D2.out]
      go_wp2_with fail
      refine (own_write O.out 0 0 77 D4.out).mono ?_
      rintro e w5 ⟨rfl, H5⟩
      rw [D3.out]
      have O5 := hid H5.out.1
      generalize wrK s 0 0 77 = s2 at *
      clear H5 O D1 D2 D3 D4
      go_wp2_with fail
      refine (own_down O5.out).mono ?_
      rintro e w6 ⟨rfl, rfl⟩
      rw [D5.out]
      go_wp2_with fail
      refine (own_flush O5.out 0 (by have := D9.out; omega)).mono ?_
      rintro e w6 ⟨rfl, H6⟩
      rw [D6.out]
      have O6 := hid (show Own W.heap.size W w6 A s2 [] by have h9 := H6.out.1; rw [flK_no (by rw [D6.out]; decide)] at h9; exact h9)
      clear H6 O5
      go_wp2_with fail
      refine (own_flush O6.out 5 (by have := D9.out; omega)).mono ?_
      rintro e w7 ⟨rfl, H7⟩
      rw [D7.out]
      have O7 := hid (show Own W.heap.size W w7 A s2 [] by have h9 := H7.out.1; rw [flK_no (by rw [D7.out]; decide)] at h9; exact h9)
      clear H7 O6
      go_wp2_with fail
      refine (own_read O7.out 0 0).mono ?_
      rintro e w8 ⟨rfl, H8⟩
      rw [D8.out]
      have O8 := hid H8.out.1
      clear H8 O7
      generalize rdV s2 0 0 = rr at *
      go_wp2_with fail
      refine (own_keep O8.out 18446744073709551615).mono ?_
      rintro e w9 ⟨g, cc, rfl, H9⟩
      have O9 := hid H9.out.2.1
      have C9 := hid (show ∀ i, i < 192 → w9.cell? ⟨g, i, none⟩ = some (.bool (kpA i)) from fun i hi => by rw [H9.out.1 i hi, kpf_all]; unfold kpA; rw [decide_eq_true hi])
      clear H9 O8
      go_wp2_with fail
      refine (own_restart O9.out (some ⟨g, 0, none⟩) 192 cc kpA (by omega) (by have := D9.out; omega) (.inr ⟨g, rfl, List.mem_cons_self .., C9.out⟩) (fun i hi => by unfold kpA; exact decide_eq_false (by omega))).mono ?_
      rintro e w10 ⟨rfl, H10⟩
      have O10 := hid H10.out.1
      generalize reK s2 kpA = s3 at *
      clear H10 O9 C9 D5 D6 D7 D8 D9
      go_wp2_with fail
      refine (own_read O10.out 0 0).mono ?_
      rintro e w11 ⟨rfl, H11⟩
      rw [E1.out]
      have O11 := hid H11.out.1
      clear H11 O10 E1
      generalize rdV s3 0 0 = r3 at *
      have e2 := E2.out
      go_wp2_with fail
      refine (own_write O11.out 0 0 78 E4.out).mono ?_
      rintro e w12 ⟨rfl, H12⟩
      rw [E3.out]
      have O12 := hid H12.out.1
      clear H12 O11
      go_wp2_with fail
      refine (awake_ok w12).mono ?_
      rintro e w13 ⟨rfl, hb⟩
      have HBE := hid (show Below W.heap.size W w13 from O12.out.bel.trans (hb.mono O12.out.le))
      clear hb O12
      go_wp2_with fail
      go_ret
      exact ⟨rfl, HBE.out⟩

set_option maxRecDepth 100000 in
theorem lifted (os : Os) (started : os.Started) (H : Type) (enc : TypeId × Value → H) :
    ReturnsInHanded {} Try.checked os 6 .any (Rows.diskFusesSpec.pre6 enc Try.prog Try.f6 Rows.diskFusesRow.domain false) (Rows.diskFusesSpec.post enc Try.prog Try.f6 false true false false) := by
  refine returnsInHanded_of_change (C := Try.checked) own started (by kernel_rfl) Try.func6
    (ChangeSpec.witness6 (enc := enc) (C := Try.checked) false ⟨#[], #[.int .u8 0, .bool false], []⟩ 8 (by kernel_rfl) (by kernel_rfl) (by kernel_rfl) (by kernel_rfl)) ?_
  intro W base args ds gs before hval0 hW hcnd _
  have hval : ∀ (j : Nat) t v, Try.f6.params[j]? = some t → args[j]? = some v → Value.okWide Try.prog W .any base t v := hval0
  have hW' := hW
  obtain ⟨p, q, hA0, hV, rfl, hfz, hnd⟩ := hW
  have hA : DataW.TrodAll enc Try.prog W 0 (fun _ => true) true Try.f6.params.toList args.toList ds p := hA0
  rw [Try.params6] at hA hval
  obtain ⟨v0, vs0, d0, ds0, p0, q0, hargs, rfl, rfl, h0, r0⟩ := trodAll_cons hA
  obtain ⟨v1, vs1, d1, ds1, p1, q1, rfl, rfl, rfl, h1, r1⟩ := trodAll_cons r0
  obtain ⟨rfl, rfl, rfl⟩ := trodAll_nil r1
  obtain rfl : args = #[v0, v1] := by cases args; simp_all
  obtain ⟨rfl, rfl⟩ := trodVars_none hV
  obtain ⟨a0, rfl, rfl, rfl, w0⟩ := open_int Try.underlying5 (hval 0 5 v0 rfl rfl) h0
  obtain ⟨a1, rfl, rfl, rfl⟩ := open_bool Try.underlying4 (hval 1 4 v1 rfl rfl) h1
  clear hA0 hval0
  refine (walk a0 a1 W w0).mono fun e W' ⟨he, bel⟩ => ?_
  subst he
  exact ⟨_, rfl, _, _, _, [], _, [], hW', trodAll_mk1 (shut_bool Try.underlying4 _), (trodAll_cons_mk (shut_int Try.underlying5 w0) (trodAll_cons_mk (shut_bool Try.underlying4 _) trodAll_mk0)), rfl, bel.frame _, fun h => by cases h⟩

theorem over : Rows.diskFusesRow.holds Try.pinned (OpenSpec.ofChange Rows.diskFusesSpec) :=
  OpenClaim.holds_of_wide 6 Try.f6 rfl rfl rfl rfl rfl rfl rfl ⟨rfl, rfl, rfl, rfl, rfl⟩ rfl rfl rfl rfl rfl (by kernel_rfl) Try.func6 (by kernel_rfl)
    (of_decide_eq_true (by kernel_rfl)) (by unfold Func.isWrapper; first | (rw [if_pos (by decide +kernel)]; kernel_rfl) | (rw [if_neg (by decide +kernel)]; exact ⟨rfl, rfl⟩))
    (fun os started H enc _ => lifted os started H enc)

theorem proved : Rows.DiskFusesSaid := over
#print axioms proved
end Go.Proofs.Ytfaeieeokelokaa.diskFuses
