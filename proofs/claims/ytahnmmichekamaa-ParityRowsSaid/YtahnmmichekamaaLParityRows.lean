/- For all chunks, numbers of legs and sectors: ParityRows returns true and leaves its arguments as they were. No condition. -/
import Derived.Test.YtahnmmichekamaaRows
import Derived.WalkKit
import Derived.ProofKit
import Derived.OpenShut
import Derived.ShutString
import Derived.ChangeOld
import Derived.Below
import Derived.Carry
import Derived.Test.YtahnmmichekamaaC
import Derived.Test.YtahnmmichekamaaD
import Derived.Test.YtahnmmichekamaaE
import Derived.Test.YtahnmmichekamaaF
import Derived.Test.YtahnmmichekamaaB
import Derived.Test.YtahnmmichekamaaR
namespace Go.Proofs.Ytahnmmichekamaa.parityRows
open Go.ChangeShapes Go.WideShapes Go.ChangeAt Go.RowKit
open Go.ChangeMaps (open_string shut_string)
set_option linter.unusedVariables false

theorem own : ownKnob Try.prog.godebug = none := by kernel_rfl
theorem laidOut : laidOutB Try.prog = true := by kernel_rfl

set_option maxHeartbeats 1000000 in
set_option maxRecDepth 100000 in
theorem walk (a0 a1 a2 : Int) (w : World) (w0 : (Lit.int .u8 a0).wf = true) (w1 : (Lit.int .u8 a1).wf = true) (w2 : (Lit.int .u16 a2).wf = true) :
    Calls Try.prog 4 #[.int .u8 a0, .int .u8 a1, .int .u16 a2] w fun e w' => e = .returned (.bool true) ∧ Below w.heap.size w w' := by
  obtain ⟨n0, rfl, b0⟩ : ∃ a : Nat, a0 = a ∧ a < 256 := by simp [Lit.wf, IntKind.min, IntKind.max, IntKind.signed, IntKind.bits] at w0; exact ⟨a0.toNat, by omega, by omega⟩
  obtain ⟨n1, rfl, b1⟩ : ∃ a : Nat, a1 = a ∧ a < 256 := by simp [Lit.wf, IntKind.min, IntKind.max, IntKind.signed, IntKind.bits] at w1; exact ⟨a1.toNat, by omega, by omega⟩
  obtain ⟨T, rfl, b2⟩ : ∃ a : Nat, a2 = a ∧ a < 65536 := by simp [Lit.wf, IntKind.min, IntKind.max, IntKind.signed, IntKind.bits] at w2; exact ⟨a2.toNat, by omega, by omega⟩
  obtain ⟨i0, hi, hz0, hz1, hz2⟩ := info_parts3 Try.info3
  have HI := hid hi; have HZ0 := hid hz0; have HZ1 := hid hz1; have HZ2 := hid hz2
  clear hi hz0 hz1 w0 w1 w2
  obtain ⟨C, hC, c1⟩ : ∃ C : Nat, (n0 : Int) % 8 = (C : Int) ∧ C < 8 := ⟨n0 % 8, by omega, by omega⟩
  obtain ⟨K, hK, k1⟩ : ∃ K : Nat, (n1 : Int) % 4 = (K : Int) ∧ K < 4 := ⟨n1 % 4, by omega, by omega⟩
  obtain ⟨R, hR, r1⟩ : ∃ R : Nat, (T : Int) / 8 = (R : Int) ∧ R < 8192 := ⟨T / 8, by omega, by omega⟩
  have M1 := hid (show i0.bytes * (K + 3) ≤ 281474976710656 by rw [hz2]; omega)
  have M2 := hid (show K + 3 ≤ maxLen by unfold maxLen; omega)
  have M3 := hid (show 3 + (K : Int) = ((K + 3 : Nat) : Int) by omega)
  have hR0 : R % (K + 3) < K + 3 := Nat.mod_lt _ (by omega)
  have Z1 := hid (rowf_zero (K + 3) (V (K + 3) (R % (K + 3)) 0) (fun j hj => (rows_full K k1 _ hR0 j hj).2.2.1))
  clear hz2
  go_enter Try.func4, Try.ntmps4
  go_wp2_with (first | (refine wpList_make_full _ rfl _ _ 22 rfl w.heap.size 3 i0 (.int .i64 0) 1 Try.underlying22 HI.out HZ0.out HZ1.out .i64 .i64 (3 + (K : Int)) (3 + (K : Int)) (K + 3) rfl rfl M3.out M3.out M1.out M2.out (Nat.le_refl _) ?_; intro w3 hown3 hgrow3))
  rw [Z1.out] at hown3
  have HD3 := hid hown3
  have hb3 := hid ((Below.refl w.heap.size w).grown hgrow3 (Nat.le_refl _) (fun k e => by cases e))
  clear hown3 hgrow3
  go_loopw [11] (fun rv wr => ∃ m : Nat, m ≤ K + 3 ∧ rv = .int .i64 ((R + m : Nat) : Int) ∧ Hid (wr.ownsRow w.heap.size 3 1 (.slice (some ⟨w.heap.size, 0, none⟩) (K + 3) (K + 3)) (K + 3) (rowf (K + 3) (V (K + 3) (R % (K + 3)) m))) ∧ Hid (Below w.heap.size w wr)) (fun rv _ => R + K + 3 - (intOf rv).toNat)
  case atStart => exact ⟨0, by omega, by go_num, HD3, hb3⟩
  case round =>
    obtain ⟨m, hm, rfl, HS, HB⟩ := hrel
    by_cases hlt : m < K + 3
    · have hlt2 : ((R + m : Nat) : Int) < (R : Int) + (3 + (K : Int)) := by omega
      have hr9 : R + m < 9000 := by omega
      have hmr : (R % (K + 3) + m) % (K + 3) = (R + m) % (K + 3) := by simp
      have hRr : (R + m) % (K + 3) < K + 3 := Nat.mod_lt _ (by omega)
      have SV := hid (rows_seen K k1 (R % (K + 3)) hR0 m hlt)
      rw [hmr] at SV
      have HM := hid hm
      have HLT := hid hlt
      clear hmr hm hlt
      generalize hr : R + m = r at *
      have HR := hid hr
      clear hr
      have HRS := HB.out.size
      have Z2 := hid (rowf_zero (K + 3) (U (K + 3) (r % (K + 3)) 0) (fun j hj => (rows_full K k1 _ hRr j hj).2.2.2))
      have M4 := hid HRS
      clear HRS
      go_wp2_with (first | (refine wpList_make_full _ rfl _ _ 22 rfl w.heap.size 3 i0 (.int .i64 0) 1 Try.underlying22 HI.out HZ0.out HZ1.out .i64 .i64 (3 + (K : Int)) (3 + (K : Int)) (K + 3) rfl rfl M3.out M3.out M1.out M2.out M4.out ?_; intro w5 hown5 hgrow5))
      rw [Z2.out] at hown5
      have HU5 := hid hown5
      have HS5 := hid (HS.out.kept hgrow5 (.inr (by simp [Value.ownBlock])))
      have HB5 := hid (HB.out.grown hgrow5 M4.out (fun k e => by cases e))
      have hg : w.heap.size < wr.heap.size := (HS.out.lt _ rfl).2
      clear hown5 hgrow5 HS HB Z2
      generalize wr.heap.size = g at *
      go_loopw [13] (fun iv w6 => ∃ i : Nat, i ≤ K + 2 ∧ iv = .int .i64 (i : Int) ∧ Hid (w6.ownsRow w.heap.size 3 1 (.slice (some ⟨g, 0, none⟩) (K + 3) (K + 3)) (K + 3) (rowf (K + 3) (U (K + 3) (r % (K + 3)) i))) ∧ Hid (w6.ownsRow w.heap.size 3 1 (.slice (some ⟨w.heap.size, 0, none⟩) (K + 3) (K + 3)) (K + 3) (rowf (K + 3) (V (K + 3) (R % (K + 3)) (if i = 0 then m else m + 1)))) ∧ Hid (Below w.heap.size w w6)) (fun iv _ => K + 2 - (intOf iv).toNat)
      case atStart => exact ⟨0, by omega, rfl, HU5, HS5, HB5⟩
      case round =>
        obtain ⟨i, hi, rfl, HU, HS, HB⟩ := hrel
        by_cases hil : i < K + 2
        · have hil2 : (i : Int) < 3 + (K : Int) - 1 := by omega
          obtain ⟨s, hs⟩ : ∃ s, s = (r * (K + 2) + i) * (C + 1) + T % (C + 1) := ⟨_, rfl⟩
          obtain ⟨P, hP⟩ : ∃ P, P = pp (K + 3) (r % (K + 3)) := ⟨_, rfl⟩
          obtain ⟨L, hL⟩ : ∃ L, L = lg (K + 3) (r % (K + 3)) i := ⟨_, rfl⟩
          obtain ⟨O, hO⟩ : ∃ O, O = r * (C + 1) + T % (C + 1) := ⟨_, rfl⟩
          have HP := hid (fun w => place_row C K r i T s L O P c1 k1 hr9 hil hs hP hL hO w)
          have HK := hid (fun w => back_row C K r i T s L O P c1 k1 hr9 hil hs hP hL hO w)
          obtain ⟨e1, e2, e3, e4, e5, e6, e7⟩ := sec_nat C K r i T s c1 k1 hr9 hil hs
          obtain ⟨f1, f2, f3, f4, f5⟩ := rows_leg K k1 (r % (K + 3)) hRr i hil
          rw [← hL] at f1 f3 f5
          rw [← hP] at f2 f3 f5
          have hT : T % (C + 1) < C + 1 := Nat.mod_lt _ (by omega)
          have o1 : (O : Int) / (1 + (C : Int)) = (r : Int) := by
            rw [show 1 + (C : Int) = ((C + 1 : Nat) : Int) by omega, ← Int.natCast_ediv, hO, Nat.add_comm, Nat.add_mul_div_right _ _ (by omega), Nat.div_eq_of_lt hT, Nat.zero_add]
          have ES := hid (show wrap64 (wrap64 (wrap64 (wrap64 ((r : Int) * (3 + (K : Int) - 1)) + (i : Int)) * (1 + (C : Int))) + (T : Int) % (1 + (C : Int))) = (s : Int) by
            have x1 : (r : Int) * (3 + (K : Int) - 1) = ((r * (K + 2) : Nat) : Int) := by rw [Int.natCast_mul]; congr 1; omega
            rw [x1, IntWalk.wrap64_in ((r * (K + 2) : Nat) : Int) (by omega), show ((r * (K + 2) : Nat) : Int) + (i : Int) = ((r * (K + 2) + i : Nat) : Int) by omega, IntWalk.wrap64_in ((r * (K + 2) + i : Nat) : Int) (by omega),
              show ((r * (K + 2) + i : Nat) : Int) * (1 + (C : Int)) = (((r * (K + 2) + i) * (C + 1) : Nat) : Int) by rw [Int.natCast_mul]; congr 1; omega,
              show (T : Int) % (1 + (C : Int)) = ((T % (C + 1) : Nat) : Int) by rw [show 1 + (C : Int) = ((C + 1 : Nat) : Int) by omega, ← Int.natCast_emod]]
            rw [IntWalk.wrap64_in (((r * (K + 2) + i) * (C + 1) : Nat) : Int) (by omega), hs, Int.natCast_add, IntWalk.wrap64_in _ (by omega)])
          have HSL := hid e5
          have q1 : (L : Int) < 3 + (K : Int) := by omega
          have q2 : (P : Int) < 3 + (K : Int) := by omega
          have q3 : ((L : Int) == (P : Int)) = false := by simp; omega
          have q4 : (L : Int) < (K : Int) + 3 := by omega
          have q5 : (P : Int) < (K : Int) + 3 := by omega
          have F5 := hid f5
          have F1 := hid f1
          have F2 := hid f2
          have F3 := hid f3
          have HPP := hid hP
          clear hs hO hL e1 e2 e3 e4 e5 e6 e7 f1 f2 f3 f4 f5 hP hT
          go_wp2_with fail
          rw [ES.out]
          refine (HP.out _).mono ?_
          rintro e w7 ⟨rfl, hb7⟩
          have HU7 := hid (own_kept HU.out hb7)
          have HS7 := hid (own_kept HS.out hb7)
          have HB7 := hid (bt HB.out hb7)
          clear hb7 HU HS HB
          go_wp2_with fail
          refine (HK.out _).mono ?_
          rintro e w8 ⟨rfl, hb8⟩
          have HU := hid (own_kept HU7.out hb8)
          have HS := hid (own_kept HS7.out hb8)
          have HB := hid (bt HB7.out hb8)
          clear hb8 HU7 HS7 HB7 HP HK ES
          have t1 := own_at HU.out L F1.out rfl
          have t2 := HU.out.frozenAt L
          have u1 := UV_le.1 (K + 3) (r % (K + 3)) i L
          by_cases hi0 : i = 0
          · subst hi0
            have hi1 : (((0 : Nat) : Int) == 0) = true := rfl
            rw [if_pos rfl] at HS
            have HN1 := hid (rowf_set (K + 3) (U (K + 3) (r % (K + 3)) 0) (fun j => U (K + 3) (r % (K + 3)) 0 j + if j = L then 1 else 0) L _ rfl (fun j hj => rfl))
            have HN3 := hid (rowf_set (K + 3) (fun j => U (K + 3) (r % (K + 3)) 0 j + if j = L then 1 else 0) (U (K + 3) (r % (K + 3)) (0 + 1)) P ((U (K + 3) (r % (K + 3)) 0 P : Int) + 1) (by rw [if_neg (fun h => F3.out h.symm)]; rfl) (fun j hj => by
              rw [F5.out j hj]
              by_cases e : j = P
              · rw [if_pos (c := 0 = 0 ∧ j = P) ⟨rfl, e⟩, if_pos (c := j = P) e]
              · rw [if_neg (c := 0 = 0 ∧ j = P) (fun h => e h.2), if_neg (c := j = P) e]))
            have HN2 := hid (rowf_set (K + 3) (V (K + 3) (R % (K + 3)) m) (V (K + 3) (R % (K + 3)) (m + 1)) P _ rfl (fun j hj => by rw [SV.out j hj, HPP.out]))
            have t3 := own_at HS.out P F2.out rfl
            have t4 := HS.out.frozenAt P
            have t5 := own_at HU.out P F2.out rfl
            have t6 := HU.out.frozenAt P
            have u2 := UV_le.1 (K + 3) (r % (K + 3)) 0 P
            have u3 := UV_le.2 (K + 3) (R % (K + 3)) m P
            have ne1 : ¬ w.heap.size = g := by omega
            have ne2 : ¬ g = w.heap.size := by omega
            have ne3 : ¬ L = P := F3.out
            have ne4 : ¬ P = L := fun h => F3.out h.symm
            have HU1 := hid (HU.out.stored L (.int .i64 ((U (K + 3) (r % (K + 3)) 0 L : Int) + 1)))
            rw [HN1.out] at HU1
            have HS1 := hid (HS.out.kept HU1.out.2 (.inr (by simp [Value.ownBlock]; omega)))
            have HB1 := hid (HB.out.setCell (p := ⟨g, L, none⟩) (Nat.le_of_lt hg) (.int .i64 ((U (K + 3) (r % (K + 3)) 0 L : Int) + 1)))
            have HS2 := hid (HS1.out.stored P (.int .i64 ((V (K + 3) (R % (K + 3)) m P : Int) + 1)))
            rw [HN2.out] at HS2
            have HU2 := hid (HU1.out.1.kept HS2.out.2 (.inr (by simp [Value.ownBlock]; omega)))
            have HB2 := hid (HB1.out.setCell (p := ⟨w.heap.size, P, none⟩) (Nat.le_refl _) (.int .i64 ((V (K + 3) (R % (K + 3)) m P : Int) + 1)))
            have HU3 := hid (HU2.out.stored P (.int .i64 ((U (K + 3) (r % (K + 3)) 0 P : Int) + 1)))
            rw [HN3.out] at HU3
            have HS3 := hid (HS2.out.1.kept HU3.out.2 (.inr (by simp [Value.ownBlock]; omega)))
            have HB3 := hid (HB2.out.setCell (p := ⟨g, P, none⟩) (Nat.le_of_lt hg) (.int .i64 ((U (K + 3) (r % (K + 3)) 0 P : Int) + 1)))
            clear HN1 HN2 HN3 HU1 HS1 HB1 HU2 HS2 HB2 HU HS HB
            generalize U (K + 3) (r % (K + 3)) 0 L = x1 at t1 u1 HU3 HS3 HB3
            generalize U (K + 3) (r % (K + 3)) 0 P = x2 at t5 u2 HU3 HS3 HB3
            generalize V (K + 3) (R % (K + 3)) m P = x3 at t3 u3 HU3 HS3 HB3
            go_wp2_with fail
            go_roundw
            case rel => exact ⟨0 + 1, by omega, by go_num, HU3.out.1, HS3, HB3⟩
            case measure => simp [intOf]
          · have hi1 : ((i : Int) == 0) = false := by simp; omega
            have HN := hid (rowf_set (K + 3) (U (K + 3) (r % (K + 3)) i) (U (K + 3) (r % (K + 3)) (i + 1)) L _ rfl (fun j hj => by rw [F5.out j hj, if_neg (c := i = 0 ∧ j = P) (by omega)]; rfl))
            have HU2 := hid (HU.out.stored L (.int .i64 ((U (K + 3) (r % (K + 3)) i L : Int) + 1)))
            rw [HN.out] at HU2
            have HS2 := hid (HS.out.kept HU2.out.2 (.inr (by simp [Value.ownBlock]; omega)))
            have HB2 := hid (HB.out.setCell (p := ⟨g, L, none⟩) (Nat.le_of_lt hg) (.int .i64 ((U (K + 3) (r % (K + 3)) i L : Int) + 1)))
            generalize U (K + 3) (r % (K + 3)) i L = u at t1 u1 HU2 HS2 HB2
            rw [if_neg hi0] at HS2
            clear HN HU HS HB
            go_wp2_with fail
            go_roundw
            case rel => exact ⟨i + 1, by omega, by go_num, HU2.out.1, by rw [if_neg (by omega)]; exact HS2, HB2⟩
            case measure => simp [intOf]; omega
        · obtain rfl : i = K + 2 := by omega
          have hil2 : ¬ ((K + 2 : Nat) : Int) < 3 + (K : Int) - 1 := by omega
          rw [if_neg (by omega)] at HS
          have RF := hid (rows_full K k1 (r % (K + 3)) hRr)
          go_wp2_with fail
          go_loop [22] (fun jv => ∃ j : Nat, j ≤ K + 3 ∧ jv = .int .i64 (j : Int)) (fun jv => K + 3 - (intOf jv).toNat)
          case atStart => exact ⟨0, by omega, rfl⟩
          case round =>
            obtain ⟨j, hj, rfl⟩ := hrel
            by_cases hjl : j < K + 3
            · have hjl2 : (j : Int) < 3 + (K : Int) := by omega
              have hjl3 : (j : Int) < (K : Int) + 3 := by omega
              have t1 := own_at HU.out j hjl rfl
              rw [(RF.out j hjl).1] at t1
              go_wp2_with fail
              go_round
              case rel => exact ⟨j + 1, by omega, by go_num⟩
              case measure => simp [intOf]; omega
            · obtain rfl : j = K + 3 := by omega
              have hjl2 : ¬ ((K + 3 : Nat) : Int) < 3 + (K : Int) := by omega
              have HLT2 := HLT.out
              go_wp2_with fail
              go_roundw
              case rel => exact ⟨m + 1, by omega, by have h := HR.out; subst h; go_num, HS, HB⟩
              case measure => have h := HR.out; simp [intOf]; omega
    · obtain rfl : m = K + 3 := by omega
      have hlt2 : ¬ ((R + (K + 3) : Nat) : Int) < (R : Int) + (3 + (K : Int)) := by omega
      have RF := hid (rows_full K k1 (R % (K + 3)) hR0)
      go_wp2_with fail
      go_loop [23] (fun jv => ∃ j : Nat, j ≤ K + 3 ∧ jv = .int .i64 (j : Int)) (fun jv => K + 3 - (intOf jv).toNat)
      case atStart => exact ⟨0, by omega, rfl⟩
      case round =>
        obtain ⟨j, hj, rfl⟩ := hrel
        by_cases hjl : j < K + 3
        · have hjl2 : (j : Int) < 3 + (K : Int) := by omega
          have hjl3 : (j : Int) < (K : Int) + 3 := by omega
          have t1 := own_at HS.out j hjl rfl
          rw [(RF.out j hjl).2.1] at t1
          go_wp2_with fail
          go_round
          case rel => exact ⟨j + 1, by omega, by go_num⟩
          case measure => simp [intOf]; omega
        · obtain rfl : j = K + 3 := by omega
          have hjl2 : ¬ ((K + 3 : Nat) : Int) < 3 + (K : Int) := by omega
          go_wp2_with fail
          refine (awake_ok _).mono ?_
          rintro e w9 ⟨rfl, hb9⟩
          go_wp2_with fail
          go_ret
          exact ⟨rfl, bt HB.out hb9⟩

set_option maxRecDepth 100000 in
theorem lifted (os : Os) (started : os.Started) (H : Type) (enc : TypeId × Value → H) :
    ReturnsInHanded {} Try.checked os 4 .any (Rows.parityRowsSpec.pre6 enc Try.prog Try.f4 Rows.parityRowsRow.domain false) (Rows.parityRowsSpec.post enc Try.prog Try.f4 false true false false) := by
  refine returnsInHanded_of_change (C := Try.checked) own started (by kernel_rfl) Try.func4
    (ChangeSpec.witness6 (enc := enc) (C := Try.checked) false ⟨#[], #[.int .u8 0, .int .u8 0, .int .u16 0], []⟩ 8 (by kernel_rfl) (by kernel_rfl) (by kernel_rfl) (by kernel_rfl)) ?_
  intro W base args ds gs before hval0 hW hcnd _
  have hval : ∀ (j : Nat) t v, Try.f4.params[j]? = some t → args[j]? = some v → Value.okWide Try.prog W .any base t v := hval0
  have hW' := hW
  obtain ⟨p, q, hA0, hV, rfl, hfz, hnd⟩ := hW
  have hA : DataW.TrodAll enc Try.prog W 0 (fun _ => true) true Try.f4.params.toList args.toList ds p := hA0
  rw [Try.params4] at hA hval
  obtain ⟨v0, vs0, d0, ds0, p0, q0, hargs, rfl, rfl, h0, r0⟩ := trodAll_cons hA
  obtain ⟨v1, vs1, d1, ds1, p1, q1, rfl, rfl, rfl, h1, r1⟩ := trodAll_cons r0
  obtain ⟨v2, vs2, d2, ds2, p2, q2, rfl, rfl, rfl, h2, r2⟩ := trodAll_cons r1
  obtain ⟨rfl, rfl, rfl⟩ := trodAll_nil r2
  obtain rfl : args = #[v0, v1, v2] := by cases args; simp_all
  obtain ⟨rfl, rfl⟩ := trodVars_none hV
  obtain ⟨a0, rfl, rfl, rfl, w0⟩ := open_int Try.underlying5 (hval 0 5 v0 rfl rfl) h0
  obtain ⟨a1, rfl, rfl, rfl, w1⟩ := open_int Try.underlying5 (hval 1 5 v1 rfl rfl) h1
  obtain ⟨a2, rfl, rfl, rfl, w2⟩ := open_int Try.underlying34 (hval 2 34 v2 rfl rfl) h2
  clear hA0 hval0
  refine (walk a0 a1 a2 W w0 w1 w2).mono fun e W' ⟨he, bel⟩ => ?_
  subst he
  exact ⟨_, rfl, _, _, _, [], _, [], hW', trodAll_mk1 (shut_bool Try.underlying4 _), (trodAll_cons_mk (shut_int Try.underlying5 w0) (trodAll_cons_mk (shut_int Try.underlying5 w1) (trodAll_cons_mk (shut_int Try.underlying34 w2) trodAll_mk0))), rfl, bel.frame _, fun h => by cases h⟩

theorem over : Rows.parityRowsRow.holds Try.pinned (OpenSpec.ofChange Rows.parityRowsSpec) :=
  OpenClaim.holds_of_wide 4 Try.f4 rfl rfl rfl rfl rfl rfl rfl ⟨rfl, rfl, rfl, rfl, rfl⟩ rfl rfl rfl rfl rfl (by kernel_rfl) Try.func4 (by kernel_rfl)
    (of_decide_eq_true (by kernel_rfl)) (by unfold Func.isWrapper; first | (rw [if_pos (by decide +kernel)]; kernel_rfl) | (rw [if_neg (by decide +kernel)]; exact ⟨rfl, rfl⟩))
    (fun os started H enc _ => lifted os started H enc)

theorem proved : Rows.ParityRowsSaid := over
#print axioms proved
end Go.Proofs.Ytahnmmichekamaa.parityRows
