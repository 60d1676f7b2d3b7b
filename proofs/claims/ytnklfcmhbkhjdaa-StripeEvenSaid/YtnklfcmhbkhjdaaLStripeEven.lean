/- For all chunks, numbers of legs and counts: StripeEven returns true and leaves its arguments as they were. No condition. -/
import Derived.Test.YtnklfcmhbkhjdaaRows
import Derived.WalkKit
import Derived.ProofKit
import Derived.OpenShut
import Derived.ShutString
import Derived.ChangeOld
import Derived.Below
import Derived.Carry
import Derived.Test.YtnklfcmhbkhjdaaC
import Derived.Test.YtnklfcmhbkhjdaaD
import Derived.Test.YtnklfcmhbkhjdaaM
namespace Go.Proofs.Ytnklfcmhbkhjdaa.stripeEven
open Go.ChangeShapes Go.WideShapes Go.ChangeAt Go.RowKit
open Go.ChangeMaps (open_string shut_string)
set_option linter.unusedVariables false

theorem own : ownKnob Try.prog.godebug = none := by kernel_rfl
theorem laidOut : laidOutB Try.prog = true := by kernel_rfl

theorem below_dr {w : World} {base : Nat} {e : TypeId} {size : Nat} {v : Value} {n : Nat} {xs : List Value} {k : Nat} (h : w.ownsRow base e size v n xs) : Hid ((w.drewN k).ownsRow base e size v n xs) := h
theorem below_dr2 {B : Nat} {a w : World} {n : Nat} (h : Below B a w) : Hid (Below B a (w.drewN n)) := ⟨h.os, h.tape, h.output, h.size, h.block⟩
theorem own_at {w : World} {base g cap n : Nat} {C K i : Nat} (h : w.ownsRow base 3 1 (.slice (some ⟨g, 0, none⟩) n cap) n (rowv C K i)) (j : Nat) (hj : j < n) (hn : n = K + 1) : w.cell? ⟨g, j, none⟩ = some (.int .i64 (F (C + 1) (K + 1) i j : Nat)) := by
  rw [h.cellAt j (by omega), rowv_at _ _ _ _ (by omega)]

theorem own_kept {w w' : World} {base : Nat} {e : TypeId} {size : Nat} {v : Value} {n : Nat} {xs : List Value} (h : w.ownsRow base e size v n xs) (hb : Below w.heap.size w w') : w'.ownsRow base e size v n xs := by
  refine ⟨h.1, h.2.imp id fun ⟨g, cap, cur, hv, hg, hh, rest⟩ => ⟨g, cap, cur, hv, hg, ?_, rest⟩⟩
  rw [hb.block g (Array.getElem?_eq_some_iff.1 hh).1]; exact hh

set_option maxHeartbeats 1000000 in
set_option maxRecDepth 100000 in
theorem walk (a0 a1 a2 : Int) (w : World) (w0 : (Lit.int .u8 a0).wf = true) (w1 : (Lit.int .u8 a1).wf = true) (w2 : (Lit.int .u16 a2).wf = true) :
    Calls Try.prog 6 #[.int .u8 a0, .int .u8 a1, .int .u16 a2] w fun e w' => e = .returned (.bool true) ∧ Below w.heap.size w w' := by
  obtain ⟨n0, rfl, b0⟩ : ∃ a : Nat, a0 = a ∧ a < 256 := by simp [Lit.wf, IntKind.min, IntKind.max, IntKind.signed, IntKind.bits] at w0; exact ⟨a0.toNat, by omega, by omega⟩
  obtain ⟨n1, rfl, b1⟩ : ∃ a : Nat, a1 = a ∧ a < 256 := by simp [Lit.wf, IntKind.min, IntKind.max, IntKind.signed, IntKind.bits] at w1; exact ⟨a1.toNat, by omega, by omega⟩
  obtain ⟨n2, rfl, b2⟩ : ∃ a : Nat, a2 = a ∧ a < 65536 := by simp [Lit.wf, IntKind.min, IntKind.max, IntKind.signed, IntKind.bits] at w2; exact ⟨a2.toNat, by omega, by omega⟩
  obtain ⟨i0, hi, hz0, hz1, hz2⟩ := info_parts Try.info3
  have HI := hid hi; have HZ0 := hid hz0; have HZ1 := hid hz1; have HZ2 := hid hz2
  clear hi hz0 hz1 w0 w1 w2
  obtain ⟨C, hC, c1⟩ : ∃ C : Nat, (n0 : Int) % 6 = (C : Int) ∧ C < 6 := ⟨n0 % 6, by omega, by omega⟩
  obtain ⟨K, hK, k1⟩ : ∃ K : Nat, (n1 : Int) % 6 = (K : Int) ∧ K < 6 := ⟨n1 % 6, by omega, by omega⟩
  obtain ⟨T, hT, t1⟩ : ∃ T : Nat, (n2 : Int) % 300 = (T : Int) ∧ T < 300 := ⟨n2 % 300, by omega, by omega⟩
  have M1 := hid (show i0.bytes * (K + 1) ≤ 281474976710656 by rw [hz2]; omega)
  have M2 := hid (show K + 1 ≤ maxLen by unfold maxLen; omega)
  have M3 := hid (show 1 + (K : Int) = ((K + 1 : Nat) : Int) by omega)
  clear hz2
  go_enter Try.func6, Try.ntmps6
  go_wp2_with (first | (refine wpList_make_full _ rfl _ _ 22 rfl w.heap.size 3 i0 (.int .i64 0) 1 Try.underlying22 HI.out HZ0.out HZ1.out .i64 .i64 (1 + (K : Int)) (1 + (K : Int)) (K + 1) rfl rfl M3.out M3.out M1.out M2.out (Nat.le_refl _) ?_; intro w3 hown3 hgrow3))
  rw [rowv_zero C K] at hown3
  have HD3 := hid hown3
  have hb3 := hid ((Below.refl w.heap.size w).grown hgrow3 (Nat.le_refl _) (fun k e => by cases e))

  go_loopw [10] (fun iv wr => ∃ i : Nat, i ≤ T ∧ iv = .int .i64 (i : Int) ∧ Hid (wr.ownsRow w.heap.size 3 1 (.slice (some ⟨w.heap.size, 0, none⟩) (K + 1) (K + 1)) (K + 1) (rowv C K i)) ∧ Hid (Below w.heap.size w wr)) (fun iv _ => T - (intOf iv).toNat)
  case atStart => exact ⟨0, by omega, rfl, HD3, hb3⟩
  case round =>
    obtain ⟨i, hiT, rfl, HD, HB⟩ := hrel
    by_cases hlt : i < T
    · have hlt2 : (i : Int) < (T : Int) := by omega
      obtain ⟨L, hL⟩ : ∃ L, L = i / (C + 1) % (K + 1) := ⟨_, rfl⟩
      obtain ⟨A, hA⟩ : ∃ A, A = F (C + 1) (K + 1) i L := ⟨_, rfl⟩
      have hLK : L < K + 1 := by rw [hL]; exact Nat.mod_lt _ (by omega)
      have hA2 : A < 1000 := by have := F_le (C + 1) (K + 1) i L; omega
      have HP := hid (fun w => place_nat C K i L A c1 k1 (by omega) hL hA w)
      have HN := hid (rowv_next C K i c1 k1 (by omega) L hL)
      have t1 := own_at HD.out L hLK rfl
      rw [← hA] at t1 HN
      have HN : Hid ((rowv C K i).set L (.int .i64 ((A : Int) + 1)) = rowv C K (i + 1)) := HN
      have q1 : (L : Int) < 1 + (K : Int) := by omega
      have q2 : (L : Int) < (K : Int) + 1 := by omega
      have q3 : ¬ (L : Int) < 0 := by omega
      have HL := hid hLK
      clear hL hA hLK
      go_wp2_with fail
      refine (HP.out _).mono ?_
      rintro e w4 ⟨rfl, hb4⟩
      have HD4 := hid (own_kept HD.out hb4)
      have HB4 := hid (bt HB.out hb4)
      have t2 : w4.cell? ⟨w.heap.size, L, none⟩ = some (.int .i64 (A : Int)) := by rw [hb4.cell (p := ⟨w.heap.size, L, none⟩) (block_lt_of_cell t1)]; exact t1
      have t3 := HD4.out.frozenAt L
      have HD5 := hid (HD4.out.stored L (.int .i64 ((A : Int) + 1))).1
      rw [HN.out] at HD5
      have HB5 := hid (HB4.out.setCell (p := ⟨w.heap.size, L, none⟩) (Nat.le_refl _) (.int .i64 ((A : Int) + 1)))
      have q4 : (A : Int) + 1 < 1000 + 1 := by omega
      clear t1 hb4 HD HB HD4 HB4 HN
      go_wp2_with fail
      go_roundw
      case rel => exact ⟨i + 1, by omega, by go_num, HD5, HB5⟩
      case measure => simp [intOf]; omega
    · obtain rfl : i = T := by omega
      have hlt2 : ¬ (i : Int) < (i : Int) := by omega
      go_wp2_with fail
      go_loopw [14] (fun av w5 => ∃ a : Nat, a ≤ K + 1 ∧ av = .int .i64 (a : Int) ∧ Hid (w5.ownsRow w.heap.size 3 1 (.slice (some ⟨w.heap.size, 0, none⟩) (K + 1) (K + 1)) (K + 1) (rowv C K i)) ∧ Hid (Below w.heap.size w w5)) (fun av _ => K + 1 - (intOf av).toNat)
      case atStart => exact ⟨0, by omega, rfl, HD, HB⟩
      case round =>
        obtain ⟨a, ha, rfl, HD5, HB5⟩ := hrel
        by_cases hal : a < K + 1
        · have hal2 : (a : Int) < 1 + (K : Int) := by omega
          go_wp2_with fail
          go_loopw [15] (fun bv w6 => ∃ b : Nat, b ≤ K + 1 ∧ bv = .int .i64 (b : Int) ∧ Hid (w6.ownsRow w.heap.size 3 1 (.slice (some ⟨w.heap.size, 0, none⟩) (K + 1) (K + 1)) (K + 1) (rowv C K i)) ∧ Hid (Below w.heap.size w w6)) (fun bv _ => K + 1 - (intOf bv).toNat)
          case atStart => exact ⟨0, by omega, rfl, HD5, HB5⟩
          case round =>
            obtain ⟨b, hb, rfl, HD6, HB6⟩ := hrel
            by_cases hbl : b < K + 1
            · have hbl2 : (b : Int) < 1 + (K : Int) := by omega
              have hbl3 : (b : Int) < (K : Int) + 1 := by omega
              have hal3 : (a : Int) < (K : Int) + 1 := by omega
              have s1 := own_at HD6.out a hal rfl
              have s2 := own_at HD6.out b hbl rfl
              have s3 := F_near (C + 1) (K + 1) i a b
              have s4 := F_le (C + 1) (K + 1) i a
              have s5 := F_le (C + 1) (K + 1) i b
              generalize F (C + 1) (K + 1) i a = x at *
              generalize F (C + 1) (K + 1) i b = y at *
              have s6 : ¬ 1 + (C : Int) < (x : Int) - (y : Int) := by omega
              have s7 : (x : Int) - (y : Int) ≤ 1 + (C : Int) := by omega
              have s8 : IntKind.i64.wrap ((x : Int) - (y : Int)) = (x : Int) - (y : Int) := IntWalk.i64_in _ (by omega)
              have s9 : wrap64 ((x : Int) - (y : Int)) = (x : Int) - (y : Int) := IntWalk.wrap64_in _ (by omega)
              go_wp2_with fail
              go_quiet (fail)
              go_wp2_with fail
              go_roundw
              case rel => exact ⟨b + 1, by omega, by go_num, below_dr HD6.out, below_dr2 HB6.out⟩
              case measure => simp [intOf]; omega
            · obtain rfl : b = K + 1 := by omega
              have hbl2 : ¬ ((K + 1 : Nat) : Int) < 1 + (K : Int) := by omega
              go_wp2_with fail
              go_roundw
              case rel => exact ⟨a + 1, by omega, by go_num, HD6, HB6⟩
              case measure => simp [intOf]; omega
        · obtain rfl : a = K + 1 := by omega
          have hbl2 : ¬ ((K + 1 : Nat) : Int) < 1 + (K : Int) := by omega
          go_wp2_with fail
          refine (awake_ok _).mono ?_
          rintro e w9 ⟨rfl, hb9⟩
          go_wp2_with fail
          go_ret
          exact ⟨rfl, bt HB5.out hb9⟩

set_option maxRecDepth 100000 in
theorem lifted (os : Os) (started : os.Started) (H : Type) (enc : TypeId × Value → H) :
    ReturnsInHanded {} Try.checked os 6 .any (Rows.stripeEvenSpec.pre6 enc Try.prog Try.f6 Rows.stripeEvenRow.domain false) (Rows.stripeEvenSpec.post enc Try.prog Try.f6 false true false false) := by
  refine returnsInHanded_of_change (C := Try.checked) own started (by kernel_rfl) Try.func6
    (ChangeSpec.witness6 (enc := enc) (C := Try.checked) false ⟨#[], #[.int .u8 0, .int .u8 0, .int .u16 0], []⟩ 8 (by kernel_rfl) (by kernel_rfl) (by kernel_rfl) (by kernel_rfl)) ?_
  intro W base args ds gs before hval0 hW hcnd _
  have hval : ∀ (j : Nat) t v, Try.f6.params[j]? = some t → args[j]? = some v → Value.okWide Try.prog W .any base t v := hval0
  have hW' := hW
  obtain ⟨p, q, hA0, hV, rfl, hfz, hnd⟩ := hW
  have hA : DataW.TrodAll enc Try.prog W 0 (fun _ => true) true Try.f6.params.toList args.toList ds p := hA0
  rw [Try.params6] at hA hval
  obtain ⟨v0, vs0, d0, ds0, p0, q0, hargs, rfl, rfl, h0, r0⟩ := trodAll_cons hA
  obtain ⟨v1, vs1, d1, ds1, p1, q1, rfl, rfl, rfl, h1, r1⟩ := trodAll_cons r0
  obtain ⟨v2, vs2, d2, ds2, p2, q2, rfl, rfl, rfl, h2, r2⟩ := trodAll_cons r1
  obtain ⟨rfl, rfl, rfl⟩ := trodAll_nil r2
  obtain rfl : args = #[v0, v1, v2] := by cases args; simp_all
  obtain ⟨rfl, rfl⟩ := trodVars_none hV
  obtain ⟨a0, rfl, rfl, rfl, w0⟩ := open_int Try.underlying5 (hval 0 5 v0 rfl rfl) h0
  obtain ⟨a1, rfl, rfl, rfl, w1⟩ := open_int Try.underlying5 (hval 1 5 v1 rfl rfl) h1
  obtain ⟨a2, rfl, rfl, rfl, w2⟩ := open_int Try.underlying33 (hval 2 33 v2 rfl rfl) h2
  clear hA0 hval0
  refine (walk a0 a1 a2 W w0 w1 w2).mono fun e W' ⟨he, bel⟩ => ?_
  subst he
  exact ⟨_, rfl, _, _, _, [], _, [], hW', trodAll_mk1 (shut_bool Try.underlying4 _), (trodAll_cons_mk (shut_int Try.underlying5 w0) (trodAll_cons_mk (shut_int Try.underlying5 w1) (trodAll_cons_mk (shut_int Try.underlying33 w2) trodAll_mk0))), rfl, bel.frame _, fun h => by cases h⟩

theorem over : Rows.stripeEvenRow.holds Try.pinned (OpenSpec.ofChange Rows.stripeEvenSpec) :=
  OpenClaim.holds_of_wide 6 Try.f6 rfl rfl rfl rfl rfl rfl rfl ⟨rfl, rfl, rfl, rfl, rfl⟩ rfl rfl rfl rfl rfl (by kernel_rfl) Try.func6 (by kernel_rfl)
    (of_decide_eq_true (by kernel_rfl)) (by unfold Func.isWrapper; first | (rw [if_pos (by decide +kernel)]; kernel_rfl) | (rw [if_neg (by decide +kernel)]; exact ⟨rfl, rfl⟩))
    (fun os started H enc _ => lifted os started H enc)

theorem proved : Rows.StripeEvenSaid := over
#print axioms proved
end Go.Proofs.Ytnklfcmhbkhjdaa.stripeEven
