/- The comparison of the two space maps. No conditions but those of each theorem. -/
import Derived.Test.YtablogkafbajaaaKk
namespace Go.Proofs.Ytablogkafbajaaa
open Go.ChangeShapes Go.WideShapes Go.ChangeAt Go.RowKit
set_option linter.unusedVariables false
set_option linter.unusedSimpArgs false

theorem own_at {W : World} {base n cap : Nat} {a : Option Addr} {L : List Int} (h : W.ownsRow base 3 1 (.slice a n cap) n (vi L)) (hn : n = L.length) (h0 : 0 < n) : ∃ g, a = some ⟨g, 0, none⟩ ∧ ∀ j, j < n → W.cell? ⟨g, j, none⟩ = some (.int .i64 (ge L j)) := by
  rcases h.2 with ⟨_, h1⟩ | ⟨g, cap', cur, hv, _⟩
  · omega
  · cases hv
    refine ⟨g, rfl, fun j hj => ?_⟩
    rw [World.ownsRow.cellAt h j (by omega), vi_at L j (by omega)]
set_option maxRecDepth 100000 in
set_option maxHeartbeats 8000000 in
theorem same_ok {M a ca b cb R c cc d cd : Nat} {X Y : List Int} {W : World} (h : SM 66 W M a ca b cb X Y) (h' : SM 51 W R c cc d cd X Y) :
    Calls Try.prog 10 #[.pointer (some ⟨M, 0, none⟩), .pointer (some ⟨R, 0, none⟩)] W fun e W' => e = .returned (.bool true) ∧ Below W.heap.size W W' := by
  have r0 := h'.c0
  have hbig := h.cx.big
  have H := hid h
  have H' := hid h'
  clear h h'
  have HC := hid (counts_ok H.out)
  go_enter Try.func10, Try.ntmps10
  go_wp2_with fail
  refine HC.out.mono ?_
  rintro e w1 ⟨g, gc, rfl, hg, H1⟩
  have HB1 := hid H1.out.2
  have HR1 := hid H1.out.1
  clear H1 HC r0
  go_wp2_with fail
  refine (changed_ok (H.out.below HB1.out)).mono ?_
  rintro e w2 ⟨v7, rfl, H2⟩
  have HB2 := hid (bt HB1.out H2.out.2)
  have HR2 := hid (HR1.out.kept (grown_below H2.out.2) (by simp))
  have HO2 := hid H2.out.1
  clear H2 HR1
  go_wp2_with fail
  refine (rchanged_ok (H'.out.below HB2.out)).mono ?_
  rintro e w3 ⟨v8, rfl, H3⟩
  have HB3 := hid (bt HB2.out H3.out.2)
  have HR3 := hid (HR2.out.kept (grown_below H3.out.2) (by simp))
  have HO3 := hid (own_below HO2.out H3.out.2)
  have HP3 := hid H3.out.1
  clear H3 HR2 HO2
  obtain ⟨L, hL⟩ : ∃ L, L = ch X Y X.length := ⟨_, rfl⟩
  have hLl : L.length ≤ X.length := by rw [hL]; exact ch_le _ _ _
  rw [← hL] at HO3 HP3
  clear hL
  obtain ⟨va, vc, rfl⟩ := own_slice HO3.out
  obtain ⟨vb, vd, rfl⟩ := own_slice HP3.out
  go_wp2_with fail
  refine (len_ok (H.out.below HB3.out)).mono ?_
  rintro e w4 ⟨rfl, hb4⟩
  have HB4 := hid (bt HB3.out hb4)
  have HR4 := hid (HR3.out.kept (grown_below hb4) (by simp))
  have HO4 := hid (own_below HO3.out hb4)
  have HP4 := hid (own_below HP3.out hb4)
  clear hb4 HR3 HO3 HP3
  have hcnt := hid (nfree_ok (H.out.below HB4.out))
  go_wp2_with fail
  refine hcnt.out.mono ?_
  rintro e w5 ⟨rfl, hb5⟩
  have HB5 := hid (bt HB4.out hb5)
  have HR5 := hid (HR4.out.kept (grown_below hb5) (by simp))
  have HO5 := hid (own_below HO4.out hb5)
  have HP5 := hid (own_below HP4.out hb5)
  clear hb5 HR4 HO4 HP4 hcnt
  go_wp2_with fail
  refine (rfree_ok (H'.out.below HB5.out)).mono ?_
  rintro e W1 ⟨rfl, hb6⟩
  have HB6 := hid (bt HB5.out hb6)
  have HR6 := hid (HR5.out.kept (grown_below hb6) (by simp))
  have HO6 := hid (own_below HO5.out hb6)
  have HP6 := hid (own_below HP5.out hb6)
  have H6 := hid (H.out.below HB6.out)
  have H6' := hid (H'.out.below HB6.out)
  clear hb6 HR5 HO5 HP5
  go_wp2_with fail
  go_loopw [9] (fun bv wr => ∃ k : Nat, k ≤ X.length + 2 ∧ bv = .int .i64 ((k : Int) - 1) ∧ Hid (Below W1.heap.size W1 wr)) (fun bv _ => (X.length + 1 - intOf bv).toNat)
  case atStart => exact ⟨0, by omega, rfl, hid (Below.refl _ _)⟩
  case round =>
    obtain ⟨k, hk, rfl, HB⟩ := hrel
    by_cases hlt : k < X.length + 2
    · have hlt' : (k : Int) - 1 ≤ (X.length : Int) := by omega
      generalize hq : (k : Int) - 1 = q at *
      have q1 : -1 ≤ q := by omega
      have C1 := hid (count_ok (H6.out.below HB.out) q)
      go_wp2_with fail
      refine C1.out.mono ?_
      rintro e u1 ⟨rfl, hb1⟩
      have G1 := hid (bt HB.out hb1)
      clear hb1 C1
      have C2 := hid (rcount_ok (H6'.out.below G1.out) q)
      go_wp2_with fail
      refine C2.out.mono ?_
      rintro e u2 ⟨rfl, rfl⟩
      have C3 := hid (was_ok (H6.out.below G1.out) q)
      clear C2
      go_wp2_with fail
      refine C3.out.mono ?_
      rintro e u3 ⟨rfl, hb3⟩
      have G3 := hid (bt G1.out hb3)
      clear hb3 C3
      have C4 := hid (rwas_ok (H6'.out.below G3.out) q)
      go_wp2_with fail
      refine C4.out.mono ?_
      rintro e u4 ⟨rfl, rfl⟩
      go_wp2_with fail
      go_roundw
      case rel => exact ⟨k + 1, by omega, by rw [← hq]; go_num, G3⟩
      case measure => simp [intOf]; omega
    · obtain rfl : k = X.length + 2 := by omega
      have hlt' : ¬ ((X.length + 2 : Nat) : Int) - 1 ≤ (X.length : Int) := by omega
      have HBa := hid HB.out
      go_wp2_with fail
      go_loopw [10] (fun bv wr => ∃ k : Nat, k ≤ X.length ∧ bv = .int .i64 (k : Int) ∧ Hid (Below W1.heap.size W1 wr)) (fun bv _ => X.length - (intOf bv).toNat)
      case atStart => exact ⟨0, by omega, rfl, HB⟩
      case round =>
        clear HB HBa
        obtain ⟨k, hk, rfl, HB⟩ := hrel
        by_cases hlt : k < X.length
        · have hlt' : (k : Int) < (X.length : Int) := by omega
          have c1 := (HB.out.cell (p := ⟨g, k, none⟩) HR6.out.lt).trans (HR6.out.at k hlt)
          have HX := hid (H6'.out.below HB.out)
          have c2 := HX.out.c0
          have c3 := HX.out.ra.at k hlt
          go_wp2_with fail
          go_quiet (fail)
          go_wp2_with fail
          go_roundw
          case rel => exact ⟨k + 1, by omega, by go_num, hid (HB.out.trans (bdn _ wr nq))⟩
          case measure => simp [intOf]; omega
        · obtain rfl : k = X.length := by omega
          have hlt' : ¬ (X.length : Int) < (X.length : Int) := by omega
          go_wp2_with fail
          go_loopw [11] (fun bv wr => ∃ k : Nat, k ≤ L.length ∧ bv = .int .i64 (k : Int) ∧ Hid (Below W1.heap.size W1 wr)) (fun bv _ => L.length - (intOf bv).toNat)
          case atStart => exact ⟨0, by omega, rfl, HB⟩
          case round =>
            clear HB
            obtain ⟨k, hk, rfl, HB⟩ := hrel
            by_cases hlt : k < L.length
            · have hlt' : (k : Int) < (L.length : Int) := by omega
              obtain ⟨g7, rfl, e7⟩ := own_at (own_below HO6.out HB.out) rfl (by omega)
              obtain ⟨g8, rfl, e8⟩ := own_at (own_below HP6.out HB.out) rfl (by omega)
              have c1 := e7 k hlt
              have c2 := e8 k hlt
              clear e7 e8
              go_wp2_with fail
              go_quiet (fail)
              go_wp2_with fail
              go_roundw
              case rel => exact ⟨k + 1, by omega, by go_num, hid (HB.out.trans (bdn _ wr nq))⟩
              case measure => simp [intOf]; omega
            · obtain rfl : k = L.length := by omega
              have hlt' : ¬ (L.length : Int) < (L.length : Int) := by omega
              go_wp2_with fail
              go_ret
              exact ⟨rfl, bt HB6.out HB.out⟩
end Go.Proofs.Ytablogkafbajaaa
