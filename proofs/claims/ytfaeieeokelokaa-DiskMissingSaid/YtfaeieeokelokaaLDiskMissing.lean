/- For all lists of requests and all numbers at (uint8): DiskMissing returns true. No condition. -/
import Derived.Test.YtfaeieeokelokaaRows
import Derived.WalkKit
import Derived.ProofKit
import Derived.OpenShut
import Derived.ShutString
import Derived.ChangeOld
import Derived.Below
import Derived.Carry
import Derived.Test.YtfaeieeokelokaaT
import Derived.Test.YtfaeieeokelokaaZ
import Derived.Test.YtfaeieeokelokaaZ
import Derived.Test.YtfaeieeokelokaaT
namespace Go.Proofs.Ytfaeieeokelokaa.diskMissing
open Go.ChangeShapes Go.WideShapes Go.ChangeAt Go.RowKit
open Go.ChangeMaps (open_string shut_string)
set_option linter.unusedVariables false

theorem own : ownKnob Try.prog.godebug = none := by kernel_rfl
theorem laidOut : laidOutB Try.prog = true := by kernel_rfl

set_option linter.unusedSimpArgs false
/-- an array of two disks on which disk 0 alone was written -/
structure Inv (k : Dk) (n : Nat) : Prop where
  down : k.down = false
  fuse : k.fuse = 0
  ul : k.U.length = 2
  l0 : (gu k.U 0).now.length = 4
  l1 : (gu k.U 1).now.length = 3
  m0 : (gu k.U 0).mis = false
  m1 : (gu k.U 1).mis = false
  F0 : ∀ w ∈ k.F, w.d = 0
  fl : k.F.length ≤ n
  w0 : 0 ≤ k.wr
  w1 : k.wr ≤ n
theorem Inv.bnd {k : Dk} {n : Nat} (h : Inv k n) (hn : n ≤ 1000) : Bnd k (2 ^ 32) := ⟨by rw [h.fuse]; omega, by rw [h.fuse]; omega, by have := h.fl; omega, h.w0, by have := h.w1; omega⟩
theorem hs_of {k : Dk} {d t : Nat} (h1 : d < k.U.length) (h2 : t < (gu k.U d).now.length) : hs k (d : Int) (t : Int) = true := hs_iff.2 ⟨d, t, rfl, rfl, h1, h2⟩
theorem chk3_zero {k : Dk} {d t : Nat} (h0 : k.down = false) (h1 : d < k.U.length) (h2 : t < (gu k.U d).now.length) (h3 : (gu k.U d).mis = false) : chk3 k (d : Int) (t : Int) = 0 := by
  unfold chk3; rw [h0, hs_of h1 h2, show ((d : Int)).toNat = d from rfl, h3]; rfl
theorem chk3_six {k : Dk} {d t : Nat} (h0 : k.down = false) (h1 : d < k.U.length) (h2 : t < (gu k.U d).now.length) (h3 : (gu k.U d).mis = true) : chk3 k (d : Int) (t : Int) = 6 := by
  unfold chk3; rw [h0, hs_of h1 h2, show ((d : Int)).toNat = d from rfl, h3]; rfl
theorem chk4_six {k : Dk} {d t : Nat} (h0 : k.down = false) (h1 : d < k.U.length) (h2 : t < (gu k.U d).now.length) (h3 : (gu k.U d).mis = true) : chk4 k (d : Int) (t : Int) = 6 := by
  unfold chk4; rw [h0, hs_of h1 h2, show ((d : Int)).toNat = d from rfl, h3]; rfl
theorem wrK_no {k : Dk} {d t v : Int} (h : chk3 k d t ≠ 0) : wrK k d t v = k ∧ wrE k d t = chk3 k d t := by
  unfold wrK wrE; rw [if_neg h, if_neg h]; exact ⟨rfl, rfl⟩
theorem flK_no {k : Dk} {d : Int} (h : chk3 k d 0 ≠ 0) : flK k d = k := by unfold flK; rw [if_neg h]
/-- a write that succeeds, with no fuse set -/
theorem wr_yes {k : Dk} {d t : Nat} {v : Int} (h : chk3 k (d : Int) (t : Int) = 0) (hf : k.fuse = 0) : wrE k (d : Int) (t : Int) = 0 ∧ wrK k (d : Int) (t : Int) v = wrote k d t v := by
  unfold wrK wrE
  rw [if_pos h, if_pos h, hf, if_neg (by decide), if_neg (by decide)]
  refine ⟨rfl, ?_⟩
  rw [if_neg (by decide)]
  obtain ⟨U, bad, F, fuse, down, wr⟩ := k
  simp only at hf
  subst hf
  rfl
theorem fl_yes {k : Dk} {d : Nat} (h : chk3 k (d : Int) 0 = 0) : flK k (d : Int) = { k with U := stU d true k.U k.F, F := stF k.F d } := by unfold flK; rw [if_pos h]; rfl
theorem Inv.wr' {k : Dk} {n : Nat} (h : Inv k n) {t : Nat} (ht : t < 4) (v : Int) : chk3 k ((0 : Nat) : Int) (t : Int) = 0 ∧ Inv (wrote k 0 t v) (n + 1) := by
  refine ⟨chk3_zero h.down (by rw [h.ul]; omega) (by rw [h.l0]; exact ht) h.m0, ?_⟩
  have e0 : gu (wrote k 0 t v).U 0 = { gu k.U 0 with now := (gu k.U 0).now.set t v } := by show gu (k.U.set 0 _) 0 = _; rw [gu_set, if_pos ⟨rfl, by rw [h.ul]; omega⟩]
  have e1 : gu (wrote k 0 t v).U 1 = gu k.U 1 := by show gu (k.U.set 0 _) 1 = _; rw [gu_set, if_neg (by omega)]
  exact {
    down := h.down
    fuse := h.fuse
    ul := by show (k.U.set 0 _).length = 2; rw [List.length_set]; exact h.ul
    l0 := by rw [e0]; simpa using h.l0
    l1 := by rw [e1]; exact h.l1
    m0 := by rw [e0]; exact h.m0
    m1 := by rw [e1]; exact h.m1
    F0 := fun w hw => by
      rcases List.mem_append.1 (show w ∈ k.F ++ [(⟨0, t, v⟩ : Wr)] from hw) with hw | hw
      · exact h.F0 w hw
      · rw [List.mem_singleton.1 hw]
    fl := by show (k.F ++ [_]).length ≤ n + 1; have := h.fl; simp; exact this
    w0 := by show 0 ≤ k.wr + 1; have := h.w0; omega
    w1 := by show k.wr + 1 ≤ ((n + 1 : Nat) : Int); have := h.w1; omega }
theorem Inv.flushed {k : Dk} {n : Nat} (h : Inv k n) : chk3 k ((0 : Nat) : Int) 0 = 0 ∧ Inv (flK k ((0 : Nat) : Int)) n := by
  have hc : chk3 k ((0 : Nat) : Int) 0 = 0 := chk3_zero (t := 0) h.down (by rw [h.ul]; omega) (by rw [h.l0]; omega) h.m0
  refine ⟨hc, ?_⟩
  rw [fl_yes hc]
  have hk := stU_keep 0 true k.U k.F
  exact {
    down := h.down
    fuse := h.fuse
    ul := by show (stU 0 true k.U k.F).length = 2; rw [hk.1]; exact h.ul
    l0 := by show (gu (stU 0 true k.U k.F) 0).now.length = 4; rw [(hk.2 0).1]; exact h.l0
    l1 := by show (gu (stU 0 true k.U k.F) 1).now.length = 3; rw [(hk.2 1).1]; exact h.l1
    m0 := by show (gu (stU 0 true k.U k.F) 0).mis = false; rw [(hk.2 0).2]; exact h.m0
    m1 := by show (gu (stU 0 true k.U k.F) 1).mis = false; rw [(hk.2 1).2]; exact h.m1
    F0 := fun w hw => h.F0 w (List.mem_filter.1 hw).1
    fl := Nat.le_trans (stF_len _ _) h.fl
    w0 := h.w0
    w1 := h.w1 }
/-- disk 0 is missing -/
def ms1 (k : Dk) : Dk := { k with U := k.U.set ((0 : Nat)) { gu k.U 0 with mis := true } }
def ms2 (k : Dk) (t : Nat) : Dk := wrote (ms1 k) 1 t 9
def ms3 (k : Dk) (t : Nat) : Dk := flK (ms2 k t) ((1 : Nat) : Int)
def ms4 (k : Dk) (t : Nat) : Dk := { ms3 k t with U := (ms3 k t).U.set ((0 : Nat)) { gu (ms3 k t).U 0 with mis := false } }
theorem Inv.miss {k : Dk} {n : Nat} (h : Inv k n) (t : Nat) (ht : t < 3) :
    (chk3 (ms1 k) ((0 : Nat) : Int) ((0 : Nat) : Int) = 6 ∧ (ms1 k).fuse = 0 ∧ chk3 (ms1 k) ((1 : Nat) : Int) (t : Int) = 0 ∧ chk3 (ms2 k t) ((1 : Nat) : Int) 0 = 0) ∧
    ((∀ s, s < 4 → chk4 (ms3 k t) ((0 : Nat) : Int) ((s : Nat) : Int) = 6) ∧ (gu (ms3 k t).U 0).now = (gu k.U 0).now ∧ (ms3 k t).F = k.F ∧ (ms3 k t).U.length = 2) ∧
    (chk3 (ms4 k t) ((0 : Nat) : Int) 0 = 0 ∧ (flK (ms4 k t) ((0 : Nat) : Int)).F.length = 0 ∧ (ms4 k t).F = k.F) := by
  have hu1 : (ms1 k).U.length = 2 := by show (k.U.set 0 _).length = 2; rw [List.length_set]; exact h.ul
  have g0 : gu (ms1 k).U 0 = { gu k.U 0 with mis := true } := by show gu (k.U.set 0 _) 0 = _; rw [gu_set, if_pos ⟨rfl, by rw [h.ul]; omega⟩]
  have g1 : gu (ms1 k).U 1 = gu k.U 1 := by show gu (k.U.set 0 _) 1 = _; rw [gu_set, if_neg (by omega)]
  have hu2 : (ms2 k t).U.length = 2 := by show ((ms1 k).U.set 1 _).length = 2; rw [List.length_set]; exact hu1
  have p0 : gu (ms2 k t).U 0 = gu (ms1 k).U 0 := by show gu ((ms1 k).U.set 1 _) 0 = _; rw [gu_set, if_neg (by omega)]
  have p1 : (gu (ms2 k t).U 1).now.length = 3 ∧ (gu (ms2 k t).U 1).mis = false := by
    have : gu (ms2 k t).U 1 = { gu (ms1 k).U 1 with now := (gu (ms1 k).U 1).now.set t 9 } := by show gu ((ms1 k).U.set 1 _) 1 = _; rw [gu_set, if_pos ⟨rfl, by rw [hu1]; omega⟩]
    rw [this, g1]
    exact ⟨by simpa using h.l1, h.m1⟩
  have c2 : chk3 (ms2 k t) ((1 : Nat) : Int) 0 = 0 := chk3_zero (t := 0) h.down (by rw [hu2]; omega) (by rw [p1.1]; omega) p1.2
  have e3 : ms3 k t = { ms2 k t with U := stU 1 true (ms2 k t).U (ms2 k t).F, F := stF (ms2 k t).F 1 } := fl_yes c2
  have hk := stU_keep 1 true (ms2 k t).U (ms2 k t).F
  have hF : stF (ms2 k t).F 1 = k.F := by
    show stF (k.F ++ [⟨1, t, 9⟩]) 1 = k.F
    unfold stF
    rw [List.filter_append]
    have h1 : k.F.filter (fun w => decide (w.d ≠ 1)) = k.F := List.filter_eq_self.2 (fun w hw => by rw [h.F0 w hw]; rfl)
    rw [h1]; simp
  have hu3 : (ms3 k t).U.length = 2 := by rw [e3]; show (stU 1 true _ _).length = 2; rw [hk.1]; exact hu2
  have q0 : (gu (ms3 k t).U 0).now = (gu k.U 0).now ∧ (gu (ms3 k t).U 0).mis = true := by
    rw [e3]
    show (gu (stU 1 true _ _) 0).now = _ ∧ (gu (stU 1 true _ _) 0).mis = true
    rw [(hk.2 0).1, (hk.2 0).2, p0, g0]; exact ⟨rfl, rfl⟩
  have d3 : (ms3 k t).down = false := by rw [e3]; exact h.down
  have f3 : (ms3 k t).F = k.F := by rw [e3]; exact hF
  have r0 : gu (ms4 k t).U 0 = { gu (ms3 k t).U 0 with mis := false } := by show gu ((ms3 k t).U.set 0 _) 0 = _; rw [gu_set, if_pos ⟨rfl, by rw [hu3]; omega⟩]
  have hu4 : (ms4 k t).U.length = 2 := by show ((ms3 k t).U.set 0 _).length = 2; rw [List.length_set]; exact hu3
  have c4 : chk3 (ms4 k t) ((0 : Nat) : Int) 0 = 0 := chk3_zero (t := 0) d3 (by rw [hu4]; omega) (by rw [r0]; show 0 < (gu (ms3 k t).U 0).now.length; rw [q0.1, h.l0]; omega) (by rw [r0])
  refine ⟨⟨chk3_six h.down (by rw [hu1]; omega) (by rw [g0]; show 0 < (gu k.U 0).now.length; rw [h.l0]; omega) (by rw [g0]), h.fuse, chk3_zero h.down (by rw [hu1]; omega) (by rw [g1, h.l1]; exact ht) (by rw [g1]; exact h.m1), c2⟩,
    ⟨fun s hs => chk4_six d3 (by rw [hu3]; omega) (by rw [q0.1, h.l0]; exact hs) q0.2, q0.1, f3, hu3⟩, c4, ?_, f3⟩
  rw [fl_yes c4]
  show (stF (ms4 k t).F 0).length = 0
  rw [show (ms4 k t).F = k.F from f3]
  unfold stF
  rw [List.length_eq_zero_iff, List.filter_eq_nil_iff]
  intro w hw
  rw [h.F0 w hw]; simp
set_option maxRecDepth 100000 in
set_option maxHeartbeats 8000000 in
theorem walk {H : Type} {enc : TypeId × Value → H} {base : Nat} {d0 : DataW H} {p0 : List MemPlace} (v0 : Value) (m : Int) (W : World) (ok0 : Value.okWide Try.prog W .any base 30 v0) (k0 : DataW.Trod enc Try.prog W 0 (fun _ => true) true 30 v0 d0 p0) (w1 : (Lit.int .u8 m).wf = true) :
    Calls Try.prog 8 #[v0, .int .u8 m] W fun e w' => e = .returned (.bool true) ∧ Below W.heap.size W w' := by
  obtain ⟨a, len, cap, f, rfl, hl, hS⟩ := open_steps ok0 k0
  have hm : 0 ≤ m ∧ m < 256 := by
    simp [Lit.wf, IntKind.min, IntKind.max, IntKind.signed, IntKind.bits] at w1
    omega
  obtain ⟨hm0, hm1⟩ := hm
  have HS := hid hS
  have HFW := hid ((few_ok a len cap W).mono (R' := fun e w' => e = .returned (.bool (decide (len ≤ 24))) ∧ W = w') (fun e w' h => ⟨h.1, h.2.symm⟩))
  have hmx : Try.prog.follows .mixedOrders = true := by kernel_rfl
  clear hS ok0 k0 w1
  by_cases hfew : len ≤ 24
  · rw [decide_eq_true hfew] at HFW
    have HB0 := hid ((Below.refl W.heap.size W).alloc (Nat.le_refl _) (.cells #[.int .i64 4, .int .i64 3] 3))
    have hAr : Ar (W.alloc (.cells #[.int .i64 4, .int .i64 3] 3)) (some ⟨W.heap.size, 0, none⟩) [4, 3] := .inr ⟨W.heap.size, 0, rfl, by simp, fun i hi => by
      obtain rfl | rfl : i = 0 ∨ i = 1 := by simp at hi; omega
      · go_simp; rfl
      · go_simp; rfl⟩
    have HN := hid (own_new (some ⟨W.heap.size, 0, none⟩) 2 [4, 3] (W.alloc (.cells #[.int .i64 4, .int .i64 3] 3)) (by decide) (fun i hi => by
      obtain rfl | rfl : i = 0 ∨ i = 1 := by simp at hi; omega
      · exact ⟨by decide, by decide⟩
      · exact ⟨by decide, by decide⟩) hAr W.heap.size W HB0.out (Nat.le_refl _))
    clear hAr
    have hm3 : 0 ≤ m % 3 ∧ m % 3 < 3 := by omega
    have hm4 : 0 ≤ m % 4 ∧ m % 4 < 4 := by omega
    go_enter Try.func8, Try.ntmps8
    go_wp2_with fail
    refine HFW.out.mono ?_
    rintro e w0 ⟨rfl, rfl⟩
    go_wp2_with fail
    refine HN.out.mono ?_
    rintro e w1 ⟨A, rfl, H1⟩
    have O1 := hid H1.out.1
    clear HN HB0 H1 HFW
    go_wp2_with fail
    go_loopw [7] (fun iv wr => ∃ (i : Nat) (k : Dk), i ≤ len ∧ iv = .int .i64 (i : Int) ∧ Hid (Own W.heap.size W wr A k []) ∧ Hid (Inv k i)) (fun iv _ => len - (intOf iv).toNat)
    case atStart => exact ⟨0, nk [4, 3], by omega, rfl, O1, hid ⟨rfl, rfl, rfl, rfl, rfl, rfl, rfl, fun w hw => (by simp [nk] at hw), by simp [nk], by simp [nk], by simp [nk]⟩⟩
    case round =>
      clear O1
      obtain ⟨i, k, hi, rfl, O, HI⟩ := hrel
      by_cases hlt : i < len
      · have hlt' : (i : Int) < (len : Int) := by omega
        have hw := (HS.out.below O.out.bel)
        obtain ⟨b, o, rfl, hb, hc⟩ := hw.2.resolve_left (by omega)
        obtain ⟨x0, x1, x2, x3⟩ := hc i hlt
        have hI := hw.1 i hlt
        unfold I64 at hI
        by_cases h2 : (f i).kind = 2
        · rw [h2] at x0
          have HC := hid (HI.out.flushed)
          have HFl := hid (show k.F.length ≤ 2 ^ 32 by have := HI.out.fl; omega)
          clear hc hw hI x1 x2 x3 h2
          go_wp2_with fail
          refine (own_flush O.out ((0 : Nat) : Int) HFl.out).mono ?_
          rintro e w2 ⟨rfl, H2⟩
          have O2 := hid H2.out.1
          have HI2 := hid HC.out.2
          clear H2 HC
          go_wp2_with fail
          go_roundw
          case rel => exact ⟨i + 1, _, by omega, by go_num, O2, hid { HI2.out with fl := by have := HI2.out.fl; omega, w1 := by have := HI2.out.w1; omega }⟩
          case measure => simp [intOf]; omega
        · have h2b : ((f i).kind == 2) = false := by simpa using h2
          obtain ⟨t, ht⟩ : ∃ t : Nat, ((f i).at'.tmod 4 + 4) % 4 = (t : Int) := ⟨(((f i).at'.tmod 4 + 4) % 4).toNat, by omega⟩
          have htl : t < 4 := by omega
          generalize (f i).at' = y at *
          generalize (f i).v = z at *
          generalize (f i).kind = kd at *
          have HW := hid (HI.out.wr' htl z)
          have HWY := hid (wr_yes (v := z) HW.out.1 HI.out.fuse)
          have HBn := hid (HI.out.bnd (by omega))
          have X1 := hid x1; have X2 := hid x2
          have HT := hid ht
          clear hc hw x3 x1 x2 h2 ht
          go_wp2_with fail
          have x1 := X1.out
          have x2 := X2.out
          have hq1 := Int.lt_tmod_of_pos y (show (0 : Int) < 4 by omega)
          have hq2 := Int.tmod_lt_of_pos y (show (0 : Int) < 4 by omega)
          have q1 : IntKind.i64.wrap (y.tmod 4 + 4) = y.tmod 4 + 4 := IntWalk.i64_in _ (by omega)
          have q2 : (y.tmod 4 + 4).tmod 4 = (t : Int) := by have := HT.out; rw [Int.tmod_eq_emod_of_nonneg (by omega)]; exact this
          go_still_tail 14, (by kernel_rfl)
          repeat still_step
          change wpList _ _ _ _ _ wr.drew
          have O1 := hid (O.out.below (Below.refl _ _).drew).1
          clear q1 q2 hq1 hq2 x0 x1 x2 X1 X2 O
          generalize wr.drew = wr' at *
          go_wp2_with fail
          refine (own_write O1.out ((0 : Nat) : Int) (t : Int) z HBn.out).mono ?_
          rintro e w2 ⟨rfl, H2⟩
          have O2 := hid (show Own W.heap.size W w2 A (wrote k 0 t z) [] by have h9 := H2.out.1; rw [HWY.out.2] at h9; exact h9)
          have HI2 := hid HW.out.2
          clear H2 HW HWY HBn HT
          go_wp2_with fail
          go_roundw
          case rel => exact ⟨i + 1, _, by omega, by go_num, O2, HI2⟩
          case measure => simp [intOf]; omega
      · obtain rfl : i = len := by omega
        have hlt' : ¬ (i : Int) < (i : Int) := by omega
        have hfl := HI.out.fl
        have hu2 := HI.out.ul
        have hl0 := HI.out.l0
        obtain ⟨t, ht⟩ : ∃ t : Nat, m % 3 = (t : Int) := ⟨(m % 3).toNat, by omega⟩
        obtain ⟨s, hs⟩ : ∃ s : Nat, m % 4 = (s : Int) := ⟨(m % 4).toNat, by omega⟩
        have HM := hid (HI.out.miss t (by omega))
        have HM6 := hid (HM.out.2.1.1 s (by omega))
        have HBn := hid (HI.out.bnd (by omega))
        have HFl := hid (show k.F.length ≤ 1000 by omega)
        have HU2 := hid hu2
        have H40 := hid hl0
        clear HS HI hfl hu2 hl0
        have O0 := O
        clear O
        go_wp2_with fail
        refine (own_image O0.out 0 (by rw [HU2.out]; omega)).mono ?_
        rintro e w2 ⟨g, cg, rfl, H2⟩
        rw [H40.out]
        have R2 := hid H2.out.1
        have O2 := hid H2.out.2.1
        clear H2 O0
        go_wp2_with fail
        refine (own_unfl O2.out).mono ?_
        rintro e w3 ⟨rfl, rfl⟩
        go_wp2_with fail
        refine (own_setmis O2.out 0 true (by rw [HU2.out]; omega)).mono ?_
        rintro e w4 ⟨rfl, H4⟩
        have O4 := hid (show Own W.heap.size W w4 A (ms1 k) [g] from H4.out.1)
        have R4 := hid (R2.out.kp H4.out.2 (by simp))
        clear H4 O2 R2
        have HB4 := hid (show Bnd (ms1 k) (2 ^ 32) from HBn.out)
        go_wp2_with fail
        refine (own_write O4.out ((0 : Nat) : Int) ((0 : Nat) : Int) 5 HB4.out).mono ?_
        rintro e w5 ⟨rfl, H5⟩
        have hno := wrK_no (v := 5) (show chk3 (ms1 k) ((0 : Nat) : Int) ((0 : Nat) : Int) ≠ 0 by rw [HM.out.1.1]; decide)
        rw [hno.2, HM.out.1.1]
        have O5 := hid (show Own W.heap.size W w5 A (ms1 k) [g] by have h9 := H5.out.1; rw [hno.1] at h9; exact h9)
        have R5 := hid (R4.out.kp H5.out.2 (by simp))
        clear H5 O4 R4 hno
        go_wp2_with fail
        refine (own_flush O5.out ((0 : Nat) : Int) (show (ms1 k).F.length ≤ 2 ^ 32 by have := HFl.out; show k.F.length ≤ _; omega)).mono ?_
        rintro e w6 ⟨rfl, H6⟩
        have h60 : chk3 (ms1 k) ((0 : Nat) : Int) 0 = 6 := HM.out.1.1
        have hno := flK_no (show chk3 (ms1 k) ((0 : Nat) : Int) 0 ≠ 0 by rw [h60]; decide)
        rw [h60]
        have O6 := hid (show Own W.heap.size W w6 A (ms1 k) [g] by have h9 := H6.out.1; rw [hno] at h9; exact h9)
        have R6 := hid (R5.out.kp H6.out.2 (by simp))
        clear H6 O5 R5 hno h60
        go_wp2_with fail
        refine (own_write O6.out ((1 : Nat) : Int) (t : Int) 9 HB4.out).mono ?_
        rintro e w7 ⟨rfl, H7⟩
        have hy := wr_yes (v := 9) HM.out.1.2.2.1 HM.out.1.2.1
        rw [hy.1]
        have O7 := hid (show Own W.heap.size W w7 A (ms2 k t) [g] by have h9 := H7.out.1; rw [hy.2] at h9; exact h9)
        have R7 := hid (R6.out.kp H7.out.2 (by simp))
        clear H7 O6 R6 hy
        go_wp2_with fail
        refine (own_flush O7.out ((1 : Nat) : Int) (show (k.F ++ [_]).length ≤ 2 ^ 32 by have := HFl.out; simp; omega)).mono ?_
        rintro e w8 ⟨rfl, H8⟩
        rw [HM.out.1.2.2.2]
        have O8 := hid (show Own W.heap.size W w8 A (ms3 k t) [g] from H8.out.1)
        have R8 := hid (R7.out.kp H8.out.2 (by simp))
        clear H8 O7 R7
        go_wp2_with fail
        refine (own_read O8.out ((0 : Nat) : Int) (s : Int)).mono ?_
        rintro e w9 ⟨rfl, H9⟩
        rw [HM6.out]
        have O9 := hid H9.out.1
        have R9 := hid (R8.out.kp H9.out.2 (by simp))
        clear H9 O8 R8
        generalize rdV (ms3 k t) ((0 : Nat) : Int) (s : Int) = rr at *
        go_wp2_with fail
        refine (own_image O9.out 0 (by rw [HM.out.2.1.2.2.2]; omega)).mono ?_
        rintro e w10 ⟨g2, cg2, rfl, H10⟩
        have hnow := HM.out.2.1.2.1
        have R10b := hid (show Row w10 g2 cg2 (gu k.U 0).now by have h9 := H10.out.1; rw [hnow] at h9; exact h9)
        rw [hnow, H40.out]
        have O10 := hid H10.out.2.1
        have R10 := hid (R9.out.kp H10.out.2.2 (by simp))
        clear H10 O9 R9 hnow
        go_wp2_with fail
        have hsame := same_ok R10.out R10b.out (by rw [H40.out]; omega) (by rw [H40.out]; omega)
        rw [H40.out, decide_eq_true rfl] at hsame
        refine hsame.mono ?_
        rintro e w11 ⟨rfl, hb11⟩
        have O11 := hid (O10.out.below hb11).1
        clear hb11 hsame O10 R10 R10b
        go_wp2_with fail
        refine (own_unfl O11.out).mono ?_
        rintro e w12 ⟨rfl, rfl⟩
        rw [HM.out.2.1.2.2.1]
        go_wp2_with fail
        refine (own_setmis O11.out 0 false (by rw [HM.out.2.1.2.2.2]; omega)).mono ?_
        rintro e w13 ⟨rfl, H13⟩
        have O13 := hid (show Own W.heap.size W w13 A (ms4 k t) _ from H13.out.1)
        clear H13 O11
        go_wp2_with fail
        refine (own_flush O13.out ((0 : Nat) : Int) (show (ms4 k t).F.length ≤ 2 ^ 32 by rw [HM.out.2.2.2.2]; have := HFl.out; omega)).mono ?_
        rintro e w14 ⟨rfl, H14⟩
        rw [HM.out.2.2.1]
        have O14 := hid H14.out.1
        clear H14 O13
        go_wp2_with fail
        refine (own_unfl O14.out).mono ?_
        rintro e w15 ⟨rfl, rfl⟩
        rw [HM.out.2.2.2.1]
        go_wp2_with fail
        refine (awake_ok _).mono ?_
        rintro e w16 ⟨rfl, hb⟩
        have HBE := hid (show Below W.heap.size W w16 from O14.out.bel.trans (hb.mono O14.out.le))
        clear hb O14
        go_wp2_with fail
        go_ret
        exact ⟨rfl, HBE.out⟩
  · rw [decide_eq_false hfew] at HFW
    go_enter Try.func8, Try.ntmps8
    go_wp2_with fail
    refine HFW.out.mono ?_
    rintro e w0 ⟨rfl, rfl⟩
    go_wp2_with fail
    refine (awake_ok _).mono ?_
    rintro e w16 ⟨rfl, hb⟩
    have HBE := hid hb
    clear hb
    go_wp2_with fail
    go_ret
    exact ⟨rfl, HBE.out⟩

set_option maxRecDepth 100000 in
theorem lifted (os : Os) (started : os.Started) (H : Type) (enc : TypeId × Value → H) :
    ReturnsInHanded {} Try.checked os 8 .any (Rows.diskMissingSpec.pre6 enc Try.prog Try.f8 Rows.diskMissingRow.domain false) (Rows.diskMissingSpec.post enc Try.prog Try.f8 false true false false) := by
  refine returnsInHanded_of_change (C := Try.checked) own started (by kernel_rfl) Try.func8
    (ChangeSpec.witness6 (enc := enc) (C := Try.checked) false ⟨#[], #[.slice none 0 0, .int .u8 0], []⟩ 8 (by kernel_rfl) (by kernel_rfl) (by kernel_rfl) (by kernel_rfl)) ?_
  intro W base args ds gs before hval0 hW hcnd _
  have hval : ∀ (j : Nat) t v, Try.f8.params[j]? = some t → args[j]? = some v → Value.okWide Try.prog W .any base t v := hval0
  have hW' := hW
  obtain ⟨p, q, hA0, hV, rfl, hfz, hnd⟩ := hW
  have hA : DataW.TrodAll enc Try.prog W 0 (fun _ => true) true Try.f8.params.toList args.toList ds p := hA0
  rw [Try.params8] at hA hval
  obtain ⟨v0, vs0, d0, ds0, p0, q0, hargs, rfl, rfl, h0, r0⟩ := trodAll_cons hA
  obtain ⟨v1, vs1, d1, ds1, p1, q1, rfl, rfl, rfl, h1, r1⟩ := trodAll_cons r0
  obtain ⟨rfl, rfl, rfl⟩ := trodAll_nil r1
  obtain rfl : args = #[v0, v1] := by cases args; simp_all
  obtain ⟨rfl, rfl⟩ := trodVars_none hV
  have k0 := h0
  have lt0 : ∀ x ∈ p0, x.block < W.heap.size := by obtain ⟨m, hm⟩ := k0; exact DataW.trod_lt m _ _ _ hm
  have ok0 := hval 0 30 v0 rfl rfl
  obtain ⟨a1, rfl, rfl, rfl, w1⟩ := open_int Try.underlying5 (hval 1 5 v1 rfl rfl) h1
  clear hA0 hval0
  refine (walk v0 a1 W ok0 k0 w1).mono fun e W' ⟨he, bel⟩ => ?_
  subst he
  exact ⟨_, rfl, _, _, _, [], _, [], hW', trodAll_mk1 (shut_bool Try.underlying4 _), (trodAll_cons_mk (Below.trod laidOut (by kernel_rfl) (of_decide_eq_true (by kernel_rfl)) k0 bel lt0) (trodAll_cons_mk (shut_int Try.underlying5 w1) trodAll_mk0)), rfl, bel.frame _, fun h => by cases h⟩

theorem over : Rows.diskMissingRow.holds Try.pinned (OpenSpec.ofChange Rows.diskMissingSpec) :=
  OpenClaim.holds_of_wide 8 Try.f8 rfl rfl rfl rfl rfl rfl rfl ⟨rfl, rfl, rfl, rfl, rfl⟩ rfl rfl rfl rfl rfl (by kernel_rfl) Try.func8 (by kernel_rfl)
    (of_decide_eq_true (by kernel_rfl)) (by unfold Func.isWrapper; first | (rw [if_pos (by decide +kernel)]; kernel_rfl) | (rw [if_neg (by decide +kernel)]; exact ⟨rfl, rfl⟩))
    (fun os started H enc _ => lifted os started H enc)

theorem proved : Rows.DiskMissingSaid := over
#print axioms proved
end Go.Proofs.Ytfaeieeokelokaa.diskMissing
