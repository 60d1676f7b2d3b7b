/- For all lists of requests and both values of 'all': DiskKeeps returns true. No condition. -/
import Derived.Test.YtfaeieeokelokaaRows
import Derived.WalkKit
import Derived.ProofKit
import Derived.OpenShut
import Derived.ShutString
import Derived.ChangeOld
import Derived.Below
import Derived.Carry
import Derived.Test.YtfaeieeokelokaaT
import Derived.Test.YtfaeieeokelokaaZ
import Derived.Test.YtfaeieeokelokaaZ
import Derived.Test.YtfaeieeokelokaaT
namespace Go.Proofs.Ytfaeieeokelokaa.diskKeeps
open Go.ChangeShapes Go.WideShapes Go.ChangeAt Go.RowKit
open Go.ChangeMaps (open_string shut_string)
set_option linter.unusedVariables false

theorem own : ownKnob Try.prog.godebug = none := by kernel_rfl
theorem laidOut : laidOutB Try.prog = true := by kernel_rfl

set_option linter.unusedSimpArgs false
/-- one disk of six sectors: what it reads is what is durable, with the unflushed writes laid over it -/
structure Ks (k : Dk) (n : Nat) : Prop where
  down : k.down = false
  fuse : k.fuse = 0
  ul : k.U.length = 1
  l0 : (gu k.U 0).now.length = 6
  d0 : (gu k.U 0).dur.length = 6
  m0 : (gu k.U 0).mis = false
  F0 : ∀ w ∈ k.F, w.d = 0
  fl : k.F.length ≤ n
  w0 : 0 ≤ k.wr
  w1 : k.wr ≤ n
  ap : (gu k.U 0).now = ap k.F (gu k.U 0).dur
theorem Ks.bnd {k : Dk} {n : Nat} (h : Ks k n) (hn : n ≤ 1000) : Bnd k (2 ^ 32) := ⟨by rw [h.fuse]; omega, by rw [h.fuse]; omega, by have := h.fl; omega, h.w0, by have := h.w1; omega⟩
theorem hs_of {k : Dk} {d t : Nat} (h1 : d < k.U.length) (h2 : t < (gu k.U d).now.length) : hs k (d : Int) (t : Int) = true := hs_iff.2 ⟨d, t, rfl, rfl, h1, h2⟩
theorem chk3_zero {k : Dk} {d t : Nat} (h0 : k.down = false) (h1 : d < k.U.length) (h2 : t < (gu k.U d).now.length) (h3 : (gu k.U d).mis = false) : chk3 k (d : Int) (t : Int) = 0 := by
  unfold chk3; rw [h0, hs_of h1 h2, show ((d : Int)).toNat = d from rfl, h3]; rfl
theorem wr_yes {k : Dk} {d t : Nat} {v : Int} (h : chk3 k (d : Int) (t : Int) = 0) (hf : k.fuse = 0) : wrE k (d : Int) (t : Int) = 0 ∧ wrK k (d : Int) (t : Int) v = wrote k d t v := by
  unfold wrK wrE
  rw [if_pos h, if_pos h, hf, if_neg (by decide), if_neg (by decide)]
  refine ⟨rfl, ?_⟩
  rw [if_neg (by decide)]
  obtain ⟨U, bad, F, fuse, down, wr⟩ := k
  simp only at hf
  subst hf
  rfl
theorem fl_yes {k : Dk} {d : Nat} (h : chk3 k (d : Int) 0 = 0) : flK k (d : Int) = { k with U := stU d true k.U k.F, F := stF k.F d } := by unfold flK; rw [if_pos h]; rfl
theorem Ks.wr' {k : Dk} {n : Nat} (h : Ks k n) {t : Nat} (ht : t < 6) (v : Int) : wrE k ((0 : Nat) : Int) (t : Int) = 0 ∧ wrK k ((0 : Nat) : Int) (t : Int) v = wrote k 0 t v ∧ Ks (wrote k 0 t v) (n + 1) ∧ (gu (wrote k 0 t v).U 0).now = (gu k.U 0).now.set t v ∧ (gu (wrote k 0 t v).U 0).dur = (gu k.U 0).dur := by
  have hc : chk3 k ((0 : Nat) : Int) (t : Int) = 0 := chk3_zero h.down (by rw [h.ul]; omega) (by rw [h.l0]; exact ht) h.m0
  have e0 : gu (wrote k 0 t v).U 0 = { gu k.U 0 with now := (gu k.U 0).now.set t v } := by show gu (k.U.set 0 _) 0 = _; rw [gu_set, if_pos ⟨rfl, by rw [h.ul]; omega⟩]
  refine ⟨(wr_yes (v := v) hc h.fuse).1, (wr_yes hc h.fuse).2, ?_, by rw [e0], by rw [e0]⟩
  exact {
    down := h.down
    fuse := h.fuse
    ul := by show (k.U.set 0 _).length = 1; rw [List.length_set]; exact h.ul
    l0 := by rw [e0]; simpa using h.l0
    d0 := by rw [e0]; exact h.d0
    m0 := by rw [e0]; exact h.m0
    F0 := fun w hw => by
      rcases List.mem_append.1 (show w ∈ k.F ++ [(⟨0, t, v⟩ : Wr)] from hw) with hw | hw
      · exact h.F0 w hw
      · rw [List.mem_singleton.1 hw]
    fl := by show (k.F ++ [_]).length ≤ n + 1; have := h.fl; simp; exact this
    w0 := by show 0 ≤ k.wr + 1; have := h.w0; omega
    w1 := by show k.wr + 1 ≤ ((n + 1 : Nat) : Int); have := h.w1; omega
    ap := by
      rw [e0]
      show (gu k.U 0).now.set t v = Ytfaeieeokelokaa.ap (k.F ++ [(⟨0, t, v⟩ : Wr)]) (gu k.U 0).dur
      rw [ap_app, ← h.ap] }
theorem Ks.flushed {k : Dk} {n : Nat} (h : Ks k n) : chk3 k ((0 : Nat) : Int) 0 = 0 ∧ Ks (flK k ((0 : Nat) : Int)) (n + 1) ∧ (gu (flK k ((0 : Nat) : Int)).U 0).now = (gu k.U 0).now ∧ (gu (flK k ((0 : Nat) : Int)).U 0).dur = (gu k.U 0).now := by
  have hc : chk3 k ((0 : Nat) : Int) 0 = 0 := chk3_zero (t := 0) h.down (by rw [h.ul]; omega) (by rw [h.l0]; omega) h.m0
  rw [fl_yes hc]
  have hk := stU_keep 0 true k.U k.F
  have hd := stU_ap k.U (by rw [h.ul]; omega) k.F h.F0
  have hF : stF k.F 0 = [] := by
    unfold stF
    rw [List.filter_eq_nil_iff]
    intro w hw
    rw [h.F0 w hw]; simp
  have e1 : (gu (stU 0 true k.U k.F) 0).now = (gu k.U 0).now := (hk.2 0).1
  have e2 : (gu (stU 0 true k.U k.F) 0).dur = (gu k.U 0).now := by rw [hd, ← h.ap]
  refine ⟨hc, ?_, e1, e2⟩
  exact {
    down := h.down
    fuse := h.fuse
    ul := by show (stU 0 true k.U k.F).length = 1; rw [hk.1]; exact h.ul
    l0 := by show (gu (stU 0 true k.U k.F) 0).now.length = 6; rw [e1]; exact h.l0
    d0 := by show (gu (stU 0 true k.U k.F) 0).dur.length = 6; rw [e2]; exact h.l0
    m0 := by show (gu (stU 0 true k.U k.F) 0).mis = false; rw [(hk.2 0).2]; exact h.m0
    F0 := fun w hw => by rw [show ({ k with U := stU 0 true k.U k.F, F := stF k.F 0 } : Dk).F = [] from hF] at hw; cases hw
    fl := by rw [show ({ k with U := stU 0 true k.U k.F, F := stF k.F 0 } : Dk).F = [] from hF]; simp
    w0 := h.w0
    w1 := by show k.wr ≤ ((n + 1 : Nat) : Int); have := h.w1; omega
    ap := by
      rw [show ({ k with U := stU 0 true k.U k.F, F := stF k.F 0 } : Dk).F = [] from hF]
      show (gu (stU 0 true k.U k.F) 0).now = (gu (stU 0 true k.U k.F) 0).dur
      rw [e1, e2] }
def kpA (i : Nat) : Bool := decide (i < 192)
theorem Ks.all {k : Dk} {n : Nat} (h : Ks k n) (hn : n ≤ 100) : (gu (reK k kpA).U 0).now = (gu k.U 0).now ∧ (reK k kpA).U.length = 1 := by
  have hU : 0 < k.U.length := by rw [h.ul]; omega
  have hfl := h.fl
  have hk1 := rs1_keep k.F kpA k.U k.F.length
  have hd1 := rs1_all k.F kpA k.U hU h.F0 (fun i hi => decide_eq_true (by omega)) k.F.length (Nat.le_refl _)
  rw [List.take_length, ← h.ap] at hd1
  refine ⟨?_, ?_⟩
  · show (gu (rs2 k.F (rs1 k.F kpA k.U k.F.length) k.F.length) 0).now = _
    rw [rs2_same k.F _ (by rw [hk1.1]; exact hU) h.F0 (by rw [hd1, (hk1.2 0).1]) k.F.length (Nat.le_refl _), (hk1.2 0).1]
  · show (rs2 k.F (rs1 k.F kpA k.U k.F.length) k.F.length).length = 1
    rw [(rs2_keep _ _ _).1, hk1.1]; exact h.ul
theorem Ks.none {k : Dk} {n : Nat} (h : Ks k n) : (gu (reK k (fun _ => false)).U 0).now = (gu k.U 0).dur ∧ (reK k (fun _ => false)).U.length = 1 := by
  have hU : 0 < k.U.length := by rw [h.ul]; omega
  refine ⟨?_, ?_⟩
  · show (gu (rs2 k.F (rs1 k.F (fun _ => false) k.U k.F.length) k.F.length) 0).now = _
    rw [rs1_none]
    exact rs2_back k.F k.U hU h.F0 (by rw [h.d0, h.l0]) h.ap
  · show (rs2 k.F (rs1 k.F (fun _ => false) k.U k.F.length) k.F.length).length = 1
    rw [(rs2_keep _ _ _).1, rs1_none]; exact h.ul
theorem mk6 (w : World) : (Instr.makeSlice 36 (.int .i64 6) (.int .i64 6)).run Try.prog w = .ok (.slice (some ⟨w.heap.size, 0, none⟩) 6 6) (w.alloc (.cells (madeCells #[.int .u64 0] 6) 26)) := by
  obtain ⟨i0, hi, hz0, hz1, hz2⟩ := info_parts Try.info26
  have := run_make (P := Try.prog) w 36 26 i0 (.int .u64 0) Try.underlying36 hi hz0 .i64 .i64 6 6 (by omega) (Int.le_refl _) (by rw [hz2]; omega) (by omega)
  rw [hz1] at this
  simpa [Value.cells] using this
theorem row_made (w : World) (z : Nat) (hz : z ≤ 1000000) : Row (w.alloc (.cells (madeCells #[.int .u64 0] z) 26)) w.heap.size z (List.replicate z 0) := by
  have hv : (madeCells #[(.int .u64 0 : Value)] z).toList = vu (List.replicate z 0) := by rw [toList_madeCells_one]; simp [vu]
  have := World.ownsRow_lit (base := 0) (e := 26) (size := 1) w (madeCells #[.int .u64 0] z) z (Nat.zero_le _) (by unfold maxLen; omega) (by rw [size_madeCells]; omega)
  unfold Row
  rw [List.length_replicate, ← hv]
  exact this
set_option maxRecDepth 100000 in
set_option maxHeartbeats 8000000 in
theorem walk {H : Type} {enc : TypeId × Value → H} {base : Nat} {d0 : DataW H} {p0 : List MemPlace} (v0 : Value) (all : Bool) (W : World) (ok0 : Value.okWide Try.prog W .any base 30 v0) (k0 : DataW.Trod enc Try.prog W 0 (fun _ => true) true 30 v0 d0 p0) :
    Calls Try.prog 5 #[v0, .bool all] W fun e w' => e = .returned (.bool true) ∧ Below W.heap.size W w' := by
  obtain ⟨a, len, cap, f, rfl, hl, hS⟩ := open_steps ok0 k0
  have HS := hid hS
  have HFW := hid ((few_ok a len cap W).mono (R' := fun e w' => e = .returned (.bool (decide (len ≤ 24))) ∧ W = w') (fun e w' h => ⟨h.1, h.2.symm⟩))
  have hmx : Try.prog.follows .mixedOrders = true := by kernel_rfl
  clear hS ok0 k0
  by_cases hfew : len ≤ 24
  · rw [decide_eq_true hfew] at HFW
    have HB0 := hid ((Below.refl W.heap.size W).alloc (Nat.le_refl _) (.cells #[.int .i64 6] 3))
    have hAr : Ar (W.alloc (.cells #[.int .i64 6] 3)) (some ⟨W.heap.size, 0, none⟩) [6] := .inr ⟨W.heap.size, 0, rfl, by simp, fun i hi => by
      obtain rfl : i = 0 := by simp at hi; omega
      go_simp; rfl⟩
    have HN := hid (own_new (some ⟨W.heap.size, 0, none⟩) 1 [6] (W.alloc (.cells #[.int .i64 6] 3)) (by decide) (fun i hi => by
      obtain rfl : i = 0 := by simp at hi; omega
      exact ⟨by decide, by decide⟩) hAr W.heap.size W HB0.out (Nat.le_refl _))
    clear hAr
    go_enter Try.func5, Try.ntmps5
    go_wp2_with fail
    refine HFW.out.mono ?_
    rintro e w0 ⟨rfl, rfl⟩
    go_wp2_with fail
    refine HN.out.mono ?_
    rintro e w1 ⟨A, rfl, H1⟩
    have O1 := hid H1.out.1
    clear HN HB0 H1 HFW
    have hm6 := mk6
    have hb2 := (Below.refl w1.heap.size w1).alloc (Nat.le_refl _) (.cells (madeCells #[.int .u64 0] 6) 26)
    have o2 := O1.out.more hb2 w1.heap.size (Nat.le_refl _) (by simp)
    have hb3 := (Below.refl (w1.alloc (.cells (madeCells #[.int .u64 0] 6) 26)).heap.size (w1.alloc (.cells (madeCells #[.int .u64 0] 6) 26))).alloc (Nat.le_refl _) (.cells (madeCells #[.int .u64 0] 6) 26)
    have o3 := o2.more hb3 (w1.heap.size + 1) (by simp) (by simp)
    have r2 := (row_made w1 6 (by omega)).gr (Gr.of_below hb3 []) (by simp)
    have r3 := row_made (w1.alloc (.cells (madeCells #[.int .u64 0] 6) 26)) 6 (by omega)
    rw [World.size_alloc] at r3
    have O3 := hid o3; have R2 := hid r2; have R3 := hid r3
    clear hb2 o2 hb3 o3 r2 r3 O1
    go_wp2_with fail
    clear hm6
    generalize (w1.alloc (.cells (madeCells #[.int .u64 0] 6) 26)).alloc (.cells (madeCells #[.int .u64 0] 6) 26) = w3 at *
    generalize w1.heap.size = p at *
    go_loopw [9] (fun iv wr => ∃ (i : Nat) (k : Dk), i ≤ len ∧ iv = .int .i64 (i : Int) ∧ Hid (Own W.heap.size W wr A k [p + 1, p]) ∧ Hid (Ks k i) ∧ Hid (Row wr p 6 (gu k.U 0).dur) ∧ Hid (Row wr (p + 1) 6 (gu k.U 0).now)) (fun iv _ => len - (intOf iv).toNat)
    case atStart => exact ⟨0, nk [6], by omega, rfl, O3, hid ⟨rfl, rfl, rfl, rfl, rfl, rfl, fun w hw => (by simp [nk] at hw), by simp [nk], by simp [nk], by simp [nk], rfl⟩, R2, R3⟩
    case round =>
      clear O3 R2 R3
      obtain ⟨i, k, hi, rfl, O, HI, RP, RQ⟩ := hrel
      by_cases hlt : i < len
      · have hlt' : (i : Int) < (len : Int) := by omega
        have hw := (HS.out.below O.out.bel)
        obtain ⟨b, o, rfl, hb, hc⟩ := hw.2.resolve_left (by omega)
        obtain ⟨x0, x1, x2, x3⟩ := hc i hlt
        have hI := hw.1 i hlt
        unfold I64 at hI
        have hq1 := Int.lt_tmod_of_pos (f i).at' (show (0 : Int) < 6 by omega)
        have hq2 := Int.tmod_lt_of_pos (f i).at' (show (0 : Int) < 6 by omega)
        obtain ⟨t, ht⟩ : ∃ t : Nat, (f i).at'.tmod 6 % 6 = (t : Int) := ⟨((f i).at'.tmod 6 % 6).toNat, by omega⟩
        have htl : t < 6 := by omega
        generalize (f i).at' = y at *
        generalize (f i).v = z at *
        clear hc hw x3
        by_cases h2 : (f i).kind = 2
        · rw [h2] at x0
          have HC := hid (HI.out.flushed)
          have HFl := hid (show k.F.length ≤ 2 ^ 32 by have := HI.out.fl; omega)
          clear h2
          go_wp2_with fail
          refine (own_flush O.out ((0 : Nat) : Int) HFl.out).mono ?_
          rintro e w2 ⟨rfl, H2⟩
          rw [HC.out.1]
          have O2 := hid H2.out.1
          have RP2 := hid (RP.out.kp H2.out.2 (by simp))
          have RQ2 := hid (RQ.out.kp H2.out.2 (by simp))
          obtain ⟨w9, hrun, hR9, hg9⟩ := RP2.out.copy RQ2.out (by rw [HI.out.d0, HI.out.l0]) (by rw [HI.out.l0]; omega) 3
          rw [HI.out.l0] at hrun
          have HRUN := hid hrun
          have O9 := hid (O2.out.wrote [p] (by simp) hg9)
          have RP9 := hid (show Row w9 p 6 (gu (flK k ((0 : Nat) : Int)).U 0).dur by rw [HC.out.2.2.2]; exact hR9)
          have RQ9 := hid (show Row w9 (p + 1) 6 (gu (flK k ((0 : Nat) : Int)).U 0).now by rw [HC.out.2.2.1]; exact RQ2.out.gr hg9 (by simp))
          have HI9 := hid HC.out.2.1
          clear H2 HC O RP RQ RP2 RQ2 hrun hR9 hg9 O2
          have hrun := HRUN.out
          go_wp2_with fail
          clear hrun HRUN
          go_roundw
          case rel => exact ⟨i + 1, _, by omega, by go_num, O9, HI9, RP9, RQ9⟩
          case measure => simp [intOf]; omega
        · have h2b : ((f i).kind == 2) = false := by simpa using h2
          generalize (f i).kind = kd at *
          have HW := hid (HI.out.wr' htl z)
          have HBn := hid (HI.out.bnd (by omega))
          have HBL := hid hb
          have X0 := hid x0; have X1 := hid x1; have X2 := hid x2
          clear h2
          have HT := hid ht
          clear ht
          go_wp2_with fail
          rw [HT.out]
          refine (own_write O.out ((0 : Nat) : Int) (t : Int) z HBn.out).mono ?_
          rintro e w2 ⟨rfl, H2⟩
          rw [HW.out.1]
          have O2 := hid (show Own W.heap.size W w2 A (wrote k 0 t z) _ by have h9 := H2.out.1; rw [HW.out.2.1] at h9; exact h9)
          have RP2 := hid (show Row w2 p 6 (gu (wrote k 0 t z).U 0).dur by rw [HW.out.2.2.2.2]; exact RP.out.kp H2.out.2 (by simp))
          have RQ2 := RQ.out.kp H2.out.2 (by simp)
          have hw2 := (HS.out.below O2.out.bel)
          obtain ⟨b', o', e, hb2, hc2⟩ := hw2.2.resolve_left (by omega)
          simp only [Option.some.injEq, Addr.mk.injEq, and_true] at e
          obtain ⟨rfl, rfl⟩ := e
          have x2' := (hc2 i hlt).2.2.1
          have hz := X2.out
          have O2b := O2
          have hzz : (f i).v = z := by
            have h9 := ((HS.out.below O.out.bel).2.resolve_left (by omega))
            obtain ⟨b', o', e, _, hc9⟩ := h9
            simp only [Option.some.injEq, Addr.mk.injEq, and_true] at e
            obtain ⟨rfl, rfl⟩ := e
            have h8 := (hc9 i hlt).2.2.1
            rw [hz] at h8
            simpa using h8.symm
          rw [hzz] at x2'
          have s1 := RQ2.at t (by rw [HI.out.l0]; exact htl)
          have s2 := RQ2.frozen t
          have htI : (t : Int) < 6 := by omega
          have hg3 := set_gr w2 (p + 1) t (.int .u64 z)
          have RQ3 := hid (show Row (w2.setCell ⟨p + 1, t, none⟩ (.int .u64 z)) (p + 1) 6 (gu (wrote k 0 t z).U 0).now by rw [HW.out.2.2.2.1]; exact RQ2.set t z)
          have RP3 := hid (RP2.out.gr hg3 (by simp))
          have O3 := hid (O2.out.wrote [p + 1] (by simp) hg3)
          have HI3 := hid HW.out.2.2.1
          clear H2 HW HBn O RP RQ X0 X1 X2 x0 x1 x2 hz hzz hc2 hw2 hg3 RQ2 RP2 O2 O2b hq1 hq2 hI h2b
          have ht := HT.out
          go_wp2_with fail
          clear ht HT
          go_roundw
          case rel => exact ⟨i + 1, _, by omega, by go_num, O3, HI3, RP3, RQ3⟩
          case measure => simp [intOf]; omega
      · obtain rfl : i = len := by omega
        have hlt' : ¬ (i : Int) < (i : Int) := by omega
        have hfl := HI.out.fl
        have H60 := hid HI.out.l0
        have HFl := hid (show k.F.length ≤ 2 ^ 32 by omega)
        cases all with
        | true =>
          have HA := hid (HI.out.all (by omega))
          have HD := hid HI.out.l0
          clear HI
          go_wp2_with fail
          refine (own_keep O.out 18446744073709551615).mono ?_
          rintro e w4 ⟨g, cc, rfl, H4⟩
          have O4 := hid H4.out.2.1
          have C4 := hid (show ∀ i, i < 192 → w4.cell? ⟨g, i, none⟩ = some (.bool (kpA i)) from fun i hi => by rw [H4.out.1 i hi, kpf_all]; unfold kpA; rw [decide_eq_true hi])
          have RQ4 := hid (RQ.out.kp H4.out.2.2 (by simp))
          clear H4 O RP RQ
          go_wp2_with fail
          refine (own_restart O4.out (some ⟨g, 0, none⟩) 192 cc kpA (by omega) HFl.out (.inr ⟨g, rfl, List.mem_cons_self .., C4.out⟩) (fun i hi => by unfold kpA; exact decide_eq_false (by omega))).mono ?_
          rintro e w5 ⟨rfl, H5⟩
          have O5 := hid H5.out.1
          have RQ5 := hid (RQ4.out.kp H5.out.2 (by simp))
          have HF5 := hid (show (reK k kpA).F.length = 0 from rfl)
          clear H5 O4 C4 RQ4
          go_wp2_with fail
          refine (own_image O5.out 0 (by rw [HA.out.2]; omega)).mono ?_
          rintro e w6 ⟨g6, c6, rfl, H6⟩
          have R6 := hid (show Row w6 g6 c6 (gu k.U 0).now by have h9 := H6.out.1; rw [HA.out.1] at h9; exact h9)
          rw [HA.out.1, H60.out]
          have O6 := hid H6.out.2.1
          have RQ6 := hid (RQ5.out.kp H6.out.2.2 (by simp))
          clear H6 O5 RQ5
          go_wp2_with fail
          have hsame := same_ok R6.out RQ6.out (by rw [H60.out]; omega) (by rw [H60.out]; omega)
          rw [H60.out, decide_eq_true rfl] at hsame
          refine hsame.mono ?_
          rintro e w7 ⟨rfl, hb7⟩
          have O7 := hid (O6.out.below hb7).1
          clear hb7 hsame O6 R6 RQ6
          go_wp2_with fail
          refine (own_unfl O7.out).mono ?_
          rintro e w8 ⟨rfl, rfl⟩
          rw [HF5.out]
          go_wp2_with fail
          refine (awake_ok _).mono ?_
          rintro e w9 ⟨rfl, hb⟩
          have HBE := hid (show Below W.heap.size W w9 from O7.out.bel.trans (hb.mono O7.out.le))
          clear hb O7
          go_wp2_with fail
          go_ret
          exact ⟨rfl, HBE.out⟩
        | false =>
          have HA := hid (HI.out.none)
          have HD := hid HI.out.d0
          clear HI
          go_wp2_with fail
          refine (own_restart O.out none 0 0 (fun _ => false) (by omega) HFl.out (.inl rfl) (fun i hi => rfl)).mono ?_
          rintro e w5 ⟨rfl, H5⟩
          have O5 := hid H5.out.1
          have RQ5 := hid (RP.out.kp H5.out.2 (by simp))
          have HF5 := hid (show (reK k (fun _ => false)).F.length = 0 from rfl)
          clear H5 O RP RQ
          go_wp2_with fail
          refine (own_image O5.out 0 (by rw [HA.out.2]; omega)).mono ?_
          rintro e w6 ⟨g6, c6, rfl, H6⟩
          have R6 := hid (show Row w6 g6 c6 (gu k.U 0).dur by have h9 := H6.out.1; rw [HA.out.1] at h9; exact h9)
          rw [HA.out.1, HD.out]
          have O6 := hid H6.out.2.1
          have RQ6 := hid (RQ5.out.kp H6.out.2.2 (by simp))
          clear H6 O5 RQ5
          go_wp2_with fail
          have hsame := same_ok R6.out RQ6.out (by rw [HD.out]; omega) (by rw [HD.out]; omega)
          rw [HD.out, decide_eq_true rfl] at hsame
          refine hsame.mono ?_
          rintro e w7 ⟨rfl, hb7⟩
          have O7 := hid (O6.out.below hb7).1
          clear hb7 hsame O6 R6 RQ6
          go_wp2_with fail
          refine (own_unfl O7.out).mono ?_
          rintro e w8 ⟨rfl, rfl⟩
          rw [HF5.out]
          go_wp2_with fail
          refine (awake_ok _).mono ?_
          rintro e w9 ⟨rfl, hb⟩
          have HBE := hid (show Below W.heap.size W w9 from O7.out.bel.trans (hb.mono O7.out.le))
          clear hb O7
          go_wp2_with fail
          go_ret
          exact ⟨rfl, HBE.out⟩
  · rw [decide_eq_false hfew] at HFW
    go_enter Try.func5, Try.ntmps5
    go_wp2_with fail
    refine HFW.out.mono ?_
    rintro e w0 ⟨rfl, rfl⟩
    go_wp2_with fail
    refine (awake_ok _).mono ?_
    rintro e w16 ⟨rfl, hb⟩
    have HBE := hid hb
    clear hb
    go_wp2_with fail
    go_ret
    exact ⟨rfl, HBE.out⟩

set_option maxRecDepth 100000 in
theorem lifted (os : Os) (started : os.Started) (H : Type) (enc : TypeId × Value → H) :
    ReturnsInHanded {} Try.checked os 5 .any (Rows.diskKeepsSpec.pre6 enc Try.prog Try.f5 Rows.diskKeepsRow.domain false) (Rows.diskKeepsSpec.post enc Try.prog Try.f5 false true false false) := by
  refine returnsInHanded_of_change (C := Try.checked) own started (by kernel_rfl) Try.func5
    (ChangeSpec.witness6 (enc := enc) (C := Try.checked) false ⟨#[], #[.slice none 0 0, .bool false], []⟩ 8 (by kernel_rfl) (by kernel_rfl) (by kernel_rfl) (by kernel_rfl)) ?_
  intro W base args ds gs before hval0 hW hcnd _
  have hval : ∀ (j : Nat) t v, Try.f5.params[j]? = some t → args[j]? = some v → Value.okWide Try.prog W .any base t v := hval0
  have hW' := hW
  obtain ⟨p, q, hA0, hV, rfl, hfz, hnd⟩ := hW
  have hA : DataW.TrodAll enc Try.prog W 0 (fun _ => true) true Try.f5.params.toList args.toList ds p := hA0
  rw [Try.params5] at hA hval
  obtain ⟨v0, vs0, d0, ds0, p0, q0, hargs, rfl, rfl, h0, r0⟩ := trodAll_cons hA
  obtain ⟨v1, vs1, d1, ds1, p1, q1, rfl, rfl, rfl, h1, r1⟩ := trodAll_cons r0
  obtain ⟨rfl, rfl, rfl⟩ := trodAll_nil r1
  obtain rfl : args = #[v0, v1] := by cases args; simp_all
  obtain ⟨rfl, rfl⟩ := trodVars_none hV
  have k0 := h0
  have lt0 : ∀ x ∈ p0, x.block < W.heap.size := by obtain ⟨m, hm⟩ := k0; exact DataW.trod_lt m _ _ _ hm
  have ok0 := hval 0 30 v0 rfl rfl
  obtain ⟨a1, rfl, rfl, rfl⟩ := open_bool Try.underlying4 (hval 1 4 v1 rfl rfl) h1
  clear hA0 hval0
  refine (walk v0 a1 W ok0 k0).mono fun e W' ⟨he, bel⟩ => ?_
  subst he
  exact ⟨_, rfl, _, _, _, [], _, [], hW', trodAll_mk1 (shut_bool Try.underlying4 _), (trodAll_cons_mk (Below.trod laidOut (by kernel_rfl) (of_decide_eq_true (by kernel_rfl)) k0 bel lt0) (trodAll_cons_mk (shut_bool Try.underlying4 _) trodAll_mk0)), rfl, bel.frame _, fun h => by cases h⟩

theorem over : Rows.diskKeepsRow.holds Try.pinned (OpenSpec.ofChange Rows.diskKeepsSpec) :=
  OpenClaim.holds_of_wide 5 Try.f5 rfl rfl rfl rfl rfl rfl rfl ⟨rfl, rfl, rfl, rfl, rfl⟩ rfl rfl rfl rfl rfl (by kernel_rfl) Try.func5 (by kernel_rfl)
    (of_decide_eq_true (by kernel_rfl)) (by unfold Func.isWrapper; first | (rw [if_pos (by decide +kernel)]; kernel_rfl) | (rw [if_neg (by decide +kernel)]; exact ⟨rfl, rfl⟩))
    (fun os started H enc _ => lifted os started H enc)

theorem proved : Rows.DiskKeepsSaid := over
#print axioms proved
end Go.Proofs.Ytfaeieeokelokaa.diskKeeps
