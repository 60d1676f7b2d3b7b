/- Split of layer 2: the values of the fields. No conditions but those of each theorem. -/
import Derived.Test.YtonjaghkiaaipaaOBG
import Derived.Test.YtonjaghkiaaipaaOBP
import Derived.Deep.AppendLies
namespace Go.Proofs.Ytonjaghkiaaipaa.OldB
open Go.ChangeShapes Go.WideShapes Go.ChangeAt Go.RowKit Go.Shelf
set_option linter.unusedVariables false
set_option linter.unusedSimpArgs false
attribute [local go_sem] Oper.semAt_some putAll

/-- the value of a field -/
def fv (zs : List Int) (x j : Nat) : Nat := x / 2 ^ (sw zs j).toNat % 2 ^ (zs[j]?.getD 0).toNat
def fvl {len : Nat} (zs : List Int) (x : Nat) (l : List (Ix len)) : List Nat := l.map fun i => fv zs x i.1
theorem fv_eq (zs : List Int) (x j : Nat) (hx : x < 18446744073709551616) (h1 : 1 ≤ zs[j]?.getD 0) (h2 : zs[j]?.getD 0 ≤ 64) :
    bits .and .u64 ((x : Int) / 2 ^ (sw zs j).toNat) ((2 ^ (zs[j]?.getD 0).toNat - 1 : Nat) : Int) = (fv zs x j : Nat) := by
  have h : ((x : Int) / 2 ^ (sw zs j).toNat) = ((x / 2 ^ (sw zs j).toNat : Nat) : Int) := by rw [Int.natCast_ediv, pw]
  have hlt : x / 2 ^ (sw zs j).toNat < 18446744073709551616 := Nat.lt_of_le_of_lt (Nat.div_le_self _ _) hx
  have hm : 2 ^ (zs[j]?.getD 0).toNat - 1 < 18446744073709551616 := by
    have h3 : 2 ^ (zs[j]?.getD 0).toNat ≤ 2 ^ 64 := Nat.pow_le_pow_right (by omega) (by omega)
    have h4 := Nat.two_pow_pos (zs[j]?.getD 0).toNat
    omega
  rw [h, u64_and_nat _ _ hlt hm, Nat.and_two_pow_sub_one_eq_mod]
  rfl
theorem fv_lt (zs : List Int) (x j : Nat) (hx : x < 18446744073709551616) : fv zs x j < 18446744073709551616 :=
  Nat.lt_of_le_of_lt (Nat.mod_le _ _) (Nat.lt_of_le_of_lt (Nat.div_le_self _ _) hx)

theorem own_slice {w : World} {base e size : Nat} {v : Value} {n : Nat} {xs : List Value} (h : w.ownsRow base e size v n xs) : ∃ a cap, v = .slice a n cap := by
  rcases h.2 with ⟨hv, h0⟩ | ⟨g, cap, cur, hv, _⟩
  · exact ⟨none, 0, by rw [hv, h0]⟩
  · exact ⟨_, cap, hv⟩

set_option maxRecDepth 100000 in
set_option maxHeartbeats 2000000 in
theorem split_ok (x : Nat) (hx : x < 18446744073709551616) (a : Option Addr) (len cap : Nat) (zs : List Int) (hbig : len ≤ 100) (hz : ∀ j, j < len → fit zs j) (w : World) (hI : Wi w.heap.size w a len zs) :
    Calls Try.prog 53 #[.int .u64 (x : Int), .slice a len cap] w fun e w' => ∃ a' cap', e = .returned (.tuple #[.slice a' len cap', .int .i64 0]) ∧ Hid (w'.ownsRow (w.heap.size + 1) 38 1 (.slice a' len cap') len (vs (fvl zs x (firsts len len (Nat.le_refl _))))) ∧ Below w.heap.size w w' := by
  have HI := hid hI
  have HX := hid hx
  have HZ := hid hz
  have hbig2 : len ≤ 9223372036854775807 := by omega
  clear hI hz hx
  obtain ⟨i0, hi, hz0, hz1, hz2⟩ := info_parts Try.info38
  have HI0 := hid hi; have HZ0 := hid hz0; have HZ1 := hid hz1; have HZ2 := hid hz2
  clear hi hz0 hz1 hz2
  refine (callsIn_wide (n := 5)).1 (callsIn_of_wp_marks Try.func53 rfl trivial ?_ rfl)
  simp only [Try.ntmps53, List.size_toArray, List.length_cons, List.length_nil, Nat.reduceAdd, Nat.reduceSub, Array.replicate_succ, Array.replicate_zero, List.push_toArray, List.append_toArray, List.nil_append, List.cons_append]
  refine wpIn_wide.2 ?_
  go_wp2_with fail
  have b1 := hid (Boxed.new w 38 (.int .u64 (x : Int)))
  have hB0 := hid ((Below.refl w.heap.size w).alloc (Nat.le_refl _) (.cells #[.int .u64 (x : Int)] 38))
  have hs0 := hid (show (w.alloc (.cells #[.int .u64 (x : Int)] 38)).heap.size = w.heap.size + 1 by simp)
  generalize w.alloc (.cells #[.int .u64 (x : Int)] 38) = wC at *
  refine (chk_ok a len cap zs w.heap.size wC hbig2 (HI.out.below hB0.out) HZ.out).mono ?_
  rintro e w1 ⟨rfl, rfl⟩
  go_wp2_with fail
  rw [hs0.out]
  have c1 := hid (b1.out.alloc (.cells #[.slice none 0 0] 30))
  have c2 := hid (Boxed.new wC 30 (.slice none 0 0))
  rw [hs0.out] at c2
  have hB1 := hid (hB0.out.alloc (by rw [hs0.out]; omega) (.cells #[.slice none 0 0] 30))
  have hs1 := hid (show (wC.alloc (.cells #[.slice none 0 0] 30)).heap.size = w.heap.size + 2 by rw [World.size_alloc, hs0.out])
  clear b1 hB0 hs0
  generalize wC.alloc (.cells #[.slice none 0 0] 30) = wD at *
  refine ((callsIn_wide (n := 4)).1 (fields_in Fence.wide 4 trivial rfl a len cap _)).mono ?_
  rintro e w' ⟨rfl, rfl⟩
  go_wp2_with fail
  rw [hs1.out]
  have d1 := c1.out.alloc (.cells #[.slice a len cap] 22)
  have d2 := c2.out.alloc (.cells #[.slice a len cap] 22)
  have d5 := Boxed.new wD 22 (.slice a len cap)
  rw [hs1.out] at d5
  have hB2 := hB1.out.alloc (by rw [hs1.out]; omega) (.cells #[.slice a len cap] 22)
  have hs2 : (wD.alloc (.cells #[.slice a len cap] 22)).heap.size = w.heap.size + 3 := by rw [World.size_alloc, hs1.out]
  clear c1 c2 hB1 hs1
  generalize wD.alloc (.cells #[.slice a len cap] 22) = wS at *
  refine (wpIn_wide (n := 5)).1 ?_
  refine wpIn_rangeFunc_ownH (F := Fence.wide) (n := 5) rfl (by omega) (gf := 64) (lb := #[.pointer (some ⟨w.heap.size + 2, 0, none⟩)]) rfl trivial (enters_of Try.func64 (by kernel_rfl) rfl)
    (fields_stops Fence.wide 4 trivial rfl (by omega) (w.heap.size + 2) w.heap.size a len cap zs hbig2 HZ.out wS (by omega) (by omega) d5.cell (HI.out.below hB2)) belowK_t (belowK_b (by omega)) (Below.refl _ _) (fun _ => rfl)
    (fun pre W => (Boxed W w.heap.size 38 (.int .u64 (x : Int)) ∧ (∃ v, Boxed W (w.heap.size + 1) 30 v ∧ W.ownsRow (w.heap.size + 1) 38 1 v pre.length (vs (fvl zs x pre)) ∧ True)) ∧ Below w.heap.size w W)
    (fun _ _ _ => False)
    (OwnFrom.and (OwnFrom.and (Own.from (boxed_own _ _ _) _) (Own.from (holdsRow_own (w.heap.size + 1) (w.heap.size + 1) 30 38 1 (fun pre : List (Ix len) => pre.length) (fun pre => vs (fvl zs x pre)) (fun _ _ => True)) _)) (ownFrom_below (Nat.le_refl _) (by omega)))
    (fun _ _ _ _ _ hs _ _ => hs)
    ⟨⟨d1, _, d2, World.ownsRow_nil _ _ _ _, trivial⟩, hB2⟩
    (fun i a' W => ∃ Bx, w.heap.size + 1 < Bx ∧ Pair W Bx (sw zs i.1) (zs[i.1]?.getD 0) ∧ a' = { tmps := #[.int .u64 (x : Int), .slice a len cap, .pointer (some ⟨w.heap.size, 0, none⟩), undef, .slice none 0 0, .int .i64 0, .int .i64 0, .pointer (some ⟨w.heap.size + 1, 0, none⟩), undef, .pointer (some ⟨Bx, 0, none⟩), .slice a len cap, .int .i64 0, .int .i64 0, .bool false, undef, .slice a len cap, .func (.func 64) #[] #[.pointer (some ⟨w.heap.size + 2, 0, none⟩)], .int .i64 (i.1 : Int), .agg #[.int .i64 (sw zs i.1), .int .i64 (zs[i.1]?.getD 0)], undef, undef, undef, undef, undef, undef, undef, undef, undef, undef, undef], defers := [] })
    (fun i a' _ X Y row hs hg hr => by obtain ⟨Bx, h1, h2, h3⟩ := hs; exact ⟨Bx, h1, pair_own Bx _ _ () X Y row h2 hg (fun r e => (hr r e).2), h3⟩)
    ?assign ?body ?done ?stop
  case assign =>
    rintro l pre i W K ⟨⟨e1, v, e2, e3, _⟩, eB⟩ hK
    have es := e2.lt
    have HN : W.ownsRow (w.heap.size + 1) 38 1 v pre.length (vs (fvl zs x pre)) := e3
    gi_wp2
    refine hK _ _ ((KeepsOthers.alloc _ _).from _) ((Below.refl _ W).alloc eB.size _) ⟨⟨e1.alloc _, v, e2.alloc _, HN.alloc _, trivial⟩, eB.alloc eB.size _⟩ ⟨W.heap.size, es, World.alloc_heap_new W _, rfl⟩
  case body =>
    rintro l pre i a' W hl ⟨r, hr⟩ ⟨⟨e1, v, e2, e3, _⟩, eB⟩ ⟨Bx, hBx, eX, rfl⟩ hlt
    have hx2 := i.2
    have hfit := HZ.out i.1 hx2
    unfold fit at hfit
    obtain ⟨f1, f2⟩ := hfit
    obtain ⟨s1, s2⟩ := sw_bd zs i.1 (fun j hj => HZ.out j (by omega))
    have hmx : Try.prog.follows .mixedOrders = true := by kernel_rfl
    obtain ⟨va, vc, rfl⟩ := own_slice e3
    have HE3 := hid e3
    have HM := hid (mask_is (sw zs i.1) (zs[i.1]?.getD 0) f1 (by omega))
    have HV := hid (fv_eq zs x i.1 HX.out f1 (by omega))
    have hpl : pre.length ≤ 100 := by omega
    clear e3
    -- the worlds of the plan
    obtain ⟨W1, hW1⟩ : ∃ W1, W1 = W.drew.alloc (.cells #[.int .i64 (sw zs i.1), .int .i64 (zs[i.1]?.getD 0)] 87) := ⟨_, rfl⟩
    obtain ⟨W2, hW2⟩ : ∃ W2, W2 = W1.alloc (.cells #[.int .u64 (fv zs x i.1 : Nat)] 38) := ⟨_, rfl⟩
    have r0 : W.drew.ownsRow (w.heap.size + 1) 38 1 (.slice va pre.length vc) pre.length (vs (fvl zs x pre)) := HE3.out.drew
    have r1 : W1.ownsRow (w.heap.size + 1) 38 1 (.slice va pre.length vc) pre.length (vs (fvl zs x pre)) := by rw [hW1]; exact r0.alloc _
    have r2 : W2.ownsRow (w.heap.size + 1) 38 1 (.slice va pre.length vc) pre.length (vs (fvl zs x pre)) := by rw [hW2]; exact r1.alloc _
    have hs1 : W1.heap.size = W.heap.size + 1 := by rw [hW1]; simp
    have hs2 : W2.heap.size = W.heap.size + 2 := by rw [hW2]; simp [hs1]
    have n2 := World.news_of_block (w := W2) (cs := #[.int .u64 (fv zs x i.1 : Nat)]) (t := 38) (fr := (0, 0)) (B := W1.heap.size) (by rw [hW2]; exact heap_alloc_new _ _)
    have hsz := eB.size
    have HW2 := hid hW2
    obtain ⟨g3, cp3, W3, hrun, r3, hg3, _, _⟩ := run_append_lies (P := Try.prog) (w := W2) 30 30 (w.heap.size + 1) 38 i0 (.int .u64 0) 1 8 Try.underlying30 HI0.out HZ0.out HZ1.out HZ2.out rfl (by decide) (.slice va pre.length vc) pre.length (vs (fvl zs x pre)) r2 ⟨W1.heap.size, 0, none⟩ 1 1 [.int .u64 (fv zs x i.1 : Nat)] rfl n2 (by simp [Value.oneCell']) (by omega) (by unfold maxLen; omega) (by omega) (by omega) _ rfl
    have k0 : Boxed W.drew (w.heap.size + 1) 30 (.slice va pre.length vc) := e2
    have k1 : Boxed W1 (w.heap.size + 1) 30 (.slice va pre.length vc) := by rw [hW1]; exact k0.alloc _
    have k2 : Boxed W2 (w.heap.size + 1) 30 (.slice va pre.length vc) := by rw [hW2]; exact k1.alloc _
    obtain ⟨k3, k4, k5, k6, k7⟩ := k1.appended (by decide) r1 (by omega) (by omega) r3 (by rw [← HW2.out]; exact hg3)
    have j0 : Boxed W.drew w.heap.size 38 (.int .u64 (x : Int)) := e1
    have j1 : Boxed W1 w.heap.size 38 (.int .u64 (x : Int)) := by rw [hW1]; exact j0.alloc _
    have j2 : Boxed W2 w.heap.size 38 (.int .u64 (x : Int)) := by rw [hW2]; exact j1.alloc _
    have J3 := hid (j2.kept hg3 (fun e => by have := own_base r2 _ e.symm; omega))
    clear j2
    have p0 : Pair W.drew Bx (sw zs i.1) (zs[i.1]?.getD 0) := eX
    have p1 : Pair W1 Bx (sw zs i.1) (zs[i.1]?.getD 0) := by rw [hW1]; exact p0.alloc _
    have P0 := hid p0; have P1 := hid p1; have J0 := hid j0; have J1 := hid j1; have K0 := hid k0; have K1 := hid k1; have K2 := hid k2; have K3 := hid k3
    have HM1 := hid ((HM.out W.drew).mono (R' := fun e w' => e = .returned (.int .u64 ((2 ^ (zs[i.1]?.getD 0).toNat - 1 : Nat) : Int)) ∧ w' = W1) (fun e w' ⟨h1, h2⟩ => ⟨h1, h2.trans hW1.symm⟩))
    have HRUN := hid hrun
    have HS1 := hid hs1
    have HW1 := hid hW1
    clear hrun hg3 n2 r0 r1 r2 r3 k0 k1 k2 k3 j0 j1 p0 p1 hW1 hW2 hs1 hs2
    have hx3 : (0 : Int) ≤ sw zs i.1 := s1
    gi_wp2
    obtain ⟨Ws, w0, w1, w2, w3, w4⟩ : ∃ Ws : Nat → World, Ws 0 = W.drew ∧ Ws 1 = W1 ∧ Ws 2 = W2 ∧ Ws 3 = W3 ∧ Ws 4 = W3.setCell ⟨w.heap.size + 1, 0, none⟩ (.slice (some ⟨g3, 0, none⟩) (pre.length + 1) cp3) := ⟨fun k => match k with | 0 => W.drew | 1 => W1 | 2 => W2 | 3 => W3 | _ => W3.setCell ⟨w.heap.size + 1, 0, none⟩ (.slice (some ⟨g3, 0, none⟩) (pre.length + 1) cp3), rfl, rfl, rfl, rfl, rfl⟩
    refine wpIn_region_plan (ro := some l) { tmps := #[.int .u64 (x : Int), .slice a len cap, .pointer (some ⟨w.heap.size, 0, none⟩), undef, .slice none 0 0, .int .i64 0, .int .i64 0, .pointer (some ⟨w.heap.size + 1, 0, none⟩), undef, .pointer (some ⟨Bx, 0, none⟩), .slice a len cap, .int .i64 0, .int .i64 0, .bool false, undef, .slice a len cap, .func (.func 64) #[] #[.pointer (some ⟨w.heap.size + 2, 0, none⟩)], .int .i64 (i.1 : Int), .agg #[.int .i64 (sw zs i.1), .int .i64 (zs[i.1]?.getD 0)], .slice va pre.length vc, .int .u64 (x : Int), .pointer (some ⟨Bx, 0, none⟩), .int .i64 (sw zs i.1), .int .u64 ((x : Int) / 2 ^ (sw zs i.1).toNat), .agg #[.int .i64 (sw zs i.1), .int .i64 (zs[i.1]?.getD 0)], .int .u64 ((2 ^ (zs[i.1]?.getD 0).toNat - 1 : Nat) : Int), .int .u64 (fv zs x i.1 : Nat), .slice (some ⟨W1.heap.size, 0, none⟩) 1 1, .slice (some ⟨g3, 0, none⟩) (pre.length + 1) cp3, undef], defers := [] }
      [] [6, 8, 9, 10] [[(0, 0), (1, 1), (2, 2)], [(0, 0), (1, 1)], [(0, 0), (1, 1)], [(0, 0), (1, 1)], [(0, 0), (1, 1)], [(0, 0)], [(0, 1)], [(1, 1)], [(1, 2)], [(2, 3)], [(3, 4)]]
      Ws 30 rfl hmx (by kernel_rfl) (by kernel_rfl) (by kernel_rfl) w0 ?st ?fin
    case st =>
     refine StepsP.cons rfl (step3 ?s00 ?s01 ?s02) (StepsP.cons rfl (step2 ?s10 ?s11) (StepsP.cons rfl (step2 ?s20 ?s21) (StepsP.cons rfl (step2 ?s30 ?s31) (StepsP.cons rfl (step2 ?s40 ?s41) (StepsP.cons rfl (step1 ?s50) (StepsP.cons rfl (step1 ?s60) (StepsP.cons rfl (step1 ?s70) (StepsP.cons rfl (step1 ?s80) (StepsP.cons rfl (step1 ?s90) (StepsP.cons rfl (step1 ?sa0) StepsP.nil))))))))))
     case s00 =>
      rw [w0]
      refine StepP.of rfl ?_
      have c := K0.out.cell
      go_simp
     case s01 =>
      rw [w1]
      refine StepP.of rfl ?_
      have c := K1.out.cell
      go_simp
     case s02 =>
      rw [w2]
      refine StepP.of rfl ?_
      have c := K2.out.cell
      go_simp
     case s10 =>
      rw [w0]
      refine StepP.of rfl ?_
      have c := J0.out.cell
      go_simp
     case s11 =>
      rw [w1]
      refine StepP.of rfl ?_
      have c := J1.out.cell
      go_simp
     case s20 =>
      rw [w0]
      refine StepP.of rfl ?_
      go_simp
     case s21 =>
      rw [w1]
      refine StepP.of rfl ?_
      go_simp
     case s30 =>
      rw [w0]
      refine StepP.of rfl ?_
      have c := P0.out.c0
      go_simp
     case s31 =>
      rw [w1]
      refine StepP.of rfl ?_
      have c := P1.out.c0
      go_simp
     case s40 =>
      rw [w0]
      refine StepP.of rfl ?_
      go_simp
     case s41 =>
      rw [w1]
      refine StepP.of rfl ?_
      go_simp
     case s50 =>
      rw [w0]
      refine StepP.of rfl ?_
      have c := P0.out.c0
      have d := P0.out.c1
      go_simp
     case s60 =>
      rw [w0, w1]
      refine StepP.of rfl ?_
      go_simp
      refine HM1.out.mono ?_
      rintro e w' ⟨rfl, rfl⟩
      exact ⟨rfl, rfl⟩
     case s70 =>
      rw [w1]
      refine StepP.of rfl ?_
      have hv := HV.out
      go_simp
     case s80 =>
      rw [w1, w2, HW2.out]
      refine StepP.of rfl ?_
      go_simp
     case s90 =>
      rw [w2, w3]
      exact StepP.append rfl (.tmp 19) (.tmp 27) 30 rfl _ _ rfl rfl HRUN.out rfl
     case sa0 =>
      rw [w3, w4]
      refine StepP.of rfl ?_
      have c := K3.out.cell
      have d := K3.out.frozen
      go_simp
    case fin =>
      have hsn : fvl zs x (pre ++ [i]) = fvl zs x pre ++ [fv zs x i.1] := by simp [fvl]
      have KW : KeepsFrom wS.heap.size W W1 := by rw [HW1.out]; exact (after_mask1 W _).from _
      have BW : Below w.heap.size W W1 := by rw [HW1.out]; exact after_mask2 _ W _ hsz
      have q1 := J3.out.other (B' := w.heap.size + 1) (by omega) (.slice (some ⟨g3, 0, none⟩) (pre.length + 1) cp3)
      have k8 := k7.mono (Nat.le_succ w.heap.size)
      change Exit.inBlock 1 _ Exit.normal _ (Ws 4)
      rw [w4]
      gi_wp2
      refine ⟨KW.trans (k6.from _), BW.trans k8, ⟨q1, _, k4, ?_, trivial⟩, eB.trans (BW.trans k8)⟩
      rw [hsn]
      simpa [vs] using k5
  case done =>
    rintro D ys W hD rfl ⟨⟨e1, v, e2, e3, _⟩, eB⟩ hK
    obtain ⟨va, vc, rfl⟩ := own_slice e3
    have HE3 := hid e3
    have HK := hid hK
    have c2 := e2.cell
    have HLEN := hid (firsts_length len len (Nat.le_refl _))
    rw [HLEN.out] at c2 HE3
    clear e3 hK
    go_wp2_with fail
    refine ⟨by simp, .inl ⟨_, _, rfl, run_takeDeferred HK.out, ?_⟩⟩
    have hr := ownsRow_putObj HE3.out (.deferred none) HK.out rfl
    refine ⟨.tuple #[.slice va len vc, .int .i64 0], ?_, _, _, rfl, hid hr, eB.trans (belowK_b (w := w) (Nat.le_refl _) _ D _ _ (by omega) HK.out rfl rfl)⟩
    simp [results, Try.f53, go_sem]
  case stop =>
    rintro D c pre W hD _ h hK
    exact h.elim
end Go.Proofs.Ytonjaghkiaaipaa.OldB
