/- Union, Minus, Meet and Normal of layer 3, and the small ranges of the statements. No conditions but those of each theorem. -/
import Derived.Test.YtgfdmeaganhpiaaL
import Derived.Deep.AppendLies
namespace Go.Proofs.Ytgfdmeaganhpiaa.Old
open Go.ChangeShapes Go.WideShapes Go.ChangeAt Go.RowKit
set_option linter.unusedVariables false
set_option linter.unusedSimpArgs false
attribute [local go_sem] Oper.semAt_some putAll

theorem and_mask (k : Nat) (hk : k < 32) (n : Int) : bits .and .i64 n ((2 ^ k - 1 : Nat) : Int) = n % ((2 ^ k : Nat) : Int) := by
  have hp : 2 ^ k ≤ 2 ^ 31 := Nat.pow_le_pow_right (by omega) (by omega)
  have hp1 : 0 < 2 ^ k := Nat.two_pow_pos k
  have hdvd : 2 ^ k ∣ 2 ^ 64 := Nat.pow_dvd_pow 2 (by omega)
  have e1 : (BitVec.ofInt 64 n &&& BitVec.ofInt 64 ((2 ^ k - 1 : Nat) : Int)).toNat = (n % ((2 ^ k : Nat) : Int)).toNat := by
    rw [BitVec.toNat_and, BitVec.toNat_ofInt, BitVec.toNat_ofInt]
    have e2 : (((2 ^ k - 1 : Nat) : Int) % ((2 ^ 64 : Nat) : Int)).toNat = 2 ^ k - 1 := by
      rw [Int.emod_eq_of_lt (by omega) (by omega)]
      simp
    rw [e2, Nat.and_two_pow_sub_one_eq_mod]
    have h0 : 0 ≤ n % ((2 ^ 64 : Nat) : Int) := Int.emod_nonneg _ (by decide)
    have e3 : (((n % ((2 ^ 64 : Nat) : Int)).toNat % 2 ^ k : Nat) : Int) = n % ((2 ^ k : Nat) : Int) := by
      rw [Int.natCast_emod, Int.toNat_of_nonneg h0]
      exact Int.emod_emod_of_dvd n (Int.natCast_dvd_natCast.2 hdvd)
    omega
  have hlo : 0 ≤ n % ((2 ^ k : Nat) : Int) := Int.emod_nonneg _ (by omega)
  have hhi : n % ((2 ^ k : Nat) : Int) < ((2 ^ k : Nat) : Int) := Int.emod_lt_of_pos _ (by omega)
  show IntKind.i64.wrap ((BitVec.ofInt 64 n &&& BitVec.ofInt 64 ((2 ^ k - 1 : Nat) : Int)).toNat : Nat) = n % ((2 ^ k : Nat) : Int)
  rw [e1, Int.toNat_of_nonneg hlo]
  exact IntWalk.i64_in _ (by omega)

theorem i64_of (r : Rn) (h : Vld r) : I64 r.1 ∧ I64 r.2 := by
  obtain ⟨h1, h2, h3⟩ := h
  unfold I64; omega
theorem nf_vld {l : List Rn} (h : NF l) : ∀ r ∈ l, Vld r := fun r hr => by
  have := h.1 r hr
  exact ⟨this.1, by omega, this.2.2⟩

/-- what a call of two sets returns -/
def Ret (w w' : World) (e : Ending) (P : List Rn → Prop) : Prop := ∃ (a' : Option Addr) (n' cap' : Nat), e = .returned (.tuple #[.slice a' n' cap', .int .i64 0]) ∧ ∃ out, out.length = n' ∧ NF out ∧ P out ∧ Hid (Rg w'.heap.size w' a' n' out ∧ Below w.heap.size w w')
theorem union_any (a b : Option Addr) (len cap len2 cap2 : Nat) (rs rs2 : List Rn) (hbig : len ≤ 10000) (hbig2 : len2 ≤ 10000) (hv : ∀ r ∈ rs, Vld r) (hv2 : ∀ r ∈ rs2, Vld r) (w : World) (hR : Rg w.heap.size w a len rs) (hR2 : Rg w.heap.size w b len2 rs2) :
    Calls Try.prog 23 #[.slice a len cap, .slice b len2 cap2] w fun e w' => Ret w w' e (fun out => out.length ≤ 2 * (len + len2) ∧ ∀ n, Mem out n ↔ (Mem rs n ∨ Mem rs2 n)) := by
  have HW := hid (walk_any 33 (fun p q => p || q) rfl (enters_of Try.func33 (by kernel_rfl) rfl) cl33 a b len cap len2 cap2 rs rs2 hbig hbig2 hv hv2 w hR hR2)
  clear hR hR2
  go_enter Try.func23, Try.ntmps23
  go_wp2_with fail
  refine HW.out.mono ?_
  rintro e w1 ⟨v1, rfl, out, h1, h2, h3, H⟩
  obtain ⟨a', c', ev, hRg⟩ := own_rg H.out.1 (fun r hr => i64_of r (nf_vld h1 r hr))
  subst ev
  go_wp2_with fail
  go_ret2
  exact ⟨_, _, _, rfl, out, rfl, h1, ⟨h2, fun n => by rw [h3]; simp⟩, hid ⟨hRg, H.out.2⟩⟩
theorem minus_any (a b : Option Addr) (len cap len2 cap2 : Nat) (rs rs2 : List Rn) (hbig : len ≤ 10000) (hbig2 : len2 ≤ 10000) (hv : ∀ r ∈ rs, Vld r) (hv2 : ∀ r ∈ rs2, Vld r) (w : World) (hR : Rg w.heap.size w a len rs) (hR2 : Rg w.heap.size w b len2 rs2) :
    Calls Try.prog 24 #[.slice a len cap, .slice b len2 cap2] w fun e w' => Ret w w' e (fun out => out.length ≤ 2 * (len + len2) ∧ ∀ n, Mem out n ↔ (Mem rs n ∧ ¬ Mem rs2 n)) := by
  have HW := hid (walk_any 34 (fun p q => p && !q) rfl (enters_of Try.func34 (by kernel_rfl) rfl) cl34 a b len cap len2 cap2 rs rs2 hbig hbig2 hv hv2 w hR hR2)
  clear hR hR2
  go_enter Try.func24, Try.ntmps24
  go_wp2_with fail
  refine HW.out.mono ?_
  rintro e w1 ⟨v1, rfl, out, h1, h2, h3, H⟩
  obtain ⟨a', c', ev, hRg⟩ := own_rg H.out.1 (fun r hr => i64_of r (nf_vld h1 r hr))
  subst ev
  go_wp2_with fail
  go_ret2
  exact ⟨_, _, _, rfl, out, rfl, h1, ⟨h2, fun n => by rw [h3]; simp⟩, hid ⟨hRg, H.out.2⟩⟩
theorem meet_any (a b : Option Addr) (len cap len2 cap2 : Nat) (rs rs2 : List Rn) (hbig : len ≤ 10000) (hbig2 : len2 ≤ 10000) (hv : ∀ r ∈ rs, Vld r) (hv2 : ∀ r ∈ rs2, Vld r) (w : World) (hR : Rg w.heap.size w a len rs) (hR2 : Rg w.heap.size w b len2 rs2) :
    Calls Try.prog 25 #[.slice a len cap, .slice b len2 cap2] w fun e w' => Ret w w' e (fun out => out.length ≤ 2 * (len + len2) ∧ ∀ n, Mem out n ↔ (Mem rs n ∧ Mem rs2 n)) := by
  have HW := hid (walk_any 35 (fun p q => p && q) rfl (enters_of Try.func35 (by kernel_rfl) rfl) cl35 a b len cap len2 cap2 rs rs2 hbig hbig2 hv hv2 w hR hR2)
  clear hR hR2
  go_enter Try.func25, Try.ntmps25
  go_wp2_with fail
  refine HW.out.mono ?_
  rintro e w1 ⟨v1, rfl, out, h1, h2, h3, H⟩
  obtain ⟨a', c', ev, hRg⟩ := own_rg H.out.1 (fun r hr => i64_of r (nf_vld h1 r hr))
  subst ev
  go_wp2_with fail
  go_ret2
  exact ⟨_, _, _, rfl, out, rfl, h1, ⟨h2, fun n => by rw [h3]; simp⟩, hid ⟨hRg, H.out.2⟩⟩
theorem norm_any (a : Option Addr) (len cap : Nat) (rs : List Rn) (hbig : len ≤ 10000) (hv : ∀ r ∈ rs, Vld r) (w : World) (hR : Rg w.heap.size w a len rs) :
    Calls Try.prog 26 #[.slice a len cap] w fun e w' => Ret w w' e (fun out => out.length ≤ 2 * len ∧ ∀ n, Mem out n ↔ Mem rs n) := by
  have HW := hid (union_any a none len cap 0 0 rs [] hbig (by omega) hv (fun r hr => by cases hr) w hR ⟨rfl, fun r hr => (by cases hr), .inl rfl⟩)
  clear hR
  go_enter Try.func26, Try.ntmps26
  go_wp2_with fail
  refine HW.out.mono ?_
  rintro e w1 ⟨a', n', c', rfl, out, h0, h1, ⟨h2, h3⟩, H⟩
  go_wp2_with fail
  go_ret2
  exact ⟨_, _, _, rfl, out, h0, h1, ⟨by omega, fun n => by rw [h3]; simp [mem_nil]⟩, H⟩

/-- the small ranges of a list -/
def tm (rs : List Rn) : List Rn := (rs.take 12).map fun r => (r.1 % 64, r.2 % 16)
theorem tm_vld (rs : List Rn) : ∀ r ∈ tm rs, 0 ≤ r.1 ∧ r.1 < 64 ∧ 0 ≤ r.2 ∧ r.2 < 16 := by
  intro r hr
  obtain ⟨x, _, rfl⟩ := List.mem_map.1 hr
  simp only
  omega
theorem tm_ok (rs : List Rn) : ∀ r ∈ tm rs, Vld r := fun r hr => by
  have := tm_vld rs r hr
  exact ⟨this.1, this.2.2.1, by omega⟩
theorem tm_length (rs : List Rn) : (tm rs).length ≤ 12 := by simp [tm]; omega
theorem tk_snoc (rs : List Rn) (k : Nat) (hk : k < rs.length) : ((rs.take (k + 1)).map fun r => (r.1 % 64, r.2 % 16)) = ((rs.take k).map fun r : Rn => (r.1 % 64, r.2 % 16)) ++ [((rs[k]?.getD (0, 0)).1 % 64, (rs[k]?.getD (0, 0)).2 % 16)] := by
  rw [List.take_succ_eq_append_getElem hk, List.getElem?_eq_getElem hk, List.map_append]; rfl

set_option maxRecDepth 100000 in
set_option maxHeartbeats 2000000 in
theorem tame_any (a : Option Addr) (len cap : Nat) (rs : List Rn) (hbig : len ≤ 9223372036854775807) (w : World) (hR : Rg w.heap.size w a len rs) :
    Calls Try.prog 12 #[.slice a len cap] w fun e w' => ∃ (a' : Option Addr) (cap' : Nat), e = .returned (.slice a' (tm rs).length cap') ∧ Hid (Rg w'.heap.size w' a' (tm rs).length (tm rs) ∧ Below w.heap.size w w') := by
  obtain ⟨i0, hi, hz0, hz1, hz2⟩ := info_parts Try.info42
  have HI := hid hi; have HZ0 := hid hz0; have HZ1 := hid hz1; have HZ2 := hid hz2
  clear hi hz0 hz1 hz2
  have HR := hid hR
  have hlr := hR.1
  clear hR
  have hmx : Try.prog.follows .mixedOrders = true := by kernel_rfl
  go_enter Try.func12, Try.ntmps12
  go_wp2_with fail
  go_loopw [3, 4] (fun ov iv wr => ∃ k : Nat, k ≤ len ∧ k ≤ 12 ∧ iv = .int .i64 (k : Int) ∧ Hid (wr.ownsRow w.heap.size 42 2 ov k (vr ((rs.take k).map fun r => (r.1 % 64, r.2 % 16)))) ∧ Hid (Below w.heap.size w wr ∧ w.heap.size ≤ wr.heap.size)) (fun _ iv _ => 12 - (intOf iv).toNat)
  case atStart => exact ⟨0, by omega, by omega, rfl, hid (World.ownsRow_nil _ _ _ _), hid ⟨Below.refl _ _, Nat.le_refl _⟩⟩
  case round =>
    obtain ⟨k, hk, hk2, rfl, HO, HB⟩ := hrel
    by_cases hlt : k < len
    · have h3 : (k : Int) < (len : Int) := by omega
      by_cases hlt2 : k < 12
      · have h4 : (k : Int) < 12 := by omega
        obtain ⟨b, off, rfl, hbl, hall⟩ := HR.out.2.2.resolve_left (by omega)
        have c0 := (HB.out.1.cell (p := ⟨b, off + k * 2, none⟩) hbl).trans (hall k hlt).1
        have c1 := (HB.out.1.cell (p := ⟨b, off + k * 2 + 1, none⟩) hbl).trans (hall k hlt).2
        clear hall
        have HSn := hid (tk_snoc rs k (by omega))
        have hi := HR.out.2.1 _ (at_mem rs k (by omega))
        obtain ⟨⟨s, l⟩, hr⟩ : ∃ r : Rn, r = rs[k]?.getD (0, 0) := ⟨_, rfl⟩
        rw [← hr] at c0 c1 hi HSn
        clear hr
        simp only at c0 c1 hi HSn
        have h63 := hid (show bits .and .i64 s 63 = s % 64 from and_mask 6 (by omega) s)
        have h15 := hid (show bits .and .i64 l 15 = l % 16 from and_mask 4 (by omega) l)
        obtain ⟨va, vc, rfl⟩ := own_slice HO.out
        obtain ⟨W1, hW1⟩ : ∃ W1, W1 = wr.drew.alloc (.cells #[.int .i64 (s % 64), .int .i64 (l % 16)] 42) := ⟨_, rfl⟩
        have r1 : W1.ownsRow w.heap.size 42 2 (.slice va k vc) k (vr ((rs.take k).map fun r => (r.1 % 64, r.2 % 16))) := by rw [hW1]; exact HO.out.drew.alloc _
        have n1 := World.news_of_block (w := W1) (cs := #[.int .i64 (s % 64), .int .i64 (l % 16)]) (t := 42) (fr := (0, 0)) (B := wr.heap.size) (by rw [hW1]; exact heap_alloc_new _ _)
        have hs1 : W1.heap.size = wr.heap.size + 1 := by rw [hW1]; simp
        have hwr := HB.out.2
        obtain ⟨g, c, W2, hrun, r2, g2, _, _⟩ := run_append_lies (P := Try.prog) (w := W1) 22 22 w.heap.size 42 i0 (.agg #[.int .i64 0, .int .i64 0]) 2 16 Try.underlying22 HI.out HZ0.out HZ1.out HZ2.out rfl (by decide) (.slice va k vc) k _ r1 ⟨wr.heap.size, 0, none⟩ 1 1 [.int .i64 (s % 64), .int .i64 (l % 16)] rfl n1 (by simp [Value.oneCell']) (by omega) (by unfold maxLen; omega) (by omega) (by omega) _ rfl
        have g1 : wr.grownBy W1 none := by rw [hW1]; exact grown_trans (show wr.grownBy wr.drew none from ⟨rfl, rfl, rfl, Nat.le_refl _, fun _ _ _ => rfl⟩) (World.grownBy_alloc _ _ _)
        have HB2 := hid (show Below w.heap.size w W2 ∧ w.heap.size ≤ W2.heap.size from ⟨(HB.out.1.grown g1 hwr (fun k e => by cases e)).grown g2 (by omega) (fun k e => own_base r1 k e), by have := g2.size; omega⟩)
        have HO2 := hid (show W2.ownsRow w.heap.size 42 2 (.slice (some ⟨g, 0, none⟩) (k + 1) c) (k + 1) (vr ((rs.take (k + 1)).map fun r => (r.1 % 64, r.2 % 16))) by rw [HSn.out, vr_append, vr_one]; exact r2)
        have HRun := hid hrun
        have HW1 := hid hW1
        clear hW1 r1 n1 r2 g1 g2 hrun hs1 HO
        have d0 : wr.drew.cell? ⟨b, off + k * 2, none⟩ = some (.int .i64 s) := c0
        have d1 : wr.drew.cell? ⟨b, off + k * 2 + 1, none⟩ = some (.int .i64 l) := c1
        have D0 := hid d0; have D1 := hid d1
        clear c0 c1 d0 d1
        go_wp2_with fail
        obtain ⟨Ws, w0, w1, w2⟩ : ∃ Ws : Nat → World, Ws 0 = wr.drew ∧ Ws 1 = W1 ∧ Ws 2 = W2 := ⟨fun k => match k with | 0 => wr.drew | 1 => W1 | _ => W2, rfl, rfl, rfl⟩
        refine (wpIn_wide (n := 5)).1 ?_
        refine wpIn_region_plan_v (ro := none) (aF := ?aF) [.slice va k vc, .slice (some ⟨b, off, none⟩) len cap, .int .i64 (k : Int), .pointer (some ⟨b, off + k * 2, none⟩), .pointer (some ⟨b, off + k * 2, none⟩), .int .i64 s, .int .i64 (s % 64), .slice (some ⟨b, off, none⟩) len cap, .int .i64 (k : Int), .pointer (some ⟨b, off + k * 2, none⟩), .pointer (some ⟨b, off + k * 2 + 1, none⟩), .int .i64 l, .int .i64 (l % 16), .agg #[.int .i64 (s % 64), .int .i64 (l % 16)], .slice (some ⟨wr.heap.size, 0, none⟩) 1 1, .slice (some ⟨g, 0, none⟩) (k + 1) c, .slice (some ⟨g, 0, none⟩) (k + 1) c] ?hE [0] [14, 15] [[(0, 0), (1, 1)], [(0, 0)], [(0, 0)], [(0, 0)], [(0, 0)], [(0, 0)], [(0, 0)], [(0, 0)], [(0, 0)], [(0, 0)], [(0, 0)], [(0, 0)], [(0, 0)], [(0, 0)], [(0, 1)], [(1, 2)], [(2, 2)]] Ws 32 ?hN hmx (by kernel_rfl) (by kernel_rfl) ?haF w0 ?st ?fin
        case hE =>
          go_simp
          rfl
        case hN => kernel_rfl
        case haF => kernel_rfl
        case st =>
         refine StepsP.early (m := 2) rfl rfl (.tmp 3) rfl (by rfl) (StepsP.cons rfl (any_steps rfl ?s1) (StepsP.cons rfl (any_steps rfl ?s2) (StepsP.cons rfl (any_steps rfl ?s3) (StepsP.cons rfl (any_steps rfl ?s4) (StepsP.cons rfl (step1 ?s5) (StepsP.cons rfl (any_steps rfl ?s6) (StepsP.cons rfl (any_steps rfl ?s7) (StepsP.cons rfl (any_steps rfl ?s8) (StepsP.cons rfl (any_steps rfl ?s9) (StepsP.cons rfl (any_steps rfl ?s10) (StepsP.cons rfl (step1 ?s11) (StepsP.cons rfl (any_steps rfl ?s12) (StepsP.cons rfl (any_steps rfl ?s13) (StepsP.cons rfl (step1 ?s14) (StepsP.cons rfl (step1 ?s15) (StepsP.cons rfl (any_steps rfl ?s16) StepsP.nil))))))))))))))))
         case s1 =>
          intro wx
          refine StepP.of rfl ?_
          have f1 := h63.out; have f2 := h15.out
          go_simp
         case s2 =>
          intro wx
          refine StepP.of rfl ?_
          have f1 := h63.out; have f2 := h15.out
          go_simp
         case s3 =>
          intro wx
          refine StepP.of rfl ?_
          have f1 := h63.out; have f2 := h15.out
          go_simp
         case s4 =>
          intro wx
          refine StepP.of rfl ?_
          have f1 := h63.out; have f2 := h15.out
          go_simp
         case s6 =>
          intro wx
          refine StepP.of rfl ?_
          have f1 := h63.out; have f2 := h15.out
          go_simp
         case s7 =>
          intro wx
          refine StepP.of rfl ?_
          have f1 := h63.out; have f2 := h15.out
          go_simp
         case s8 =>
          intro wx
          refine StepP.of rfl ?_
          have f1 := h63.out; have f2 := h15.out
          go_simp
         case s9 =>
          intro wx
          refine StepP.of rfl ?_
          have f1 := h63.out; have f2 := h15.out
          go_simp
         case s10 =>
          intro wx
          refine StepP.of rfl ?_
          have f1 := h63.out; have f2 := h15.out
          go_simp
         case s12 =>
          intro wx
          refine StepP.of rfl ?_
          have f1 := h63.out; have f2 := h15.out
          go_simp
         case s13 =>
          intro wx
          refine StepP.of rfl ?_
          have f1 := h63.out; have f2 := h15.out
          go_simp
         case s16 =>
          intro wx
          refine StepP.of rfl ?_
          have f1 := h63.out; have f2 := h15.out
          go_simp
         case s5 =>
          rw [w0]
          refine StepP.of rfl ?_
          have f1 := D0.out
          go_simp
         case s11 =>
          rw [w0]
          refine StepP.of rfl ?_
          have f1 := D1.out
          go_simp
         case s14 =>
          rw [w0, w1, HW1.out]
          refine StepP.of rfl ?_
          go_simp
         case s15 =>
          rw [w1, w2]
          exact StepP.append rfl (.tmp 15) (.tmp 29) 22 rfl _ _ rfl rfl HRun.out rfl
        case fin =>
          change Exit.inBlock 1 _ Exit.normal _ (Ws 2)
          rw [w2]
          go_wp2_with fail
          go_roundw
          case rel => exact ⟨k + 1, by omega, by omega, by go_num, HO2, HB2⟩
          case measure => simp [intOf]; omega
      · obtain rfl : k = 12 := by omega
        obtain ⟨va, vc, rfl⟩ := own_slice HO.out
        obtain ⟨a', c', ev, hRg⟩ := own_rg HO.out (fun r hr => i64_of r (tm_ok rs r hr))
        simp only [Value.slice.injEq, true_and] at ev
        obtain ⟨rfl, rfl⟩ := ev
        go_wp2_with fail
        go_ret
        have hl : (tm rs).length = 12 := by simp [tm]; omega
        rw [hl]
        first | exact ⟨_, _, rfl, hid ⟨hRg, HB.out.1⟩⟩ | exact ⟨_, ⟨_, rfl⟩, hid ⟨hRg, HB.out.1⟩⟩
    · obtain rfl : k = len := by omega
      have h3 : ¬ (k : Int) < (k : Int) := by omega
      obtain ⟨va, vc, rfl⟩ := own_slice HO.out
      have htk : (rs.take k).map (fun r => (r.1 % 64, r.2 % 16)) = tm rs := by
        unfold tm
        rw [List.take_of_length_le (by omega), List.take_of_length_le (by omega)]
      rw [htk] at HO
      obtain ⟨a', c', ev, hRg⟩ := own_rg HO.out (fun r hr => i64_of r (tm_ok rs r hr))
      simp only [Value.slice.injEq, true_and] at ev
      obtain ⟨rfl, rfl⟩ := ev
      go_wp2_with fail
      go_ret
      have hl : (tm rs).length = k := by rw [← htk]; simp; omega
      rw [hl]
      first | exact ⟨_, _, rfl, hid ⟨hRg, HB.out.1⟩⟩ | exact ⟨_, ⟨_, rfl⟩, hid ⟨hRg, HB.out.1⟩⟩
end Go.Proofs.Ytgfdmeaganhpiaa.Old
