/- Take of layer 3. No conditions but those of each theorem. -/
import Derived.Test.YtdcenfknjlifkaaS
import Derived.Deep.AppendLies
namespace Go.Proofs.Ytdcenfknjlifkaa
open Go.ChangeShapes Go.WideShapes Go.ChangeAt Go.RowKit
set_option linter.unusedVariables false
set_option linter.unusedSimpArgs false
attribute [local go_sem] Oper.semAt_some putAll

/-- the end of the last range -/
def le (T : List Rn) : Int := match T.getLast? with
  | none => 0
  | some r => r.1 + r.2
theorem le_snoc (T : List Rn) (r : Rn) : le (T ++ [r]) = r.1 + r.2 := by simp [le]
theorem mem_take (X : List Rn) (h : NF X) (k : Nat) (hk : k < X.length) (l' : Int) (h1 : l' ≤ (X[k]?.getD (0, 0)).2) (j : Int) :
    (Mem (X.take k) j ∨ ((X[k]?.getD (0, 0)).1 ≤ j ∧ j < (X[k]?.getD (0, 0)).1 + l')) ↔ Mem X j ∧ j < (X[k]?.getD (0, 0)).1 + l' ∨ (Mem (X.take k) j ∧ ¬ j < (X[k]?.getD (0, 0)).1 + l') := by
  have hp := List.pairwise_iff_getElem.1 h.2
  rw [List.getElem?_eq_getElem hk] at *
  simp only [Option.getD_some] at *
  constructor
  · rintro (⟨r, hr, h2, h3⟩ | ⟨h2, h3⟩)
    · by_cases e : j < X[k].1 + l'
      · exact .inl ⟨⟨r, List.mem_of_mem_take hr, h2, h3⟩, e⟩
      · exact .inr ⟨⟨r, hr, h2, h3⟩, e⟩
    · exact .inl ⟨⟨X[k], List.getElem_mem hk, h2, by omega⟩, h3⟩
  · rintro (⟨⟨r, hr, h2, h3⟩, h4⟩ | ⟨h2, _⟩)
    · obtain ⟨q, hq⟩ := List.getElem?_of_mem hr
      have hql := (List.getElem?_eq_some_iff.1 hq).1
      have e1 : X[q] = r := by rw [List.getElem?_eq_getElem hql] at hq; exact Option.some.inj hq
      rcases Nat.lt_trichotomy q k with h5 | h5 | h5
      · exact .inl ⟨r, List.mem_of_getElem? (i := q) (by rw [List.getElem?_take_of_lt h5]; exact hq), h2, h3⟩
      · subst h5
        rw [e1]
        exact .inr ⟨h2, by rw [e1] at h4; exact h4⟩
      · have := hp k q hk hql h5
        rw [e1] at this
        omega
    · exact .inl h2
theorem take_low (X : List Rn) (h : NF X) (k : Nat) (hk : k < X.length) (r : Rn) (hr : r ∈ X.take k) : r.1 + r.2 < (X[k]?.getD (0, 0)).1 := by
  obtain ⟨q, hq⟩ := List.getElem?_of_mem hr
  have hql := (List.getElem?_eq_some_iff.1 hq).1
  have hqk : q < k := by simp at hql; omega
  rw [List.getElem?_take_of_lt hqk, List.getElem?_eq_getElem (by omega : q < X.length)] at hq
  have := List.pairwise_iff_getElem.1 h.2 q k (by omega) hk hqk
  rw [Option.some.inj hq] at this
  rw [List.getElem?_eq_getElem hk]
  exact this

theorem sm_le (X : List Rn) (h : NF X) (k : Nat) (hk : k ≤ X.length) : sm (X.take k) ≤ sm X := by
  have e : X = X.take k ++ X.drop k := (List.take_append_drop k X).symm
  have h2 : ∀ l : List Rn, (∀ r ∈ l, 1 ≤ r.2) → 0 ≤ sm l := by
    intro l
    induction l with
    | nil => intro _; simp [sm]
    | cons r l ih =>
      intro hl
      have := ih (fun x hx => hl x (by simp [hx]))
      have := hl r (by simp)
      simp [sm]; omega
  have h3 := h2 (X.drop k) (fun r hr => (h.1 r (List.mem_of_mem_drop hr)).2.1)
  have h4 : sm X = sm (X.take k) + sm (X.drop k) := by rw [← sm_append, ← e]
  omega
/-- what is known on the way of Take -/
structure Tk (X : List Rn) (n : Int) (k : Nat) (m : Int) (T : List Rn) : Prop where
  nf : NF T
  m0 : 0 ≤ m
  sum : sm T = n - m
  all : 0 < m → T = X.take k
  mem : ∀ j, Mem T j ↔ Mem X j ∧ j < le T
  below : sm T ≤ sm (X.take k)
  len : T.length ≤ k
theorem tk_start (X : List Rn) (hX : NF X) (n : Int) (hn : 0 ≤ n) : Tk X n 0 n [] :=
  ⟨nf_nil, hn, by simp [sm], fun _ => rfl, fun j => ⟨fun h => absurd h (mem_nil j), fun ⟨⟨r, hr, h1, h2⟩, h3⟩ => by
    have := hX.1 r hr
    simp [le] at h3
    omega⟩, Int.le_refl _, Nat.le_refl _⟩
theorem tk_step (X : List Rn) (hX : NF X) (n : Int) (k : Nat) (hk : k < X.length) (m : Int) (hm : 0 < m) (T : List Rn) (h : Tk X n k m T) (l' : Int) (hl : l' = min (X[k]?.getD (0, 0)).2 m) :
    Tk X n (k + 1) (m - l') (T ++ [((X[k]?.getD (0, 0)).1, l')]) := by
  have hT := h.all hm
  have hin := hX.1 _ (at_mem X k hk)
  have hst := sm_take X k hk
  have hlow := take_low X hX k hk
  have htk : X.take (k + 1) = X.take k ++ [X[k]?.getD (0, 0)] := by
    rw [List.take_succ_eq_append_getElem hk, List.getElem?_eq_getElem hk]; rfl
  have hsum := h.sum
  have hbel := h.below
  have hlen := h.len
  have hmt := fun j => mem_take X hX k hk l' (by omega) j
  obtain ⟨⟨s, l⟩, hr⟩ : ∃ r : Rn, r = X[k]?.getD (0, 0) := ⟨_, rfl⟩
  rw [← hr] at hin hst hlow htk hl hmt ⊢
  simp only at *
  refine ⟨⟨fun r hr => ?_, ?_⟩, by omega, by rw [sm_append, hsum]; simp [sm]; omega, fun hm2 => ?_, fun j => ?_, by rw [sm_append, hst]; simp [sm]; omega, by simp; omega⟩
  · rcases List.mem_append.1 hr with hr | hr
    · exact h.nf.1 r hr
    · obtain rfl := List.mem_singleton.1 hr
      simp only
      omega
  · rw [List.pairwise_append]
    refine ⟨h.nf.2, List.pairwise_singleton _ _, fun a ha b hb => ?_⟩
    obtain rfl := List.mem_singleton.1 hb
    rw [hT] at ha
    exact hlow a ha
  · rw [htk, hT, show l' = l by omega]
  · rw [mem_append, mem_one, le_snoc, hT, hmt j]
    simp only
    constructor
    · rintro (h2 | ⟨⟨r, hr, h2, h3⟩, h4⟩)
      · exact h2
      · have := hlow r hr
        omega
    · exact .inl

set_option maxRecDepth 100000 in
set_option maxHeartbeats 2000000 in
theorem take_any (a : Option Addr) (len cap : Nat) (rs : List Rn) (n : Int) (hn0 : 0 ≤ n) (hn1 : n ≤ 1000000) (hbig : len ≤ 10000) (hv : ∀ r ∈ rs, Vld r) (w : World) (hR : Rg w.heap.size w a len rs) :
    Calls Try.prog 20 #[.slice a len cap, .int .i64 n] w fun e w' => ∃ (a' : Option Addr) (n' cap' : Nat) (E : Int), e = .returned (.tuple #[.slice a' n' cap', .int .i64 E]) ∧ ∃ out, NF out ∧ out.length ≤ 2 * len ∧ (∀ j, Mem out j ↔ Mem rs j) ∧ ∃ T, ((E = 0 ∧ n ≤ sm out ∧ T.length = n' ∧ NF T ∧ sm T = n ∧ T.length ≤ out.length ∧ (∀ j, Mem T j ↔ Mem out j ∧ j < le T)) ∨ (E = 12 ∧ sm out < n ∧ T = [] ∧ n' = 0)) ∧ Hid (Rg w'.heap.size w' a' n' T ∧ Below w.heap.size w w') := by
  obtain ⟨i0, hi, hz0, hz1, hz2⟩ := info_parts Try.info42
  have HI := hid hi; have HZ0 := hid hz0; have HZ1 := hid hz1; have HZ2 := hid hz2
  clear hi hz0 hz1 hz2
  have hmx : Try.prog.follows .mixedOrders = true := by kernel_rfl
  have HW := hid (norm_any a len cap rs hbig hv w hR)
  clear hR
  go_enter Try.func20, Try.ntmps20
  go_wp2_with fail
  refine HW.out.mono ?_
  rintro e w2 ⟨x, nx', cx, rfl, X, rfl, hX, ⟨hXl, hXm⟩, H2⟩
  have HX := hid H2.out.1
  have HB := hid H2.out.2
  have HNF := hid hX
  have HXm := hid hXm
  have HT0 := hid (tk_start X hX n hn0)
  clear HW H2 hX hXm
  have hn3 : ¬ n < 0 := by omega
  go_wp2_with fail
  go_loopw [1, 8, 23] (fun nv tv iv wr => ∃ (k : Nat) (m : Int) (T : List Rn), k ≤ X.length ∧ iv = .int .i64 (k : Int) ∧ nv = .int .i64 m ∧ m ≤ n ∧ Hid (Tk X n k m T) ∧ Hid (wr.ownsRow w2.heap.size 42 2 tv T.length (vr T)) ∧ Hid (Below w2.heap.size w2 wr ∧ w2.heap.size ≤ wr.heap.size)) (fun _ _ iv _ => X.length - (intOf iv).toNat)
  case atStart => exact ⟨0, n, [], by omega, rfl, rfl, by omega, HT0, hid (World.ownsRow_nil _ _ _ _), hid ⟨Below.refl _ _, Nat.le_refl _⟩⟩
  case round =>
    obtain ⟨k, m, T, hk, rfl, rfl, hmn, HT, HO, HBr⟩ := hrel
    obtain ⟨va, vc, rfl⟩ := own_slice HO.out
    have hm0 := HT.out.m0
    have hTl := HT.out.len
    by_cases hlt : k < X.length
    · have h3 : (k : Int) < (X.length : Int) := by omega
      obtain ⟨g, off, rfl, hgl, hall⟩ := HX.out.2.2.resolve_left (by omega)
      have c0 := (HBr.out.1.cell (p := ⟨g, off + k * 2, none⟩) hgl).trans (hall k hlt).1
      have c1 := (HBr.out.1.cell (p := ⟨g, off + k * 2 + 1, none⟩) hgl).trans (hall k hlt).2
      clear hall
      have hin := HNF.out.1 _ (at_mem X k hlt)
      by_cases hm : 0 < m
      · obtain ⟨l', hl'⟩ : ∃ l', l' = min (X[k]?.getD (0, 0)).2 m := ⟨_, rfl⟩
        have HT2 := hid (tk_step X HNF.out n k hlt m hm T HT.out l' hl')
        obtain ⟨⟨s, l⟩, hr⟩ : ∃ r : Rn, r = X[k]?.getD (0, 0) := ⟨_, rfl⟩
        rw [← hr] at c0 c1 hin hl' HT2
        clear hr
        simp only at c0 c1 hin hl' HT2
        obtain ⟨n1, n2, n3⟩ := hin
        have hl1 : 1 ≤ l' ∧ l' ≤ m := by omega
        obtain ⟨hl1, hl2⟩ := hl1
        have hmne : (m == 0) = false := beq_eq_false_iff_ne.2 (by omega)
        have hmne2 : ¬ m = 0 := by omega
        have hmin := hl'.symm
        obtain ⟨w5, hw5⟩ : ∃ w5, w5 = wr.alloc (.cells #[.int .i64 s, .int .i64 l'] 42) := ⟨_, rfl⟩
        have HP := Pr.new wr 42 (.int .i64 s) (.int .i64 l')
        rw [← hw5] at HP
        have hwr := HBr.out.2
        have hPlt : wr.heap.size < w5.heap.size := HP.lt
        have r5 : w5.ownsRow w2.heap.size 42 2 (.slice va T.length vc) T.length (vr T) := by rw [hw5]; exact HO.out.alloc _
        have HOlt := own_lt HO.out
        have b5 : Below w2.heap.size w2 w5 := by rw [hw5]; exact HBr.out.1.alloc HBr.out.2 _
        obtain ⟨W1, hW1⟩ : ∃ W1, W1 = w5.drew.alloc (.cells #[.int .i64 s, .int .i64 l'] 42) := ⟨_, rfl⟩
        have r1 : W1.ownsRow w2.heap.size 42 2 (.slice va T.length vc) T.length (vr T) := by rw [hW1]; exact r5.drew.alloc _
        have nn := World.news_of_block (w := W1) (cs := #[.int .i64 s, .int .i64 l']) (t := 42) (fr := (0, 0)) (B := w5.heap.size) (by rw [hW1]; exact heap_alloc_new _ _)
        have hs1 : W1.heap.size = w5.heap.size + 1 := by rw [hW1]; simp
        obtain ⟨g2, c2, W2, hrun, r2, gr2, _, _⟩ := run_append_lies (P := Try.prog) (w := W1) 22 22 w2.heap.size 42 i0 (.agg #[.int .i64 0, .int .i64 0]) 2 16 Try.underlying22 HI.out HZ0.out HZ1.out HZ2.out rfl (by decide) (.slice va T.length vc) T.length _ r1 ⟨w5.heap.size, 0, none⟩ 1 1 [.int .i64 s, .int .i64 l'] rfl nn (by simp [Value.oneCell']) (by omega) (by unfold maxLen; omega) (by omega) (by omega) _ rfl
        have g1 : w5.grownBy W1 none := by rw [hW1]; exact grown_trans (show w5.grownBy w5.drew none from ⟨rfl, rfl, rfl, Nat.le_refl _, fun _ _ _ => rfl⟩) (World.grownBy_alloc _ _ _)
        have P1 := hid (HP.kept g1 (by simp))
        have P2 := hid (P1.out.kept gr2 (fun e => by have := HOlt _ e; omega))
        have P0 := hid (show Pr w5.drew wr.heap.size 42 (.int .i64 s) (.int .i64 l') from HP)
        have HB2 := hid (show Below w2.heap.size w2 W2 ∧ w2.heap.size ≤ W2.heap.size from ⟨(b5.grown g1 (by omega) (fun k e => by cases e)).grown gr2 (by omega) (fun k e => own_base r1 k e), by have := gr2.size; omega⟩)
        have HO2 := hid (show W2.ownsRow w2.heap.size 42 2 (.slice (some ⟨g2, 0, none⟩) (T.length + 1) c2) (T ++ [(s, l')]).length (vr (T ++ [(s, l')])) by rw [vr_append, vr_one, List.length_append]; exact r2)
        have HRun := hid hrun
        have HW1 := hid hW1
        have HW5 := hid hw5
        clear hw5 hW1 hrun r1 r2 r5 b5 g1 gr2 nn hs1 HOlt HP hl' HO HBr HT
        go_wp2_with fail
        rw [← HW5.out]
        obtain ⟨Ws, w0, w1, w2'⟩ : ∃ Ws : Nat → World, Ws 0 = w5.drew ∧ Ws 1 = W1 ∧ Ws 2 = W2 := ⟨fun k => match k with | 0 => w5.drew | 1 => W1 | _ => W2, rfl, rfl, rfl⟩
        have hw1' : IntKind.i64.wrap (m - l') = m - l' := IntWalk.i64_in _ (by omega)
        have HWr := hid hw1'
        clear hw1'
        refine (wpIn_wide (n := 5)).1 ?_
        refine wpIn_region_plan_v (ro := none) (aF := ?aF) [.slice va T.length vc, .agg #[.int .i64 s, .int .i64 l'], .slice (some ⟨w5.heap.size, 0, none⟩) 1 1, .slice (some ⟨g2, 0, none⟩) (T.length + 1) c2, .int .i64 m, .pointer (some ⟨wr.heap.size, 1, none⟩), .int .i64 l', .int .i64 (m - l'), .slice (some ⟨g2, 0, none⟩) (T.length + 1) c2, .int .i64 (m - l')] ?hE [0, 4] [2, 3] [[(0, 0), (1, 1)], [(0, 0)], [(0, 1)], [(1, 2)], [(0, 0), (1, 1), (2, 2)], [(0, 0), (1, 1), (2, 2)], [(0, 0), (1, 1), (2, 2)], [(0, 0), (1, 1), (2, 2)], [(2, 2)], [(2, 2)]] Ws 46 ?hN hmx (by kernel_rfl) (by kernel_rfl) ?haF w0 ?st ?fin
        case hE =>
          go_simp
          rfl
        case hN => kernel_rfl
        case haF => kernel_rfl
        case st =>
         refine StepsP.early (m := 2) rfl rfl (.tmp 8) rfl (by rfl) (StepsP.cons rfl (step1 ?s1) (StepsP.cons rfl (step1 ?s2) (StepsP.cons rfl (step1 ?s3) (StepsP.early (m := 3) rfl rfl (.tmp 1) rfl (by rfl) (StepsP.cons rfl (any_steps rfl ?s5) (StepsP.cons rfl (step3 ?s60 ?s61 ?s62) (StepsP.cons rfl (any_steps rfl ?s7) (StepsP.cons rfl (any_steps rfl ?s8) (StepsP.cons rfl (any_steps rfl ?s9) StepsP.nil)))))))))
         case s5 =>
          intro wx
          refine StepP.of rfl ?_
          go_simp
         case s7 =>
          intro wx
          refine StepP.of rfl ?_
          have f1 := HWr.out
          go_simp
         case s8 =>
          intro wx
          refine StepP.of rfl ?_
          go_simp
         case s9 =>
          intro wx
          refine StepP.of rfl ?_
          go_simp
         case s1 =>
          rw [w0]
          refine StepP.of rfl ?_
          have f1 := P0.out.c0
          have f2 := P0.out.c1
          go_simp
         case s60 =>
          rw [w0]
          refine StepP.of rfl ?_
          have f2 := P0.out.c1
          go_simp
         case s61 =>
          rw [w1]
          refine StepP.of rfl ?_
          have f2 := P1.out.c1
          go_simp
         case s62 =>
          rw [w2']
          refine StepP.of rfl ?_
          have f2 := P2.out.c1
          go_simp
         case s2 =>
          rw [w0, w1, HW1.out]
          refine StepP.of rfl ?_
          go_simp
         case s3 =>
          rw [w1, w2']
          exact StepP.append rfl (.tmp 34) (.tmp 36) 22 rfl _ _ rfl rfl HRun.out rfl
        case fin =>
          change Exit.inBlock 1 _ Exit.normal _ (Ws 2)
          rw [w2']
          go_wp2_with fail
          go_roundw
          case rel => exact ⟨k + 1, m - l', T ++ [(s, l')], by omega, by go_num, rfl, by omega, HT2, HO2, HB2⟩
          case measure => simp [intOf]; omega
      · obtain rfl : m = 0 := by omega
        obtain ⟨⟨s, l⟩, hr⟩ : ∃ r : Rn, r = X[k]?.getD (0, 0) := ⟨_, rfl⟩
        rw [← hr] at c0 c1
        clear hr hin
        simp only at c0 c1
        have HA := hid (show Below w2.heap.size w2 (wr.alloc (.cells #[.int .i64 s, .int .i64 l] 42)) ∧ w2.heap.size ≤ (wr.alloc (.cells #[.int .i64 s, .int .i64 l] 42)).heap.size from ⟨HBr.out.1.alloc HBr.out.2 _, by have := HBr.out.2; simp; omega⟩)
        have HO1 := hid (HO.out.alloc (.cells #[.int .i64 s, .int .i64 l] 42))
        obtain ⟨a', c', ev, hRg⟩ := own_rg HO1.out (fun r hr => i64_of r (nf_vld HT.out.nf r hr))
        simp only [Value.slice.injEq, true_and] at ev
        obtain ⟨rfl, rfl⟩ := ev
        have HRg := hid hRg
        have hsum := HT.out.sum
        have hbel := HT.out.below
        have hle := sm_le X HNF.out k hk
        clear hRg HO HO1
        go_wp2_with fail
        go_ret2
        exact ⟨_, _, _, _, rfl, X, HNF.out, hXl, HXm.out, T, .inl ⟨rfl, by omega, rfl, HT.out.nf, by omega, by omega, HT.out.mem⟩, hid ⟨HRg.out, bt HB.out HA.out.1⟩⟩
    · obtain rfl : k = X.length := by omega
      have h3 : ¬ (X.length : Int) < (X.length : Int) := by omega
      obtain ⟨a', c', ev, hRg⟩ := own_rg HO.out (fun r hr => i64_of r (nf_vld HT.out.nf r hr))
      simp only [Value.slice.injEq, true_and] at ev
      obtain ⟨rfl, rfl⟩ := ev
      have HRg := hid hRg
      have hsum := HT.out.sum
      have hbel := HT.out.below
      have htk : X.take X.length = X := by simp
      rw [htk] at hbel
      clear hRg HO
      by_cases hm : 0 < m
      · have hTX := HT.out.all hm
        rw [htk] at hTX
        have hsX : sm X = n - m := by rw [← hTX]; exact hsum
        go_wp2_with fail
        go_ret2
        exact ⟨_, _, _, _, rfl, X, HNF.out, hXl, HXm.out, [], .inr ⟨rfl, by omega, rfl, rfl⟩, hid ⟨⟨rfl, fun r hr => (by cases hr), .inl rfl⟩, bt HB.out HBr.out.1⟩⟩
      · obtain rfl : m = 0 := by omega
        go_wp2_with fail
        go_ret2
        exact ⟨_, _, _, _, rfl, X, HNF.out, hXl, HXm.out, T, .inl ⟨rfl, by omega, rfl, HT.out.nf, by omega, by omega, HT.out.mem⟩, hid ⟨HRg.out, bt HB.out HBr.out.1⟩⟩
end Go.Proofs.Ytdcenfknjlifkaa
