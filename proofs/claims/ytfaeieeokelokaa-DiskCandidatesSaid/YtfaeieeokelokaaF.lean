/- The program's checkBad and first. No conditions but those of each theorem. -/
import Derived.Test.YtfaeieeokelokaaE
import Derived.Test.YtfaeieeokelokaaPV
import Derived.Shelf.Abstract
namespace Go.Proofs.Ytfaeieeokelokaa
open Go.ChangeShapes Go.WideShapes Go.ChangeAt Go.RowKit
set_option linter.unusedVariables false
set_option linter.unusedSimpArgs false
attribute [local go_sem] Oper.semAt_some putAll
theorem zero99 (w : World) : (zeroValue 99).run Try.prog w = .ok (.agg #[]) w := by kernel_rfl
theorem wf_nat (n : Nat) (h : n ≤ 65536) : (Lit.int .i64 (n : Int)).wf = true := WalkArith.wf_i64 (by omega)
theorem BM.look {W : World} {b n : Nat} {bad : Int → Int → Bool} (h : BM W b n bad) {d t : Int} (hd : (Lit.int .i64 d).wf = true) (ht : (Lit.int .i64 t).wf = true) :
    (Instr.lookup 74 (.map (some b)) (.agg #[.int .i64 d, .int .i64 t]) true).run Try.prog W = .ok (.tuple #[.agg #[], .bool (bad d t)]) W := by
  obtain ⟨D, h1, h2⟩ := h
  obtain ⟨v, ps, hrun, hv⟩ := h1.look_ok law Try.underlying74 (zero99 W) unitElem_mk (key_pk d t hd ht)
  obtain ⟨rfl, _⟩ := unitElem_inv hv
  rw [hrun, h2 d t hd ht]
set_option maxRecDepth 100000 in
set_option maxHeartbeats 4000000 in
theorem bad_ok {W : World} {A : Nat} {c : Co} {k : Dk} (h : DA W A c k) (d t : Int) (hd : (Lit.int .i64 d).wf = true) (ht : (Lit.int .i64 t).wf = true) :
    Calls Try.prog 45 #[.pointer (some ⟨A, 0, none⟩), .agg #[.int .i64 d, .int .i64 t]] W fun e W' => e = .returned (.int .i64 (if k.bad d t then 7 else 0)) ∧ Below W.heap.size W W' := by
  have c1 := h.c1
  have HL := h.lt
  have hmx : Try.prog.follows .mixedOrders = true := by kernel_rfl
  obtain ⟨V0, hV0⟩ : ∃ V0, V0 = (W.alloc (.cells #[.int .i64 d, .int .i64 t] 83)).drew := ⟨_, rfl⟩
  have hB0 : Below W.heap.size W V0 := by rw [hV0]; exact ((Below.refl _ _).alloc (Nat.le_refl _) _).drew
  have hp0 : V0.cell? ⟨W.heap.size, 0, none⟩ = some (.int .i64 d) := by rw [hV0]; go_simp
  have hp1 : V0.cell? ⟨W.heap.size, 1, none⟩ = some (.int .i64 t) := by rw [hV0]; go_simp
  have hs0 : V0.heap.size = W.heap.size + 1 := by rw [hV0]; simp
  have hA0 : V0.cell? ⟨A, 1, none⟩ = some (.map (some c.mb)) := (hB0.cell (p := ⟨A, 1, none⟩) HL).trans c1
  have hL0 := ((h.below hB0).mp).look hd ht
  have hL1 := (((h.below hB0).mp).gr (Gr.of_below ((Below.refl _ V0).alloc (Nat.le_refl _) (.cells #[] 99)) []) (by simp)).look hd ht
  have HA0 := hid hA0; have HP0 := hid hp0; have HP1 := hid hp1; have HL0 := hid hL0; have HL1 := hid hL1; have HB0 := hid hB0; have HV0 := hid hV0; have HS0 := hid hs0
  have HC1 := hid c1
  have HB := hid (show k.bad d t = k.bad d t from rfl)
  clear hA0 hp0 hp1 hL0 hL1 hB0 hV0 c1 h hs0
  generalize hbb : k.bad d t = b at *
  clear hbb HB
  go_enter Try.func45, Try.ntmps45
  go_wp2_with fail
  obtain ⟨Ws, w0, w1, w2⟩ : ∃ Ws : Nat → World, Ws 0 = V0 ∧ Ws 1 = V0.alloc (.cells #[] 99) ∧ Ws 2 = V0.alloc (.cells #[] 99) := ⟨fun q => match q with | 0 => V0 | 1 => V0.alloc (.cells #[] 99) | _ => V0.alloc (.cells #[] 99), rfl, rfl, rfl⟩
  refine (wpIn_wide (n := 5)).1 ?_
  refine wpIn_region_plan_v (ro := none) (aF := ?aF) [.pointer (some ⟨A, 0, none⟩), .pointer (some ⟨A, 0, none⟩), .pointer (some ⟨A, 1, none⟩), .map (some c.mb), .agg #[.int .i64 d, .int .i64 t], .tuple #[.agg #[], .bool b], .tuple #[.agg #[], .bool b], .agg #[], .bool b, .pointer (some ⟨V0.heap.size, 0, none⟩), undef, .bool b] ?hE [] [9, 10] [[(0, 0), (1, 1)], [(0, 0), (1, 1)], [(0, 0), (1, 1)], [(0, 0), (1, 1)], [(0, 0), (1, 1)], [(0, 0), (1, 1)], [(0, 0), (1, 1)], [(0, 0), (1, 1)], [(0, 0), (1, 1), (2, 2)], [(0, 1)], [(1, 2)], [(2, 2)]] Ws 17 ?hN hmx (by kernel_rfl) (by kernel_rfl) ?haF (w0.trans HV0.out) ?st ?fin
  case hE =>
    go_simp
    rfl
  case hN => kernel_rfl
  case haF => kernel_rfl
  case st =>
   refine StepsP.cons rfl (any_steps (by kernel_rfl) ?s0) (StepsP.cons rfl (any_steps (by kernel_rfl) ?s1) (StepsP.cons rfl (any_steps (by kernel_rfl) ?s2) (StepsP.cons rfl (step2 ?s3_0 ?s3_1) (StepsP.cons rfl (step2 ?s4_0 ?s4_1) (StepsP.cons rfl (step2 ?s5_0 ?s5_1) (StepsP.cons rfl (any_steps (by kernel_rfl) ?s6) (StepsP.cons rfl (any_steps (by kernel_rfl) ?s7) (StepsP.cons rfl (any_steps (by kernel_rfl) ?s8) (StepsP.cons rfl (step1 ?s9_0) (StepsP.cons rfl (step1 ?s10_0) (StepsP.cons rfl (any_steps (by kernel_rfl) ?s11) StepsP.nil)))))))))))
   case s0 =>
    intro _
    refine StepP.want (by kernel_rfl) ?_
    go_simp
   case s1 =>
    intro _
    refine StepP.want (by kernel_rfl) ?_
    go_simp
   case s2 =>
    intro _
    refine StepP.want (by kernel_rfl) ?_
    go_simp
   case s3_0 =>
    rw [w0]
    refine StepP.want (by kernel_rfl) ?_
    have c := HA0.out
    go_simp
   case s3_1 =>
    rw [w1]
    refine StepP.want (by kernel_rfl) ?_
    have c1 := HA0.out
    have c3 : A < V0.heap.size := by have := HS0.out; omega
    go_simp
   case s4_0 =>
    rw [w0]
    refine StepP.want (by kernel_rfl) ?_
    have c := HP0.out
    have c2 := HP1.out
    go_simp
   case s4_1 =>
    rw [w1]
    refine StepP.want (by kernel_rfl) ?_
    have c := HP0.out
    have c2 := HP1.out
    have c3 := HS0.out
    go_simp
   case s5_0 =>
    rw [w0]
    refine StepP.want (by kernel_rfl) ?_
    have c := HL0.out
    go_simp
   case s5_1 =>
    rw [w1]
    refine StepP.want (by kernel_rfl) ?_
    have c := HL1.out
    go_simp
   case s6 =>
    intro _
    refine StepP.want (by kernel_rfl) ?_
    go_simp
   case s7 =>
    intro _
    refine StepP.want (by kernel_rfl) ?_
    go_simp
   case s8 =>
    intro _
    refine StepP.want (by kernel_rfl) ?_
    go_simp
   case s9_0 =>
    rw [w0, w1]
    refine StepP.want (by kernel_rfl) ?_
    go_simp
   case s10_0 =>
    rw [w1, w2]
    refine StepP.want (by kernel_rfl) ?_
    go_simp
   case s11 =>
    intro _
    refine StepP.want (by kernel_rfl) ?_
    go_simp
  case fin =>
    have e9 : Ws ([9, 10] : List Nat).length = V0.alloc (.cells #[] 99) := w2
    rw [e9]
    clear e9 w0 w1 w2
    cases b with
    | true =>
      go_wp2_with fail
      go_ret
      exact ⟨rfl, HB0.out.alloc HB0.out.size _⟩
    | false =>
      go_wp2_with fail
      go_ret
      exact ⟨rfl, HB0.out.alloc HB0.out.size _⟩
set_option maxRecDepth 100000 in
set_option maxHeartbeats 4000000 in
theorem first_any (A : Addr) (d t : Int) (n : Nat) (hn8 : n ≤ 8) (fs : Nat → Nat) (ej : Nat → Int) (r : Int) (W : World) (fb : Nat) (hfb : fb < W.heap.size)
    (hcells : ∀ j, j < n → W.cell? ⟨fb, j, none⟩ = some (.func (.func (fs j)) #[.pointer (some A)] #[]))
    (hcall : ∀ j, j < n → (∀ i, i < j → ej i = 0) → ∀ W', Below W.heap.size W W' → Calls Try.prog (fs j) #[.pointer (some A), .agg #[.int .i64 d, .int .i64 t]] W' fun e w' => e = .returned (.int .i64 (ej j)) ∧ Below W'.heap.size W' w')
    (hent : ∀ j, j < n → ∀ args w, (callFunc (fs j) args).run Try.prog w = .ok (.enter (fs j) args) w)
    (h1 : ∀ j, j < n → (∀ i, i < j → ej i = 0) → ej j ≠ 0 → r = ej j) (h2 : (∀ i, i < n → ej i = 0) → r = 0) :
    Calls Try.prog 37 #[.agg #[.int .i64 d, .int .i64 t], .slice (some ⟨fb, 0, none⟩) n n] W fun e w' => e = .returned (.int .i64 r) ∧ Below W.heap.size W w' := by
  have HC := hid hcells
  have HK := hid hcall
  have HE := hid hent
  have H1 := hid h1
  have H2 := hid h2
  clear hcells hcall hent h1 h2
  go_enter Try.func37, Try.ntmps37
  go_wp2_with fail
  have HB0 := hid ((Below.refl W.heap.size W).alloc (Nat.le_refl _) (.cells #[.int .i64 d, .int .i64 t] 83))
  have HP0 := hid (show (W.alloc (.cells #[.int .i64 d, .int .i64 t] 83)).cell? ⟨W.heap.size, 0, none⟩ = some (.int .i64 d) ∧ (W.alloc (.cells #[.int .i64 d, .int .i64 t] 83)).cell? ⟨W.heap.size, 1, none⟩ = some (.int .i64 t) ∧ W.heap.size < (W.alloc (.cells #[.int .i64 d, .int .i64 t] 83)).heap.size from ⟨by go_simp, by go_simp, by simp⟩)
  generalize W.alloc (.cells #[.int .i64 d, .int .i64 t] 83) = WB at *
  go_loopw [10] (fun iv wr => ∃ k : Nat, k ≤ n ∧ iv = .int .i64 (k : Int) ∧ Hid (∀ i, i < k → ej i = 0) ∧ Hid (Below WB.heap.size WB wr)) (fun iv _ => n - (intOf iv).toNat)
  case atStart => exact ⟨0, by omega, rfl, hid (fun i hi => by omega), hid (Below.refl _ _)⟩
  case round =>
    obtain ⟨k, hk, rfl, HZ, HB⟩ := hrel
    have HBW := hid (HB0.out.trans (HB.out.mono HB0.out.size))
    by_cases hlt : k < n
    · have hlt' : (k : Int) < (n : Int) := by omega
      have c0 := (HBW.out.cell (p := ⟨fb, k, none⟩) hfb).trans (HC.out k hlt)
      have c1 := (HB.out.cell (p := ⟨W.heap.size, 0, none⟩) HP0.out.2.2).trans HP0.out.1
      have c2 := (HB.out.cell (p := ⟨W.heap.size, 1, none⟩) HP0.out.2.2).trans HP0.out.2.1
      have ee := HE.out k hlt
      have HCa := hid (HK.out k hlt HZ.out wr HBW.out)
      have HR := hid (H1.out k hlt HZ.out)
      by_cases hz : ej k = 0
      · have HZ2 := hid (show ∀ i, i < k + 1 → ej i = 0 from fun i hi => by
          by_cases e : i = k
          · rw [e]; exact hz
          · exact HZ.out i (by omega))
        rw [hz] at HCa
        clear hz HR
        go_wp2_with fail
        refine HCa.out.mono ?_
        rintro e w1 ⟨rfl, hb1⟩
        have HB1 := hid (HB.out.trans (hb1.mono HB.out.size))
        clear hb1
        go_wp2_with fail
        go_roundw
        case rel => exact ⟨k + 1, by omega, by go_num, HZ2, HB1⟩
        case measure => simp [intOf]; omega
      · have HR2 := hid (HR.out hz)
        have hzb : (ej k != 0) = true := by simpa using hz
        generalize ej k = x at *
        clear HR
        go_wp2_with fail
        refine HCa.out.mono ?_
        rintro e w1 ⟨rfl, hb1⟩
        have HB1 := hid (HB.out.trans (hb1.mono HB.out.size))
        clear hb1
        go_wp2_with fail
        go_ret
        exact ⟨by rw [HR2.out]; rfl, HB0.out.trans (HB1.out.mono HB0.out.size)⟩
    · obtain rfl : k = n := by omega
      have hlt' : ¬ (k : Int) < (k : Int) := by omega
      have HR := hid (H2.out HZ.out)
      go_wp2_with fail
      go_ret
      exact ⟨by rw [HR.out]; rfl, HBW.out⟩
def fnOf : Nat → Nat
  | 0 => 38
  | 1 => 39
  | 2 => 40
  | _ => 45
/-- the error of check j -/
def ej (k : Dk) (d t : Int) : Nat → Int
  | 0 => if k.down then 5 else 0
  | 1 => if hs k d t then 0 else 1
  | 2 => if (gu k.U d.toNat).mis then 6 else 0
  | _ => if k.bad d t then 7 else 0
def chk3 (k : Dk) (d t : Int) : Int := if k.down then 5 else if hs k d t = false then 1 else if (gu k.U d.toNat).mis then 6 else 0
def chk4 (k : Dk) (d t : Int) : Int := if k.down then 5 else if hs k d t = false then 1 else if (gu k.U d.toNat).mis then 6 else if k.bad d t then 7 else 0
theorem enters4 (j : Nat) (args : Array Value) (w : World) : (callFunc (fnOf j) args).run Try.prog w = .ok (.enter (fnOf j) args) w := by
  match j with
  | 0 => exact enters_of Try.func38 (by kernel_rfl) rfl _ _
  | 1 => exact enters_of Try.func39 (by kernel_rfl) rfl _ _
  | 2 => exact enters_of Try.func40 (by kernel_rfl) rfl _ _
  | j + 3 => exact enters_of Try.func45 (by kernel_rfl) rfl _ _
theorem hs_iff {k : Dk} {d t : Int} : hs k d t = true ↔ ∃ n m : Nat, d = n ∧ t = m ∧ n < k.U.length ∧ m < (gu k.U n).now.length := by
  unfold hs
  rw [Bool.and_eq_true, Bool.and_eq_true, hd_iff, decide_eq_true_eq, decide_eq_true_eq]
  constructor
  · rintro ⟨⟨n, rfl, h⟩, h1, h2⟩; exact ⟨n, t.toNat, rfl, by omega, h, by rw [show ((n : Int)).toNat = n from rfl] at h2; omega⟩
  · rintro ⟨n, m, rfl, rfl, h1, h2⟩; exact ⟨⟨n, rfl, h1⟩, by omega, by rw [show ((n : Int)).toNat = n from rfl]; omega⟩
theorem check_call {W : World} {A : Nat} {c : Co} {k : Dk} (h : DA W A c k) (d t : Int) (j : Nat) (hz : ∀ i, i < j → ej k d t i = 0) (W' : World) (hb : Below W.heap.size W W') :
    Calls Try.prog (fnOf j) #[.pointer (some ⟨A, 0, none⟩), .agg #[.int .i64 d, .int .i64 t]] W' fun e w' => e = .returned (.int .i64 (ej k d t j)) ∧ Below W'.heap.size W' w' := by
  have h' := h.below hb
  have hr : 2 ≤ j → ∃ n m : Nat, d = n ∧ t = m ∧ n < k.U.length ∧ m < (gu k.U n).now.length := fun h2 => by
    have := hz 1 (by omega)
    unfold ej at this
    cases hh : hs k d t with
    | true => exact hs_iff.1 hh
    | false => rw [hh] at this; cases this
  match j with
  | 0 => exact power_ok h' d t
  | 1 => exact sector_ok h' d t
  | 2 =>
    obtain ⟨n, m, rfl, rfl, h1, h2⟩ := hr (by omega)
    exact missing_ok h' n h1 _
  | j + 3 =>
    obtain ⟨n, m, rfl, rfl, h1, h2⟩ := hr (by omega)
    have := h.b8
    have := h.bn n h1
    exact bad_ok h' _ _ (wf_nat _ (by omega)) (wf_nat _ (by omega))
theorem ej3_first {k : Dk} {d t : Int} : (∀ j, j < 3 → (∀ i, i < j → ej k d t i = 0) → ej k d t j ≠ 0 → chk3 k d t = ej k d t j) ∧ ((∀ i, i < 3 → ej k d t i = 0) → chk3 k d t = 0) := by
  constructor
  · intro j hj hz hn
    have h0 := fun h => hz 0 h
    have h1 := fun h => hz 1 h
    obtain rfl | rfl | rfl : j = 0 ∨ j = 1 ∨ j = 2 := by omega
    · unfold chk3 ej at *; cases hd : k.down <;> simp_all
    · have h0 := h0 (by omega); unfold chk3 ej at *; cases hd : k.down <;> cases he : hs k d t <;> simp_all
    · have h0 := h0 (by omega); have h1 := h1 (by omega); unfold chk3 ej at *; cases hd : k.down <;> cases he : hs k d t <;> cases hf : (gu k.U d.toNat).mis <;> simp_all
  · intro hz
    have h0 := hz 0 (by omega); have h1 := hz 1 (by omega); have h2 := hz 2 (by omega)
    unfold chk3 ej at *; cases hd : k.down <;> cases he : hs k d t <;> cases hf : (gu k.U d.toNat).mis <;> simp_all
theorem ej4_first {k : Dk} {d t : Int} : (∀ j, j < 4 → (∀ i, i < j → ej k d t i = 0) → ej k d t j ≠ 0 → chk4 k d t = ej k d t j) ∧ ((∀ i, i < 4 → ej k d t i = 0) → chk4 k d t = 0) := by
  constructor
  · intro j hj hz hn
    have h0 := fun h => hz 0 h
    have h1 := fun h => hz 1 h
    have h2 := fun h => hz 2 h
    obtain rfl | rfl | rfl | rfl : j = 0 ∨ j = 1 ∨ j = 2 ∨ j = 3 := by omega
    · unfold chk4 ej at *; cases hd : k.down <;> simp_all
    · have h0 := h0 (by omega); unfold chk4 ej at *; cases hd : k.down <;> cases he : hs k d t <;> simp_all
    · have h0 := h0 (by omega); have h1 := h1 (by omega); unfold chk4 ej at *; cases hd : k.down <;> cases he : hs k d t <;> cases hf : (gu k.U d.toNat).mis <;> simp_all
    · have h0 := h0 (by omega); have h1 := h1 (by omega); have h2 := h2 (by omega); unfold chk4 ej at *; cases hd : k.down <;> cases he : hs k d t <;> cases hf : (gu k.U d.toNat).mis <;> cases hg : k.bad d t <;> simp_all
  · intro hz
    have h0 := hz 0 (by omega); have h1 := hz 1 (by omega); have h2 := hz 2 (by omega); have h3 := hz 3 (by omega)
    unfold chk4 ej at *; cases hd : k.down <;> cases he : hs k d t <;> cases hf : (gu k.U d.toNat).mis <;> cases hg : k.bad d t <;> simp_all
theorem first3_ok {W : World} {A : Nat} {c : Co} {k : Dk} (h : DA W A c k) (d t : Int) (fb : Nat) (hfb : fb < W.heap.size) (hcells : ∀ j, j < 3 → W.cell? ⟨fb, j, none⟩ = some (.func (.func (fnOf j)) #[.pointer (some ⟨A, 0, none⟩)] #[])) :
    Calls Try.prog 37 #[.agg #[.int .i64 d, .int .i64 t], .slice (some ⟨fb, 0, none⟩) 3 3] W fun e w' => e = .returned (.int .i64 (chk3 k d t)) ∧ Below W.heap.size W w' :=
  first_any ⟨A, 0, none⟩ d t 3 (by omega) fnOf (ej k d t) _ W fb hfb hcells (fun j _ hz W' hb => check_call h d t j hz W' hb) (fun j _ => enters4 j) ej3_first.1 ej3_first.2
theorem first4_ok {W : World} {A : Nat} {c : Co} {k : Dk} (h : DA W A c k) (d t : Int) (fb : Nat) (hfb : fb < W.heap.size) (hcells : ∀ j, j < 4 → W.cell? ⟨fb, j, none⟩ = some (.func (.func (fnOf j)) #[.pointer (some ⟨A, 0, none⟩)] #[])) :
    Calls Try.prog 37 #[.agg #[.int .i64 d, .int .i64 t], .slice (some ⟨fb, 0, none⟩) 4 4] W fun e w' => e = .returned (.int .i64 (chk4 k d t)) ∧ Below W.heap.size W w' :=
  first_any ⟨A, 0, none⟩ d t 4 (by omega) fnOf (ej k d t) _ W fb hfb hcells (fun j _ hz W' hb => check_call h d t j hz W' hb) (fun j _ => enters4 j) ej4_first.1 ej4_first.2
end Go.Proofs.Ytfaeieeokelokaa
