/- For all lists of numbers: SpacemapCounts returns true. No condition. -/
import Derived.Test.YtablogkafbajaaaRows
import Derived.WalkKit
import Derived.ProofKit
import Derived.OpenShut
import Derived.ShutString
import Derived.ChangeOld
import Derived.Below
import Derived.Carry
import Derived.Test.YtablogkafbajaaaC
import Derived.Test.YtablogkafbajaaaD
import Derived.Test.YtablogkafbajaaaE
import Derived.Test.YtablogkafbajaaaF
import Derived.Test.YtablogkafbajaaaG
import Derived.Test.YtablogkafbajaaaH
import Derived.Test.YtablogkafbajaaaI
import Derived.Test.YtablogkafbajaaaJ
import Derived.Test.YtablogkafbajaaaKk
import Derived.Test.YtablogkafbajaaaN
import Derived.Test.YtablogkafbajaaaO
import Derived.Test.YtablogkafbajaaaS
import Derived.Test.YtablogkafbajaaaQ
import Derived.Test.YtablogkafbajaaaR
import Derived.Test.YtablogkafbajaaaU
import Derived.Test.YtablogkafbajaaaP
import Derived.Test.YtablogkafbajaaaPV
import Derived.Test.YtablogkafbajaaaPR
import Derived.Test.YtablogkafbajaaaV
namespace Go.Proofs.Ytablogkafbajaaa.spacemapCounts
open Go.ChangeShapes Go.WideShapes Go.ChangeAt Go.RowKit
open Go.ChangeMaps (open_string shut_string)
set_option linter.unusedVariables false

theorem own : ownKnob Try.prog.godebug = none := by kernel_rfl
theorem laidOut : laidOutB Try.prog = true := by kernel_rfl

set_option linter.unusedSimpArgs false
theorem stepR_any {P : Program} {ops : Array Oper} {aF : Act} {WP : Nat → World → Prop} {o : Oper} {p : List (Nat × Nat)} (hp : (p.all fun q => q.1 == q.2) = true) (h : ∀ (w : World) (R : World → Prop), R w → StepR P ops aF o w R) : ∀ q ∈ p, ∀ w, WP q.1 w → StepR P ops aF o w (WP q.2) := fun q hq w hw => by
  have := List.all_eq_true.1 hp q hq
  have e : q.1 = q.2 := by simpa using this
  rw [← e]
  exact h w _ hw
theorem stepR_two {P : Program} {ops : Array Oper} {aF : Act} {WP : Nat → World → Prop} {o : Oper} {a b c d : Nat} (h : ∀ w, WP a w → StepR P ops aF o w (WP b)) (h2 : ∀ w, WP c w → StepR P ops aF o w (WP d)) : ∀ q ∈ [(a, b), (c, d)], ∀ w, WP q.1 w → StepR P ops aF o w (WP q.2) := fun q hq => by
  simp at hq
  rcases hq with rfl | rfl
  · exact h
  · exact h2
attribute [local go_sem] Oper.semAt_some putAll
theorem cell_kept {W W' : World} {P q : Nat} {v : Value} (h : W.cell? ⟨P, 0, none⟩ = some v) (hg : W.grownBy W' (some q)) (hne : P ≠ q) : W'.cell? ⟨P, 0, none⟩ = some v :=
  (World.cell?_of_block (a := ⟨P, 0, none⟩) (hg.block P (block_lt_of_cell h) (fun e => hne (Option.some.inj e)))).trans h
theorem cell_below {W W' : World} {P : Nat} {v : Value} (h : W.cell? ⟨P, 0, none⟩ = some v) (hb : Below W.heap.size W W') : W'.cell? ⟨P, 0, none⟩ = some v :=
  (hb.cell (p := ⟨P, 0, none⟩) (block_lt_of_cell h)).trans h
set_option maxRecDepth 100000 in
set_option maxHeartbeats 8000000 in
theorem walk (a0 : Option Addr) (len0 cap0 : Nat) (z0 : List Int) (w : World) (w0 : IsRow .i64 w a0 len0 cap0 z0) :
    Calls Try.prog 7 #[.slice a0 len0 cap0] w fun e w' => e = .returned (.bool true) ∧ Below w.heap.size w w' := by
  obtain ⟨hn, hl, hc⟩ := nums_of w0
  unfold maxLen at hc
  have HN := hid (new_ok a0 len0 cap0 w hn hl hc)
  have HAw := hid awake_any
  clear w0 hn hl hc
  have hmx : Try.prog.follows .mixedOrders = true := by kernel_rfl
  go_enter Try.func7, Try.ntmps7
  go_wp2_with fail
  refine HN.out.mono ?_
  rintro e w1 ⟨rfl, HS, hb1⟩
  have HB1 := hid hb1
  have hs1 := hb1.size
  have HRg := hid (range_ok w.heap.size w.heap.size (Nat.le_refl _) 0 12 (by omega) (by omega) (by omega) w1 HS.out)
  clear hb1 HN HS
  go_wp2_with fail
  refine HRg.out.mono ?_
  rintro e w2 ⟨z, z0, z30, rfl, H2⟩
  have HB2 := hid (HB1.out.grown H2.out.1 hs1 (fun k e => by cases e; exact Nat.le_refl _))
  have HS2 := hid H2.out.2
  have hs2 := HB2.out.size
  clear H2 HRg HB1
  go_wp2_with fail
  refine (play_ok w.heap.size w.heap.size z w2 (Nat.le_refl _) hs2 z0 (by omega) HS2.out).mono ?_
  rintro e w3 ⟨M, a, ca, b, cb, R, c, cc, d, cd, X, Y, rfl, hX9, HT⟩
  clear HS2
  go_wp2_with fail
  have hlts := HT.out.lts
  have lB : w.heap.size < w3.heap.size := hlts _ (by simp)
  have la : a < w3.heap.size := hlts _ (by simp)
  have lb : b < w3.heap.size := hlts _ (by simp)
  have HP0 := hid (show (w3.alloc (.cells #[.pointer (some ⟨M, 0, none⟩)] 23)).cell? ⟨w3.heap.size, 0, none⟩ = some (.pointer (some ⟨M, 0, none⟩)) by simp [go_sem])
  have HT4 := hid (HT.out.below ((Below.refl w3.heap.size w3).alloc (Nat.le_refl _) (.cells #[.pointer (some ⟨M, 0, none⟩)] 23)))
  obtain ⟨W4, hW4⟩ : ∃ W4, W4 = w3.alloc (.cells #[.pointer (some ⟨M, 0, none⟩)] 23) := ⟨_, rfl⟩
  rw [← hW4] at HP0 HT4
  rw [← hW4]
  clear hW4 hlts HT
  obtain ⟨X0, hX0⟩ : ∃ X0, X0 = X := ⟨_, rfl⟩
  obtain ⟨Y0, hY0⟩ : ∃ Y0, Y0 = Y := ⟨_, rfl⟩
  have HT4 := hid (show ST w.heap.size w.heap.size w2 W4 M a ca b cb R c cc d cd X Y X0 Y0 by rw [hX0, hY0]; exact HT4.out)
  clear hX0 hY0
  generalize w3.heap.size = P at *
  generalize hB : w.heap.size = B at *
  go_loopw [8] (fun iv wr => ∃ (i : Nat) (X Y : List Int), i ≤ 12 ∧ iv = .int .i64 (i : Int) ∧ X.length ≤ 9 ∧ Hid (wr.cell? ⟨P, 0, none⟩ = some (.pointer (some ⟨M, 0, none⟩))) ∧ Hid (ST B B w2 wr M a ca b cb R c cc d cd X Y X0 Y0)) (fun iv _ => 12 - (intOf iv).toNat)
  case atStart => exact ⟨0, X, Y, by omega, rfl, hX9, HP0, HT4⟩
  case round =>
    clear HP0 HT4 hX9
    obtain ⟨i, X, Y, hi, rfl, hX9, HP, HT⟩ := hrel
    by_cases hlt : i < 12
    · have hlt' : (i : Int) < 12 := by omega
      have hcx := HT.out.p.cx
      have hbd := sm_bd hcx X.length (Nat.le_refl _)
      have hpos := hcx.pos
      have c0 := HP.out
      obtain ⟨q, q0, q1, hQ⟩ := n_det B B (Nat.le_refl _) ((X.length : Int) + 1) (by omega) (by omega) wr HT.out.n0 HT.out.s
      have HQ := hid hQ
      have HS := hid (fun V (hV : Below wr.heap.size wr V) => sum_ok (HT.out.below hV).p (cell_below HP.out hV))
      have HL := hid (fun V (hV : Below wr.heap.size wr V) => len_ok (HT.out.below hV).p)
      have HCl := hid (fun V (hV : Below wr.heap.size wr V) => cell_below HP.out hV)
      obtain ⟨s, hs⟩ : ∃ s, s = sm X X.length := ⟨_, rfl⟩
      rw [← hs] at HS hbd
      have Hs := hid hs
      obtain ⟨n, hn⟩ : ∃ n, n = X.length := ⟨_, rfl⟩
      rw [← hn] at HL HQ hX9 hpos hbd q1
      have Hn := hid hn
      clear hQ hs hn hcx c0
      go_wp2_with fail
      obtain ⟨WP, p0, p1, p2, p3⟩ : ∃ WP : Nat → World → Prop, WP 0 = (fun V => V = wr.drew) ∧ WP 1 = (fun V => Below wr.heap.size wr V) ∧ WP 2 = (fun V => Below wr.heap.size wr V) ∧ WP 3 = (fun V => ∃ V2, Below wr.heap.size wr V2 ∧ V2.grownBy V (some B) ∧ SrcOK B B V) := ⟨fun k => match k with | 0 => (fun V => V = wr.drew) | 1 => (fun V => Below wr.heap.size wr V) | 2 => (fun V => Below wr.heap.size wr V) | _ => (fun V => ∃ V2, Below wr.heap.size wr V2 ∧ V2.grownBy V (some B) ∧ SrcOK B B V), rfl, rfl, rfl, rfl⟩
      refine (wpIn_wide (n := 5)).1 ?_
      refine wpIn_region_planR (ro := none) (aF := ?aFa) [.func (Fn.func 26) #[] #[.pointer (some ⟨P, 0, none⟩)], .int .i64 s, .pointer (some ⟨B, 0, none⟩), .pointer (some ⟨M, 0, none⟩), .int .i64 (n : Int), .int .i64 ((n : Int) + 1), .int .i64 q, .int .i64 s, .int .i64 q, .int .i64 0] ?hEa [] [1, 4, 6] [[(0, 0)], [(0, 1)], [(0, 0), (1, 1), (2, 2)], [(0, 0), (1, 1)], [(1, 2)], [(2, 2)], [(2, 3)], [(3, 3)], [(3, 3)], [(3, 3)]] WP 70 ?hNa hmx (by kernel_rfl) (by kernel_rfl) ?haFa (by rw [p0]; exact rfl) ?sta ?fina
      case hEa =>
        go_simp
        rfl
      case hNa => kernel_rfl
      case haFa => kernel_rfl
      case sta =>
        refine StepsR.cons rfl (stepR1 ?a0) (StepsR.cons rfl (stepR1 ?a1) (StepsR.cons rfl (stepR_any rfl ?a2) (StepsR.cons rfl (stepR_two ?a3 ?b3) (StepsR.cons rfl (stepR1 ?a4) (StepsR.cons rfl (stepR1 ?a5) (StepsR.cons rfl (stepR1 ?a6) (StepsR.cons rfl (stepR1 ?a7) (StepsR.cons rfl (stepR1 ?a8) (StepsR.cons rfl (stepR1 ?a9) StepsR.nil)))))))))
        case a0 =>
          rw [p0]
          rintro wx rfl
          refine StepR.want (by kernel_rfl) ?_
          go_simp
        case a1 =>
          rw [p0, p1]
          rintro wx rfl
          refine StepR.want (by kernel_rfl) ?_
          go_simp
          refine (HS.out _ (bdn _ _ 1)).mono ?_
          rintro e w7 ⟨rfl, hb⟩
          exact ⟨rfl, bt (bdn _ wr 1) hb⟩
        case a2 =>
          intro wx R hR
          refine StepR.want (by kernel_rfl) ?_
          go_simp
          try exact hR
        case a3 =>
          rw [p0]
          rintro wx rfl
          have c1 : wr.drew.cell? ⟨P, 0, none⟩ = some (.pointer (some ⟨M, 0, none⟩)) := HCl.out _ (bdn _ wr 1)
          refine StepR.want (by kernel_rfl) ?_
          go_simp
        case b3 =>
          rw [p1]
          intro wx hx
          have c1 := HCl.out _ hx
          refine StepR.want (by kernel_rfl) ?_
          have hx2 := hid hx
          go_simp
          try exact hx2.out
        case a4 =>
          rw [p1, p2]
          intro wx hx
          refine StepR.want (by kernel_rfl) ?_
          have hx2 := hid hx
          go_simp
          refine (HL.out _ hx2.out).mono ?_
          rintro e w7 ⟨rfl, hb⟩
          exact ⟨rfl, bt hx2.out hb⟩
        case a5 =>
          rw [p2]
          intro wx hx
          refine StepR.want (by kernel_rfl) ?_
          have hx2 := hid hx
          go_simp
          exact IntWalk.i64_in _ (by omega)
        case a6 =>
          rw [p2, p3]
          intro wx hx
          refine StepR.want (by kernel_rfl) ?_
          have hx2 := hid hx
          go_simp
          refine (HQ.out _ hx2.out).mono ?_
          rintro e w7 ⟨rfl, hb⟩
          exact ⟨rfl, wx, hx2.out, hb.out.1, hb.out.2⟩
        case a7 =>
          rw [p3]
          intro wx hx
          refine StepR.want (by kernel_rfl) ?_
          have hx2 := hid hx
          go_simp
          try exact hx2.out
        case a8 =>
          rw [p3]
          intro wx hx
          refine StepR.want (by kernel_rfl) ?_
          have hx2 := hid hx
          go_simp
          try exact hx2.out
        case a9 =>
          rw [p3]
          intro wx hx
          refine StepR.want (by kernel_rfl) ?_
          have hx2 := hid hx
          go_simp
          try exact hx2.out
      case fina =>
        intro v7 h7
        have h7 : ∃ V2, Below wr.heap.size wr V2 ∧ V2.grownBy v7 (some B) ∧ SrcOK B B v7 := by have h9 : WP 3 v7 := h7; rwa [p3] at h9
        obtain ⟨V2, g1, g2, g3⟩ := h7
        have HT7 := hid ((HT.out.below g1).src g2 g3)
        have HP7 := hid (cell_kept (cell_below HP.out g1) g2 (by omega))
        clear g1 g2 g3 p0 p1 p2 p3 HQ HS HL HCl HT HP
        go_wp2_with fail
        refine (n_ok B B (Nat.le_refl _) 4 (by omega) (by omega) v7 HT7.out.s).mono ?_
        rintro e v8 ⟨y, y0, y4, rfl, H8⟩
        have HT8 := hid (HT7.out.src H8.out.1 H8.out.2)
        have HP8 := hid (cell_kept HP7.out H8.out.1 (by omega))
        clear H8 HT7 HP7
        have hy : y = 0 ∨ y = 1 ∨ y = 2 ∨ y = 3 := by omega
        clear y0 y4
        rcases hy with rfl | rfl | rfl | rfl
        · have c8 := HP8.out
          go_wp2_with fail
          refine (alloc_ok HT8.out.p).mono ?_
          rintro e v9 ⟨rfl, H9⟩
          have HT9 := hid (HT8.out.prog H9.out.2 (.inl rfl) H9.out.1)
          have HP9 := hid (cell_kept HP8.out H9.out.2 (by omega))
          clear H9 HT8 HP8
          have hl9 : (alX X Y).length = X.length := len_al X Y
          have hsm := sm_al X Y
          generalize alE X Y = ee at *
          by_cases he : ee = 0
          · subst he
            rw [if_pos rfl] at hsm
            have HSm := hid (sum_ok HT9.out.p HP9.out)
            rw [hl9, hsm, ← Hs.out] at HSm
            clear hsm
            have c9 := HP9.out
            go_wp2_with fail
            refine HSm.out.mono ?_
            rintro e v10 ⟨rfl, hb10⟩
            have HT10 := hid (HT9.out.below hb10)
            have HP10 := hid (cell_below HP9.out hb10)
            clear hb10 HSm HT9 HP9
            go_wp2_with fail
            go_roundw
            case rel => exact ⟨i + 1, _, _, by omega, by go_num, by rw [hl9]; have := Hn.out; omega, HP10, HT10⟩
            case measure => simp [intOf]; omega
          · rw [if_neg he] at hsm
            have HSm := hid (sum_ok HT9.out.p HP9.out)
            rw [hl9, hsm, ← Hs.out, Int.add_zero] at HSm
            clear hsm
            have c9 := HP9.out
            go_wp2_with fail
            refine HSm.out.mono ?_
            rintro e v10 ⟨rfl, hb10⟩
            have HT10 := hid (HT9.out.below hb10)
            have HP10 := hid (cell_below HP9.out hb10)
            clear hb10 HSm HT9 HP9
            go_wp2_with fail
            go_roundw
            case rel => exact ⟨i + 1, _, _, by omega, by go_num, by rw [hl9]; have := Hn.out; omega, HP10, HT10⟩
            case measure => simp [intOf]; omega
        · have c8 := HP8.out
          go_wp2_with fail
          refine (inc_ok HT8.out.p q).mono ?_
          rintro e v9 ⟨rfl, H9⟩
          have HT9 := hid (HT8.out.prog H9.out.2 (.inl rfl) H9.out.1)
          have HP9 := hid (cell_kept HP8.out H9.out.2 (by omega))
          clear H9 HT8 HP8
          have hl9 : (incX X q).length = X.length := len_inc X q
          have hsm := sm_inc X q
          generalize incE X q = ee at *
          by_cases he : ee = 0
          · subst he
            rw [if_pos rfl] at hsm
            have HSm := hid (sum_ok HT9.out.p HP9.out)
            rw [hl9, hsm, ← Hs.out] at HSm
            clear hsm
            have c9 := HP9.out
            go_wp2_with fail
            refine HSm.out.mono ?_
            rintro e v10 ⟨rfl, hb10⟩
            have HT10 := hid (HT9.out.below hb10)
            have HP10 := hid (cell_below HP9.out hb10)
            clear hb10 HSm HT9 HP9
            go_wp2_with fail
            go_roundw
            case rel => exact ⟨i + 1, _, _, by omega, by go_num, by rw [hl9]; have := Hn.out; omega, HP10, HT10⟩
            case measure => simp [intOf]; omega
          · rw [if_neg he] at hsm
            have HSm := hid (sum_ok HT9.out.p HP9.out)
            rw [hl9, hsm, ← Hs.out, Int.add_zero] at HSm
            clear hsm
            have c9 := HP9.out
            go_wp2_with fail
            refine HSm.out.mono ?_
            rintro e v10 ⟨rfl, hb10⟩
            have HT10 := hid (HT9.out.below hb10)
            have HP10 := hid (cell_below HP9.out hb10)
            clear hb10 HSm HT9 HP9
            go_wp2_with fail
            go_roundw
            case rel => exact ⟨i + 1, _, _, by omega, by go_num, by rw [hl9]; have := Hn.out; omega, HP10, HT10⟩
            case measure => simp [intOf]; omega
        · have c8 := HP8.out
          go_wp2_with fail
          refine (dec_ok HT8.out.p q).mono ?_
          rintro e v9 ⟨rfl, H9⟩
          have HT9 := hid (HT8.out.prog H9.out.2 (.inl rfl) H9.out.1)
          have HP9 := hid (cell_kept HP8.out H9.out.2 (by omega))
          clear H9 HT8 HP8
          have hl9 : (decX X q).length = X.length := len_dec X q
          have hsm := sm_dec X q
          generalize decE X q = ee at *
          by_cases he : ee = 0
          · subst he
            rw [if_pos rfl] at hsm
            have HSm := hid (sum_ok HT9.out.p HP9.out)
            rw [hl9, hsm, ← Hs.out] at HSm
            clear hsm
            have c9 := HP9.out
            go_wp2_with fail
            refine HSm.out.mono ?_
            rintro e v10 ⟨rfl, hb10⟩
            have HT10 := hid (HT9.out.below hb10)
            have HP10 := hid (cell_below HP9.out hb10)
            clear hb10 HSm HT9 HP9
            go_wp2_with fail
            go_roundw
            case rel => exact ⟨i + 1, _, _, by omega, by go_num, by rw [hl9]; have := Hn.out; omega, HP10, HT10⟩
            case measure => simp [intOf]; omega
          · rw [if_neg he] at hsm
            have HSm := hid (sum_ok HT9.out.p HP9.out)
            rw [hl9, hsm, ← Hs.out, Int.add_zero] at HSm
            clear hsm
            have c9 := HP9.out
            go_wp2_with fail
            refine HSm.out.mono ?_
            rintro e v10 ⟨rfl, hb10⟩
            have HT10 := hid (HT9.out.below hb10)
            have HP10 := hid (cell_below HP9.out hb10)
            clear hb10 HSm HT9 HP9
            go_wp2_with fail
            go_roundw
            case rel => exact ⟨i + 1, _, _, by omega, by go_num, by rw [hl9]; have := Hn.out; omega, HP10, HT10⟩
            case measure => simp [intOf]; omega
        · have c8 := HP8.out
          go_wp2_with fail
          refine (commit_ok HT8.out.p).mono ?_
          rintro e v9 ⟨rfl, H9⟩
          have HT9 := hid (HT8.out.prog H9.out.2 (.inr rfl) H9.out.1)
          have HP9 := hid (cell_kept HP8.out H9.out.2 (by omega))
          clear H9 HT8 HP8
          have HSm := hid (sum_ok HT9.out.p HP9.out)
          rw [← Hs.out] at HSm
          skip
          have c9 := HP9.out
          go_wp2_with fail
          refine HSm.out.mono ?_
          rintro e v10 ⟨rfl, hb10⟩
          have HT10 := hid (HT9.out.below hb10)
          have HP10 := hid (cell_below HP9.out hb10)
          clear hb10 HSm HT9 HP9
          go_wp2_with fail
          go_roundw
          case rel => exact ⟨i + 1, _, _, by omega, by go_num, by have := Hn.out; omega, HP10, HT10⟩
          case measure => simp [intOf]; omega
    · obtain rfl : i = 12 := by omega
      have hlt' : ¬ ((12 : Nat) : Int) < 12 := by omega
      go_wp2_with fail
      refine (HAw.out _).mono ?_
      rintro e w9 ⟨rfl, hb9⟩
      have HT9 := hid (HT.out.below hb9)
      clear hb9
      go_wp2_with fail
      go_ret
      exact ⟨rfl, by rw [hB]; exact HB2.out.trans HT9.out.bel⟩

set_option maxRecDepth 100000 in
theorem lifted (os : Os) (started : os.Started) (H : Type) (enc : TypeId × Value → H) :
    ReturnsInHanded {} Try.checked os 7 .any (Rows.spacemapCountsSpec.pre6 enc Try.prog Try.f7 Rows.spacemapCountsRow.domain false) (Rows.spacemapCountsSpec.post enc Try.prog Try.f7 false true false false) := by
  refine returnsInHanded_of_change (C := Try.checked) own started (by kernel_rfl) Try.func7
    (ChangeSpec.witness6 (enc := enc) (C := Try.checked) false ⟨#[], #[.slice none 0 0], []⟩ 8 (by kernel_rfl) (by kernel_rfl) (by kernel_rfl) (by kernel_rfl)) ?_
  intro W base args ds gs before hval0 hW hcnd _
  have hval : ∀ (j : Nat) t v, Try.f7.params[j]? = some t → args[j]? = some v → Value.okWide Try.prog W .any base t v := hval0
  have hW' := hW
  obtain ⟨p, q, hA0, hV, rfl, hfz, hnd⟩ := hW
  have hA : DataW.TrodAll enc Try.prog W 0 (fun _ => true) true Try.f7.params.toList args.toList ds p := hA0
  rw [Try.params7] at hA hval
  obtain ⟨v0, vs0, d0, ds0, p0, q0, hargs, rfl, rfl, h0, r0⟩ := trodAll_cons hA
  obtain ⟨rfl, rfl, rfl⟩ := trodAll_nil r0
  obtain rfl : args = #[v0] := by cases args; simp_all
  obtain ⟨rfl, rfl⟩ := trodVars_none hV
  obtain ⟨a0, len0, cap0, rfl⟩ := okWide_slice Try.underlying22 (hval 0 22 v0 rfl rfl)
  have k0 := h0
  have lt0 : ∀ x ∈ p0, x.block < W.heap.size := by obtain ⟨m, hm⟩ := k0; exact DataW.trod_lt m _ _ _ hm
  obtain ⟨z0, w0⟩ : ∃ zs, IsRow .i64 W a0 len0 cap0 zs := by
    obtain ⟨fuel, hf⟩ := h0
    rcases open_ints Try.underlying22 Try.underlying3 (by kernel_rfl) hf with ⟨hcs, _⟩ | ⟨x, l, c, zs, hcs, _, hl, hm, hz, _, hcell, hwz⟩
    · simp [Value.cells] at hcs
      obtain ⟨rfl, rfl, rfl⟩ := hcs
      exact ⟨[], .inl ⟨rfl, rfl, rfl, rfl⟩⟩
    · simp [Value.cells] at hcs
      obtain ⟨rfl, rfl, rfl⟩ := hcs
      exact ⟨zs, .inr ⟨_, rfl, hl, hm, by simpa using hz, hcell, hwz⟩⟩
  clear hA0 hval0
  refine (walk a0 len0 cap0 z0 W w0).mono fun e W' ⟨he, bel⟩ => ?_
  subst he
  exact ⟨_, rfl, _, _, _, [], _, [], hW', trodAll_mk1 (shut_bool Try.underlying4 _), (trodAll_cons_mk (Below.trod laidOut (by kernel_rfl) (of_decide_eq_true (by kernel_rfl)) k0 bel lt0) trodAll_mk0), rfl, bel.frame _, fun h => by cases h⟩

theorem over : Rows.spacemapCountsRow.holds Try.pinned (OpenSpec.ofChange Rows.spacemapCountsSpec) :=
  OpenClaim.holds_of_wide 7 Try.f7 rfl rfl rfl rfl rfl rfl rfl ⟨rfl, rfl, rfl, rfl, rfl⟩ rfl rfl rfl rfl rfl (by kernel_rfl) Try.func7 (by kernel_rfl)
    (of_decide_eq_true (by kernel_rfl)) (by unfold Func.isWrapper; first | (rw [if_pos (by decide +kernel)]; kernel_rfl) | (rw [if_neg (by decide +kernel)]; exact ⟨rfl, rfl⟩))
    (fun os started H enc _ => lifted os started H enc)

theorem proved : Rows.SpacemapCountsSaid := over
#print axioms proved
end Go.Proofs.Ytablogkafbajaaa.spacemapCounts
