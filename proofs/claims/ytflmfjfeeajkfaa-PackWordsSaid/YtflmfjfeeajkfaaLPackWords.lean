/- For all words l, all texts s, all at and x: PackWords returns true and leaves its arguments as they were. No condition. -/
import Derived.Test.YtflmfjfeeajkfaaRows
import Derived.WalkKit
import Derived.ProofKit
import Derived.OpenShut
import Derived.ShutString
import Derived.ChangeOld
import Derived.Below
import Derived.Carry
import Derived.Test.YtflmfjfeeajkfaaA
import Derived.Test.YtflmfjfeeajkfaaM
import Derived.Deep.RegionHeld3
import Derived.Deep.AppendLies
namespace Go.Proofs.Ytflmfjfeeajkfaa.packWords
open Go.ChangeShapes Go.WideShapes Go.ChangeAt Go.RowKit
open Go.ChangeMaps (open_string shut_string)
set_option linter.unusedVariables false

theorem own : ownKnob Try.prog.godebug = none := by kernel_rfl
theorem laidOut : laidOutB Try.prog = true := by kernel_rfl

set_option linter.unusedSimpArgs false
theorem below_drewN (k : Nat) (w : World) (n : Nat) : Below k w (w.drewN n) := ⟨rfl, rfl, rfl, Nat.le_refl _, fun _ _ => rfl⟩
theorem sames (w0 : World) (a b : Option Addr) (len cap cap' : Nat) (ws : List Nat) (hl : len ≤ 9223372036854775807) (hA : Wd w0.heap.size w0 a len cap ws) (hB : Wd w0.heap.size w0 b len cap' ws) :
    Calls Try.prog 12 #[.slice a len cap, .slice b len cap'] w0 fun e w' => e = .returned (.bool true) ∧ Below w0.heap.size w0 w' :=
  (same_yes a b len cap cap' w0.heap.size ws w0 hl hA hB).mono fun e w' ⟨he, n, hw⟩ => ⟨he, by rw [hw]; exact below_drewN _ _ _⟩
theorem wd_text {w w' : World} {g cap : Nat} {s : ByteArray} (hs : s.size ≤ 100000) (h : w'.ownsRow w.heap.size 32 1 (.slice (some ⟨g, 0, none⟩) (ln s.size) cap) (ln s.size) (rowu (ln s.size) (tw (byt s) s.size s.size))) : Wd w'.heap.size w' (some ⟨g, 0, none⟩) (ln s.size) cap (wt s) := by
  rw [wt_row] at h
  obtain ⟨a, c, e, hW⟩ := own_wd h (fun j hj => wt_lt s hs j hj)
  simp only [Value.slice.injEq, true_and] at e
  obtain ⟨rfl, rfl⟩ := e
  exact hW
theorem text_wd (s : ByteArray) (hs : s.size ≤ 8192) (w : World) :
    Calls Try.prog 10 #[.string s] w fun e w' => ∃ a cap, e = .returned (.tuple #[.slice a (ln s.size) cap, .int .i64 0]) ∧ Hid (Wd w'.heap.size w' a (ln s.size) cap (wt s)) ∧ Below w.heap.size w w' :=
  (text_ok s hs w).mono fun e w' ⟨g, cap, he, hd, hb⟩ => ⟨_, cap, he, wd_text (by omega) hd.out, hb⟩

theorem own_cap {w : World} {base g n cap : Nat} {xs : List Value} (h : w.ownsRow base 32 1 (.slice (some ⟨g, 0, none⟩) n cap) n xs) : n ≤ cap := by
  rcases h.2 with ⟨hv, h0⟩ | ⟨g', cap', cur, hv, hg, hh, hc, hm, _⟩
  · cases hv
  · simp only [Value.slice.injEq, true_and] at hv
    omega
theorem app0 {L : List Nat} {M p y : Nat} (hl : L.length = M + 1) (hlt : ∀ j, j < M + 1 → L[j]?.getD 0 < 18446744073709551616) (hy : y < 2 ^ 64) (hp : p < M + 1) (j : Nat) (hj : j < M + 1 + 1) : (L.set p y ++ [0])[j]?.getD 0 < 18446744073709551616 := by
  by_cases h : j < M + 1
  · rw [List.getElem?_append_left (by simp; omega), set_getD _ _ _ _ (by omega)]
    split
    · exact hy
    · exact hlt j h
  · obtain rfl : j = M + 1 := by omega
    rw [List.getElem?_append_right (by simp; omega)]
    simp [hl]
def Bw (W w' : World) : Prop := Below W.heap.size W w'
theorem Bw.drew {W w' : World} (h : Bw W w') : Bw W w'.drew := Below.drew h
theorem Bw.alloc {W w' : World} (h : Bw W w') (o : Obj) : Bw W (w'.alloc o) := Below.alloc h h.size o
theorem Bw.size {W w' : World} (h : Bw W w') : W.heap.size ≤ w'.heap.size := Below.size h
theorem Bw.grow {W w' w'' : World} {row : Option Nat} (h : Bw W w') (hg : w'.grownBy w'' row) (hr : ∀ k, row = some k → W.heap.size ≤ k) : Bw W w'' := Below.grown h hg h.size hr
theorem news_of_bw {W w' : World} {g len cap : Nat} {ws : List Nat} (hD : Wd W.heap.size W (some ⟨g, 0, none⟩) len cap ws) (hb : Bw W w') : ∀ j u, (vs ws)[j]? = some u → w'.cell? ((⟨g, 0, none⟩ : Addr).add j) = some u := by
  rcases (hD.below hb).src with ⟨e, _⟩ | ⟨ad, e, h⟩
  · cases e
  · obtain rfl := Option.some.inj e
    exact h
/-- the four lists, in a block of the call's own -/
def Four (B : Nat) (W : World) : Prop := ∀ i, i < 4 → ∃ a len cap ws, len ≤ 1000 ∧ W.cell? ⟨B, i, none⟩ = some (.slice a len cap) ∧ Wd B W a len cap ws

theorem wd_take {n₀ : Nat} {W : World} {g len cap : Nat} {ws : List Nat} (h : Wd n₀ W (some ⟨g, 0, none⟩) (len + 1) cap ws) : Wd n₀ W (some ⟨g, 0, none⟩) len cap (ws.take len) := by
  obtain ⟨h0, h1, h2, h3⟩ := h
  obtain ⟨b, off, e, hb, hc⟩ := h3.resolve_left (by omega)
  exact ⟨by simp; omega, fun j hj => by rw [List.getElem?_take_of_lt hj]; exact h1 j (by omega), fun h => by (cases h), .inr ⟨b, off, e, hb, fun j hj => by rw [List.getElem?_take_of_lt hj]; exact hc j (by omega)⟩⟩
theorem four_of {W2 wB : World} {a0 : Option Addr} {len0 cap0 g M cap1 gg cp : Nat} {ws L ls : List Nat} (hA : Wd W2.heap.size W2 a0 len0 cap0 ws) (hD : Wd W2.heap.size W2 (some ⟨g, 0, none⟩) (M + 1) cap1 L) (hE : Wd wB.heap.size wB (some ⟨gg, 0, none⟩) (M + 1 + 1) cp ls) (h60 : len0 ≤ 60) (hM : M + 1 ≤ 30) (hb : Bw W2 wB) :
    Four wB.heap.size (wB.alloc (.cells #[.slice a0 len0 cap0, .slice (some ⟨g, 0, none⟩) (M + 1) cap1, .slice (some ⟨gg, 0, none⟩) (M + 1 + 1) cp, .slice (some ⟨g, 0, none⟩) M cap1] 23)) := by
  have hn : Below wB.heap.size wB (wB.alloc (.cells #[.slice a0 len0 cap0, .slice (some ⟨g, 0, none⟩) (M + 1) cap1, .slice (some ⟨gg, 0, none⟩) (M + 1 + 1) cp, .slice (some ⟨g, 0, none⟩) M cap1] 23)) := (Below.refl _ _).alloc (Nat.le_refl _) _
  have hrow := heap_alloc_new wB (.cells #[.slice a0 len0 cap0, .slice (some ⟨g, 0, none⟩) (M + 1) cap1, .slice (some ⟨gg, 0, none⟩) (M + 1 + 1) cp, .slice (some ⟨g, 0, none⟩) M cap1] 23)
  have up : ∀ {a : Option Addr} {len cap : Nat} {zs : List Nat}, Wd W2.heap.size W2 a len cap zs → Wd wB.heap.size (wB.alloc (.cells #[.slice a0 len0 cap0, .slice (some ⟨g, 0, none⟩) (M + 1) cap1, .slice (some ⟨gg, 0, none⟩) (M + 1 + 1) cp, .slice (some ⟨g, 0, none⟩) M cap1] 23)) a len cap zs := fun h => ((h.below hb).mono hb.size).below hn
  intro i hi
  match i, hi with
  | 0, _ => exact ⟨_, _, _, _, by omega, by rw [cell_of_row _ _ _ _ _ _ hrow]; rfl, up hA⟩
  | 1, _ => exact ⟨_, _, _, _, by omega, by rw [cell_of_row _ _ _ _ _ _ hrow]; rfl, up hD⟩
  | 2, _ => exact ⟨_, _, _, _, by omega, by rw [cell_of_row _ _ _ _ _ _ hrow]; rfl, hE.below hn⟩
  | 3, _ => exact ⟨_, _, _, _, by omega, by rw [cell_of_row _ _ _ _ _ _ hrow]; rfl, up (wd_take hD)⟩
/-- the words of the text of words are these words again -/
theorem text_back (len : Nat) (L : List Nat) (hlen : L.length = len) (hlt : ∀ j, j < len → L[j]?.getD 0 < 18446744073709551616) (h : ftOK len L) (w : World) :
    Calls Try.prog 10 #[.string (tx L (L[0]?.getD 0))] w fun e w' => ∃ a cap, e = .returned (.tuple #[.slice a len cap, .int .i64 0]) ∧ Hid (Wd w'.heap.size w' a len cap L) ∧ Below w.heap.size w w' := by
  have hw := wt_tx hlen hlt h
  obtain ⟨K, n, rfl, h0, h1, h2, h3⟩ := h
  have hs := tx_size L (L[0]?.getD 0)
  refine (text_wd _ (by rw [hs, h0]; exact h1) w).mono ?_
  rintro e w' ⟨a, cap, rfl, hD, hb⟩
  rw [hw] at hD
  have hl : ln (tx L (L[0]?.getD 0)).size = K + 1 := by rw [hs, h0]; exact h2.symm
  rw [hl] at hD ⊢
  exact ⟨a, cap, rfl, hD, hb⟩

set_option maxRecDepth 100000 in
set_option maxHeartbeats 2000000 in
theorem walk (a0 : Option Addr) (len0 cap0 : Nat) (z0 : List Int) (s : ByteArray) (a2 a3 : Int) (w : World) (w0 : IsRow .u64 w a0 len0 cap0 z0) (w1 : s.size ≤ maxLen) (w2 : (Lit.int .i64 a2).wf = true) (w3 : (Lit.int .u64 a3).wf = true) :
    Calls Try.prog 4 #[.slice a0 len0 cap0, .string s, .int .i64 a2, .int .u64 a3] w fun e w' => e = .returned (.bool true) ∧ Below w.heap.size w w' := by
  obtain ⟨x, rfl, hx⟩ : ∃ a : Nat, a3 = a ∧ a < 18446744073709551616 := by simp [Lit.wf, IntKind.min, IntKind.max, IntKind.signed, IntKind.bits] at w3; exact ⟨a3.toNat, by omega, by omega⟩
  have hw := wd_of w0
  generalize (z0.map Int.toNat).take len0 = ws at hw
  have HW := hid hw
  have HX := hid hx
  clear w0 w1 w2 w3 hw hx
  by_cases h60 : 60 < (len0 : Int)
  · go_enter Try.func4, Try.ntmps4
    go_wp2_with fail
    refine (awake_ok _).mono ?_
    rintro e w1 ⟨rfl, hb1⟩
    go_wp2_with fail
    go_ret
    exact ⟨rfl, hb1⟩
  by_cases h200 : 200 < (s.size : Int)
  · go_enter Try.func4, Try.ntmps4
    go_wp2_with fail
    refine (awake_ok _).mono ?_
    rintro e w1 ⟨rfl, hb1⟩
    go_wp2_with fail
    go_ret
    exact ⟨rfl, hb1⟩
  have hN : 1 ≤ ln s.size ∧ ln s.size ≤ 30 := by unfold ln; omega
  have HT := hid (rwords_ok s (by omega))
  have HLT := hid (wt_lt s (by omega))
  have HLEN := hid (wt_length s)
  have HROW := hid (wt_row s)
  obtain ⟨hN1, hN2⟩ := hN
  obtain ⟨M, hM⟩ : ∃ M, ln s.size = M + 1 := ⟨ln s.size - 1, by omega⟩
  rw [hM] at HT HLT HLEN HROW hN1 hN2
  have HMM := hid hM
  clear hM
  obtain ⟨r1, hr1⟩ : ∃ r1, a2.tmod ((M : Int) + 1) = r1 := ⟨_, rfl⟩
  have r2 : -((M : Int) + 1) < r1 ∧ r1 < ((M : Int) + 1) := by
    rw [← hr1]
    have h1 := Int.tmod_lt_of_pos a2 (show 0 < ((M : Int) + 1) by omega)
    have h2 := Int.tmod_lt_of_pos (-a2) (show 0 < ((M : Int) + 1) by omega)
    rw [Int.neg_tmod] at h2
    omega
  obtain ⟨r3, r4⟩ := r2
  obtain ⟨p, hp1, hp2⟩ : ∃ p : Nat, (r1 + ((M : Int) + 1)).tmod ((M : Int) + 1) = (p : Int) ∧ p < M + 1 := by
    rw [Int.tmod_eq_emod_of_nonneg (by omega)]
    have h1 := Int.emod_lt_of_pos (r1 + ((M : Int) + 1)) (show 0 < ((M : Int) + 1) by omega)
    have h2 := Int.emod_nonneg (r1 + ((M : Int) + 1)) (show ((M : Int) + 1) ≠ 0 by omega)
    exact ⟨((r1 + ((M : Int) + 1)) % ((M : Int) + 1)).toNat, by omega, by omega⟩
  have hp3 : (r1 + ((M : Int) + 1)) % ((M : Int) + 1) = (p : Int) := by rw [← hp1, Int.tmod_eq_emod_of_nonneg (by omega)]
  have hp4 : (p : Int) < (M : Int) + 1 := by omega
  have hne : (((M : Int) + 1) == 0) = false := beq_eq_false_iff_ne.2 (by omega)
  go_enter Try.func4, Try.ntmps4
  go_wp2_with fail
  refine (HT.out _).mono ?_
  rintro e w1 ⟨g, cap1, rfl, D1, hb1⟩
  have hv := HLT.out p hp2
  have t1 := own_at D1.out p hp2 rfl
  have e1 := hid (show tw (byt s) s.size s.size p = (wt s)[p]?.getD 0 by rw [wt_at s p (by rw [HMM.out]; exact hp2)])
  have t2 := D1.out.frozenAt p
  rw [e1.out] at t1
  have w4 := u64_xor_nat ((wt s)[p]?.getD 0) x hv HX.out
  have HY := hid (Nat.xor_lt_two_pow (n := 64) hv HX.out)
  rw [HROW.out] at D1
  have D2 := hid (D1.out.stored p (.int .u64 ((wt s)[p]?.getD 0 ^^^ x : Nat))).1
  have hgg := own_base D1.out g rfl
  have HCAP := own_cap D1.out
  have HB2 := hid (hb1.setCell (p := ⟨g, p, none⟩) hgg (.int .u64 ((wt s)[p]?.getD 0 ^^^ x : Nat)))
  rw [vs_set] at D2
  have HB1 := hid hb1
  clear hb1 D1 e1 HT
  generalize (wt s)[p]?.getD 0 ^^^ x = y at *
  go_wp2_with fail
  have DW := hid (show Wd (w1.setCell ⟨g, p, none⟩ (.int .u64 (y : Int))).heap.size (w1.setCell ⟨g, p, none⟩ (.int .u64 (y : Int))) (some ⟨g, 0, none⟩) (M + 1) cap1 ((wt s).set p y) by
    obtain ⟨a, c, e, hW⟩ := own_wd D2.out (fun j hj => by
      rw [set_getD _ _ _ _ (by rw [HLEN.out]; exact hp2)]
      split
      · exact HY.out
      · exact HLT.out j hj)
    simp only [Value.slice.injEq, true_and] at e
    obtain ⟨rfl, rfl⟩ := e
    exact hW)
  have HW2 := hid (HW.out.kept HB2.out)
  clear t1 t2 w4 HB1 D2 hv hr1 hp1 hp3 hp4 hne
  generalize w1.setCell ⟨g, p, none⟩ (.int .u64 (y : Int)) = W2 at *
  have hg2 : g < W2.heap.size := by
    obtain ⟨b, off, e, hb, _⟩ := DW.out.2.2.2.resolve_left (by omega)
    simp only [Option.some.injEq, Addr.mk.injEq] at e
    omega
  obtain ⟨i0, hi, hz0, hz1, hz2⟩ := info_parts Try.info32
  have HI := hid hi; have HZ0 := hid hz0; have HZ1 := hid hz1; have HZ2 := hid hz2
  clear hi hz0 hz1 hz2
  have hM1 : (M : Int) ≤ (cap1 : Int) := by omega
  have hM2 : (0 : Int) ≤ (M : Int) := by omega
  have hM3 : IntKind.i64.wrap (M : Int) = (M : Int) := IntWalk.i64_in _ (by omega)
  have hM4 : IntKind.i64.wrap ((M : Int) + 1) = (M : Int) + 1 := IntWalk.i64_in _ (by omega)
  have hM5 : (M : Int) ≤ 9223372036854775807 := by omega
  have hmx : Try.prog.follows .mixedOrders = true := by kernel_rfl
  have tok1 : True := trivial
  have B0 : Bw W2 W2 := Below.refl _ _
  have hL0 : (vs ((wt s).set p y)).length = (M + 1) * 1 := by simp [vs, HLEN.out]
  have HL0 := hid hL0
  clear hL0
  have C1 := hid (show 0 + (M + 1) ≤ maxLen by unfold maxLen; omega)
  have C2 := hid (show (0 + (M + 1)) * 8 ≤ 140737488355328 by omega)
  have C3 := hid (show M + 1 + 1 ≤ maxLen by unfold maxLen; omega)
  have C4 := hid (show (M + 1 + 1) * 8 ≤ 140737488355328 by omega)
  go_region_held3 (fun w' => Bw W2 w') (repeat (first | assumption | apply Bw.drew | apply Bw.alloc | (refine Bw.grow ?_ hgrow2 (own_base hown1)) | (refine Bw.grow ?_ hgrow1 (fun k e => by simp [Value.ownBlock] at e))))
    (first
      | ((have _t := tok1; refine step_append_lies _ (by rfl) (.const (.slice none 0 0)) (.tmp 47) 23 (by rfl) W2.heap.size 32 i0 (.int .u64 0) 1 8 Try.underlying23 HI.out HZ0.out HZ1.out HZ2.out rfl (by decide) (.slice none 0 0) 0 [] (by rfl) (World.ownsRow_nil _ _ _ _) ⟨g, 0, none⟩ (M + 1) cap1 (vs ((wt s).set p y)) (by rfl) HL0.out (news_of_bw DW.out (by repeat (first | assumption | apply Bw.drew | apply Bw.alloc))) (one_of _) (by omega) C1.out C2.out (Bw.size (by repeat (first | assumption | apply Bw.drew | apply Bw.alloc))) _ rfl ?_; intro gg1 cp1 wA hown1 hgrow1 hat1 hlt1; clear hat1 hlt1; simp only [Nat.zero_add, List.nil_append] at hown1; clear tok1))
      | ((refine step_append_lies _ (by rfl) (.tmp 48) (.tmp 49) 23 (by rfl) W2.heap.size 32 i0 (.int .u64 0) 1 8 Try.underlying23 HI.out HZ0.out HZ1.out HZ2.out rfl (by decide) (.slice (some ⟨gg1, 0, none⟩) (M + 1) cp1) (M + 1) (vs ((wt s).set p y)) (by first | rfl | (simp only [Nat.zero_add]; rfl)) (by first | exact hown1.alloc _ | exact hown1) _ 1 1 [.int .u64 0] (by rfl) (by rfl) (by first | exact World.news_of_block (cs := #[.int .u64 0]) (t := 32) (fr := (0, 0)) (heap_alloc_new wA _) | exact World.news_of_block (cs := #[.int .u64 0]) (t := 32) (fr := (0, 0)) ((hgrow1.block _ (by simp) (by simp [Value.ownBlock])).trans (heap_alloc_new W2.drew _))) (by simp [Value.oneCell']) (by omega) C3.out C4.out (Bw.size (by repeat (first | assumption | apply Bw.drew | apply Bw.alloc))) _ rfl ?_; intro gg2 cp2 wB hown2 hgrow2 hat2 hlt2; clear hat2 hlt2)))
  all_goals
    obtain ⟨a3, c3, e3, HA3⟩ := own_wd (ws := (wt s).set p y ++ [0]) (by simpa [vs] using hown2) (fun j hj => app0 HLEN.out HLT.out HY.out hp2 j hj)
    simp only [Value.slice.injEq, true_and] at e3
    obtain ⟨rfl, rfl⟩ := e3
    have hBw : Bw W2 wB := by repeat (first | assumption | apply Bw.drew | apply Bw.alloc | (refine Bw.grow ?_ hgrow2 (own_base hown1)) | (refine Bw.grow ?_ hgrow1 (fun k e => by simp [Value.ownBlock] at e)))
    have HF := hid (four_of HW2.out DW.out HA3 (by omega) hN2 hBw)
    obtain ⟨W5, hW5⟩ : ∃ W5, W5 = wB.alloc (.cells #[.slice a0 len0 cap0, .slice (some ⟨g, 0, none⟩) (M + 1) cap1, .slice (some ⟨gg2, 0, none⟩) (M + 1 + 1) cp2, .slice (some ⟨g, 0, none⟩) M cap1] 23) := ⟨_, rfl⟩
    have HB5 := hid (show Below w.heap.size w W5 by rw [hW5]; exact (bt HB2.out hBw).alloc (by have := HB2.out.size; have := hBw.size; omega) _)
    have hB5 : wB.heap.size < W5.heap.size := by rw [hW5]; simp
    rw [← hW5] at HF ⊢
    clear hW5 hBw HA3 hown1 hown2 hgrow1 hgrow2 HB2 HW2 DW C1 C2 C3 C4 HL0 B0 hM1 hM2 hM3 hM4 hM5 HI HZ0 HZ1 HZ2 hmx HY HLT HLEN HROW HMM
    generalize wB.heap.size = B at *
    go_wp2_with fail
    go_loopw [11] (fun iv wr => ∃ i : Nat, i ≤ 4 ∧ iv = .int .i64 (i : Int) ∧ Hid (Below W5.heap.size W5 wr)) (fun iv _ => 4 - (intOf iv).toNat)
    case atStart => exact ⟨0, by omega, rfl, Below.refl _ _⟩
    case round =>
      obtain ⟨i, hi, rfl, HB⟩ := hrel
      by_cases hlt : i < 4
      · obtain ⟨a, len, cap, L, hl, hc0, hWL⟩ := HF.out i hlt
        have hc : wr.cell? ⟨B, i, none⟩ = some (.slice a len cap) := (HB.out.cell (p := ⟨B, i, none⟩) hB5).trans hc0
        have HWr := hid ((hWL.mono (Nat.le_of_lt hB5)).kept HB.out)
        have hlt2 : (i : Int) < 4 := by omega
        have HBr := hid (show B < wr.heap.size from Nat.lt_of_lt_of_le hB5 HB.out.size)
        clear hc0
        by_cases hp : ftOK len L
        · have HTB := hid (text_back len L hWL.1 hWL.2.1 hp)
          have hsz : ((tx L (L[0]?.getD 0)).size : Int) ≤ 8192 := by
            rw [tx_size]
            obtain ⟨K, n, _, h0, h1, _⟩ := hp
            omega
          have HP := hid hp
          clear hp hWL
          have F1 := hid (ft_yes a len cap L wr HWr.out HP.out)
          have F2 := hid (fun w' (h : Wd w'.heap.size w' a len cap L) => rft_yes a len cap L w' h HP.out)
          generalize tx L (L[0]?.getD 0) = T at *
          go_wp2_with fail
          refine F1.out.mono ?_
          rintro e w6 ⟨rfl, hb6⟩
          have HB6 := hid (HB.out.trans (hb6.mono HB.out.size))
          have hc6 := (hb6.cell (p := ⟨B, i, none⟩) HBr.out).trans hc
          have A6 := hid (HWr.out.kept hb6)
          have HBr6 := hid (Nat.lt_of_lt_of_le HBr.out hb6.size)
          clear hb6 HB hc HWr HBr F1
          go_wp2_with fail
          refine (F2.out _ A6.out).mono ?_
          rintro e w7 ⟨rfl, hb7⟩
          have HB7 := hid (HB6.out.trans (hb7.mono HB6.out.size))
          have hc7 := (hb7.cell (p := ⟨B, i, none⟩) HBr6.out).trans hc6
          have A7 := hid (A6.out.kept hb7)
          have HBr7 := hid (Nat.lt_of_lt_of_le HBr6.out hb7.size)
          clear hb7 HB6 hc6 A6 HBr6 F2
          go_wp2_with fail
          refine (HTB.out _).mono ?_
          rintro e w8 ⟨a8, cap8, rfl, D8, hb8⟩
          have HB8 := hid (HB7.out.trans (hb8.mono HB7.out.size))
          have hc8 := (hb8.cell (p := ⟨B, i, none⟩) HBr7.out).trans hc7
          have A8 := hid (A7.out.kept hb8)
          clear hb8 HB7 hc7 A7 HBr7
          go_wp2_with fail
          refine (sames _ _ _ _ _ _ _ (by omega) D8.out A8.out).mono ?_
          rintro e w9 ⟨rfl, hb9⟩
          have HB9 := hid (HB8.out.trans (hb9.mono HB8.out.size))
          clear hb9 HB8 hc8 A8 D8
          go_wp2_with fail
          go_roundw
          case rel => exact ⟨i + 1, by omega, by go_num, HB9⟩
          case measure => simp [intOf]; omega
        · have F1 := hid (ft_no a len cap L wr hl HWr.out hp)
          have F2 := hid (fun w' (h : Wd w'.heap.size w' a len cap L) => rft_no a len cap L w' hl h hp)
          clear hp hWL
          go_wp2_with fail
          refine F1.out.mono ?_
          rintro e w6 ⟨rfl, hb6⟩
          have HB6 := hid (HB.out.trans (hb6.mono HB.out.size))
          have hc6 := (hb6.cell (p := ⟨B, i, none⟩) HBr.out).trans hc
          have A6 := hid (HWr.out.kept hb6)
          clear hb6 HB hc HWr HBr F1
          go_wp2_with fail
          refine (F2.out _ A6.out).mono ?_
          rintro e w7 ⟨rfl, hb7⟩
          have HB7 := hid (HB6.out.trans (hb7.mono HB6.out.size))
          clear hb7 HB6 hc6 A6 F2
          go_wp2_with fail
          go_roundw
          case rel => exact ⟨i + 1, by omega, by go_num, HB7⟩
          case measure => simp [intOf]; omega
      · obtain rfl : i = 4 := by omega
        go_wp2_with fail
        refine (awake_ok _).mono ?_
        rintro e w9 ⟨rfl, hb9⟩
        go_wp2_with fail
        go_ret
        exact ⟨rfl, bt (HB5.out.trans (HB.out.mono HB5.out.size)) hb9⟩

set_option maxRecDepth 100000 in
theorem lifted (os : Os) (started : os.Started) (H : Type) (enc : TypeId × Value → H) :
    ReturnsInHanded {} Try.checked os 4 .any (Rows.packWordsSpec.pre6 enc Try.prog Try.f4 Rows.packWordsRow.domain false) (Rows.packWordsSpec.post enc Try.prog Try.f4 false true false false) := by
  refine returnsInHanded_of_change (C := Try.checked) own started (by kernel_rfl) Try.func4
    (ChangeSpec.witness6 (enc := enc) (C := Try.checked) false ⟨#[], #[.slice none 0 0, .string ByteArray.empty, .int .i64 0, .int .u64 0], []⟩ 8 (by kernel_rfl) (by kernel_rfl) (by kernel_rfl) (by kernel_rfl)) ?_
  intro W base args ds gs before hval0 hW hcnd _
  have hval : ∀ (j : Nat) t v, Try.f4.params[j]? = some t → args[j]? = some v → Value.okWide Try.prog W .any base t v := hval0
  have hW' := hW
  obtain ⟨p, q, hA0, hV, rfl, hfz, hnd⟩ := hW
  have hA : DataW.TrodAll enc Try.prog W 0 (fun _ => true) true Try.f4.params.toList args.toList ds p := hA0
  rw [Try.params4] at hA hval
  obtain ⟨v0, vs0, d0, ds0, p0, q0, hargs, rfl, rfl, h0, r0⟩ := trodAll_cons hA
  obtain ⟨v1, vs1, d1, ds1, p1, q1, rfl, rfl, rfl, h1, r1⟩ := trodAll_cons r0
  obtain ⟨v2, vs2, d2, ds2, p2, q2, rfl, rfl, rfl, h2, r2⟩ := trodAll_cons r1
  obtain ⟨v3, vs3, d3, ds3, p3, q3, rfl, rfl, rfl, h3, r3⟩ := trodAll_cons r2
  obtain ⟨rfl, rfl, rfl⟩ := trodAll_nil r3
  obtain rfl : args = #[v0, v1, v2, v3] := by cases args; simp_all
  obtain ⟨rfl, rfl⟩ := trodVars_none hV
  obtain ⟨a0, len0, cap0, rfl⟩ := okWide_slice Try.underlying23 (hval 0 23 v0 rfl rfl)
  have k0 := h0
  have lt0 : ∀ x ∈ p0, x.block < W.heap.size := by obtain ⟨m, hm⟩ := k0; exact DataW.trod_lt m _ _ _ hm
  obtain ⟨z0, w0⟩ : ∃ zs, IsRow .u64 W a0 len0 cap0 zs := by
    obtain ⟨fuel, hf⟩ := h0
    rcases open_ints Try.underlying23 Try.underlying32 (by kernel_rfl) hf with ⟨hcs, _⟩ | ⟨x, l, c, zs, hcs, _, hl, hm, hz, _, hcell, hwz⟩
    · simp [Value.cells] at hcs
      obtain ⟨rfl, rfl, rfl⟩ := hcs
      exact ⟨[], .inl ⟨rfl, rfl, rfl, rfl⟩⟩
    · simp [Value.cells] at hcs
      obtain ⟨rfl, rfl, rfl⟩ := hcs
      exact ⟨zs, .inr ⟨_, rfl, hl, hm, by simpa using hz, hcell, hwz⟩⟩
  obtain ⟨a1, rfl, rfl, rfl, w1⟩ := open_string Try.underlying9 (hval 1 9 v1 rfl rfl) h1
  obtain ⟨a2, rfl, rfl, rfl, w2⟩ := open_int Try.underlying3 (hval 2 3 v2 rfl rfl) h2
  obtain ⟨a3, rfl, rfl, rfl, w3⟩ := open_int Try.underlying32 (hval 3 32 v3 rfl rfl) h3
  clear hA0 hval0
  refine (walk a0 len0 cap0 z0 a1 a2 a3 W w0 w1 w2 w3).mono fun e W' ⟨he, bel⟩ => ?_
  subst he
  exact ⟨_, rfl, _, _, _, [], _, [], hW', trodAll_mk1 (shut_bool Try.underlying4 _), (trodAll_cons_mk (Below.trod laidOut (by kernel_rfl) (of_decide_eq_true (by kernel_rfl)) k0 bel lt0) (trodAll_cons_mk (shut_string Try.underlying9 w1) (trodAll_cons_mk (shut_int Try.underlying3 w2) (trodAll_cons_mk (shut_int Try.underlying32 w3) trodAll_mk0)))), rfl, bel.frame _, fun h => by cases h⟩

theorem over : Rows.packWordsRow.holds Try.pinned (OpenSpec.ofChange Rows.packWordsSpec) :=
  OpenClaim.holds_of_wide 4 Try.f4 rfl rfl rfl rfl rfl rfl rfl ⟨rfl, rfl, rfl, rfl, rfl⟩ rfl rfl rfl rfl rfl (by kernel_rfl) Try.func4 (by kernel_rfl)
    (of_decide_eq_true (by kernel_rfl)) (by unfold Func.isWrapper; first | (rw [if_pos (by decide +kernel)]; kernel_rfl) | (rw [if_neg (by decide +kernel)]; exact ⟨rfl, rfl⟩))
    (fun os started H enc _ => lifted os started H enc)

theorem proved : Rows.PackWordsSaid := over
#print axioms proved
end Go.Proofs.Ytflmfjfeeajkfaa.packWords
