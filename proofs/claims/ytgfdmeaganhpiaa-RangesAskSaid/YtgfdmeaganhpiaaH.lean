/- Cursors of layer 3. No conditions but those of each theorem. -/
import Derived.Test.YtgfdmeaganhpiaaG
namespace Go.Proofs.Ytgfdmeaganhpiaa.Old
open Go.ChangeShapes Go.WideShapes Go.ChangeAt Go.RowKit
set_option linter.unusedVariables false
set_option linter.unusedSimpArgs false

theorem Pr.kept {W W' : World} {B t : Nat} {x y : Value} {row : Option Nat} (h : Pr W B t x y) (hg : W.grownBy W' row) (hB : row ≠ some B) : Pr W' B t x y :=
  (hg.block B h.lt (fun e => hB e.symm)).trans h
theorem Pr.below {W W' : World} {B t n : Nat} {x y : Value} (h : Pr W B t x y) (hb : Below n W W') (hB : B < n) : Pr W' B t x y := (hb.block B hB).trans h
theorem Pr.frozen {W : World} {B t : Nat} {x y : Value} (h : Pr W B t x y) (j : Nat) : W.frozen? ⟨B, j, none⟩ = false := frozen_of_row _ _ _ _ _ h
theorem Pr.set0 {W : World} {B t : Nat} {x y : Value} (h : Pr W B t x y) (v : Value) : Pr (W.setCell ⟨B, 0, none⟩ v) B t v y := by
  have := heap_setCell_same W B 0 #[x, y] t v h
  exact this
theorem Pr.set1 {W : World} {B t : Nat} {x y : Value} (h : Pr W B t x y) (v : Value) : Pr (W.setCell ⟨B, 1, none⟩ v) B t x v := by
  have := heap_setCell_same W B 1 #[x, y] t v h
  exact this
theorem grown_cell (W : World) (B off : Nat) (v : Value) : W.grownBy (W.setCell ⟨B, off, none⟩ v) (some B) :=
  ⟨rfl, rfl, rfl, by simp, fun i _ hne => heap_setCell_other _ _ _ _ (fun e => hne (by rw [e]))⟩

/-- numbers as values -/
def vi (zs : List Int) : List Value := zs.map (Value.int .i64)
theorem vi_append (a b : List Int) : vi (a ++ b) = vi a ++ vi b := by simp [vi]
theorem ends_snoc (l : List Rn) (k : Nat) (hk : k < l.length) : ends (l.take (k + 1)) = ends (l.take k) ++ [(l[k]?.getD (0, 0)).1, (l[k]?.getD (0, 0)).1 + (l[k]?.getD (0, 0)).2] := by
  rw [List.take_succ_eq_append_getElem hk, ends_append, List.getElem?_eq_getElem hk]; rfl

theorem grown_more {A B C : World} {r r' : Option Nat} (h : A.grownBy B r) (k : B.grownBy C r') (hr : ∀ n, r' = some n → A.heap.size ≤ n) : A.grownBy C r :=
  ⟨k.os.trans h.os, k.tape.trans h.tape, k.output.trans h.output, Nat.le_trans h.size k.size, fun i hi hne => (k.block i (Nat.lt_of_lt_of_le hi h.size) (fun e => by have := hr i e.symm; omega)).trans (h.block i hi hne)⟩

set_option maxHeartbeats 2000000 in
theorem cursor_any (a : Option Addr) (len cap : Nat) (rs : List Rn) (hbig : len ≤ 1000000) (hv : ∀ r ∈ rs, Vld r) (w : World) (hR : Rg w.heap.size w a len rs) :
    Calls Try.prog 40 #[.slice a len cap] w fun e w' => ∃ ev, e = .returned (.agg #[ev, .bool false]) ∧ ∃ out, NF out ∧ out.length ≤ len ∧ (∀ n, Mem out n ↔ Mem rs n) ∧ Hid (w'.ownsRow w.heap.size 3 1 ev (2 * out.length) (vi (ends out)) ∧ Below w.heap.size w w') := by
  obtain ⟨i0, hi, hz0, hz1, hz2⟩ := info_parts Try.info3
  have HI := hid hi; have HZ0 := hid hz0; have HZ1 := hid hz1; have HZ2 := hid hz2
  clear hi hz0 hz1 hz2
  have HR := hid hR
  have HV := hid hv
  clear hR hv
  go_enter Try.func40, Try.ntmps40
  go_wp2_with fail
  have P0 := hid ((Pr.new w 51 (.slice none 0 0) (.bool false)).alloc (.cells #[.slice none 0 0, .bool false] 51))
  have P1 := hid (Pr.new (w.alloc (.cells #[.slice none 0 0, .bool false] 51)) 51 (.slice none 0 0) (.bool false))
  have hB0 := hid (((Below.refl w.heap.size w).alloc (Nat.le_refl _) (.cells #[.slice none 0 0, .bool false] 51)).alloc (by simp) (.cells #[.slice none 0 0, .bool false] 51))
  have hs0 : ((w.alloc (.cells #[.slice none 0 0, .bool false] 51)).alloc (.cells #[.slice none 0 0, .bool false] 51)).heap.size = w.heap.size + 2 := by simp
  rw [World.size_alloc] at P1
  generalize (w.alloc (.cells #[.slice none 0 0, .bool false] 51)).alloc (.cells #[.slice none 0 0, .bool false] 51) = wA at *
  refine (normal_any a len cap rs hbig HV.out wA (HR.out.kept hB0.out)).mono ?_
  rintro e w2 ⟨v1, rfl, out, hnf, hol, hmem, H2⟩
  obtain ⟨a1, c1, rfl⟩ := own_slice H2.out.1
  have Q0 := hid (P0.out.below H2.out.2 (by omega))
  have Q1 := hid (P1.out.below H2.out.2 (by omega))
  have HB2 := hid (bt hB0.out H2.out.2)
  have hs2 : w.heap.size + 2 ≤ w2.heap.size := by have := H2.out.2.size; omega
  have HO1 := hid H2.out.1
  have HNF := hid hnf
  have HM := hid hmem
  clear P0 P1 hB0 H2 HR HV hnf hmem
  go_wp2_with fail
  go_loopw [9] (fun iv wr => ∃ k : Nat, k ≤ out.length ∧ iv = .int .i64 (k : Int) ∧ ∃ ea ec, Hid (Pr wr (w.heap.size + 1) 51 (.slice ea (2 * k) ec) (.bool false)) ∧ Hid (wr.ownsRow w2.heap.size 3 1 (.slice ea (2 * k) ec) (2 * k) (vi (ends (out.take k)))) ∧ Hid (w2.grownBy wr (some (w.heap.size + 1)))) (fun iv _ => out.length - (intOf iv).toNat)
  case atStart => exact ⟨0, by omega, rfl, none, 0, hid Q1.out, hid (World.ownsRow_nil _ _ _ _), hid ⟨rfl, rfl, rfl, Nat.le_refl _, fun _ _ _ => rfl⟩⟩
  case round =>
    obtain ⟨k, hk, rfl, ea, ec, HP, HO, HG⟩ := hrel
    have hsr : w2.heap.size ≤ wr.heap.size := HG.out.size
    by_cases hlt : k < out.length
    · have HO2 := hid (own_grown' HO1.out HG.out (fun k hk e => by have := own_base HO1.out k hk; have := Option.some.inj e; omega))
      obtain ⟨g, rfl, hg1, hg2, hall, _⟩ := own_cells HO2.out (by omega)
      have c0 := (hall k hlt).1
      have c1' := (hall k hlt).2
      clear hall
      have hm := at_mem out k hlt
      have hv := HNF.out.1 _ hm
      have HSn := hid (ends_snoc out k hlt)
      obtain ⟨⟨s, l⟩, hr⟩ : ∃ r : Rn, r = out[k]?.getD (0, 0) := ⟨_, rfl⟩
      rw [← hr] at c0 c1' hv HSn
      clear hr hm
      simp only at c0 c1' HSn
      obtain ⟨v1, v2, v3⟩ := hv
      simp only at v1 v2 v3
      have h3 : (k : Int) < (out.length : Int) := by omega
      have HQ := hid (Pr.new wr 42 (.int .i64 s) (.int .i64 l))
      have HP3 := hid (HP.out.alloc (.cells #[.int .i64 s, .int .i64 l] 42))
      have HO3 := hid (HO.out.alloc (.cells #[.int .i64 s, .int .i64 l] 42))
      have HG3 := hid (grown_more HG.out (World.grownBy_alloc wr (.cells #[.int .i64 s, .int .i64 l] 42) none) (fun k e => by cases e))
      have e0 := HP3.out.c0
      have f0 := HP3.out.frozen 0
      have hs3 : w2.heap.size ≤ (wr.alloc (.cells #[.int .i64 s, .int .i64 l] 42)).heap.size := HG3.out.size
      have d0 := HQ.out.c0
      have d1 := HQ.out.c1
      clear HP HO HG HO2
      generalize hw3 : wr.alloc (.cells #[.int .i64 s, .int .i64 l] 42) = w3 at *
      have HW3 := hid hw3
      have HNw := hid (World.news_of_block (w := w3.alloc (.cells #[.int .i64 s, .int .i64 (s + l)] 3)) (cs := #[.int .i64 s, .int .i64 (s + l)]) (t := 3) (fr := (0, 0)) (B := w3.heap.size) (heap_alloc_new _ _))
      go_wp2_with (first | (at_builtin; refine wpList_append_own _ rfl _ _ 27 rfl w2.heap.size 3 i0 (.int .i64 0) 1 8 Try.underlying27 HI.out HZ0.out HZ1.out HZ2.out rfl (by decide) (.slice ea (2 * k) ec) (2 * k) _ rfl (HO3.out.alloc _) ⟨w3.heap.size, 0, none⟩ 2 2 [.int .i64 s, .int .i64 (s + l)] rfl rfl HNw.out (by simp [Value.oneCell']) (by unfold maxLen; omega) (by omega) (by simp; omega) ?_; intro v4 w4 hown4 hgrow4 _; obtain ⟨a4, c4, rfl⟩ := own_slice hown4; have HO4 := hid hown4; have HG4 := hid (grown_more (grown_more HG3.out (World.grownBy_alloc w3 (.cells #[.int .i64 s, .int .i64 (s + l)] 3) none) (fun k e => by cases e)) hgrow4 (fun k e => own_base HO3.out k e)); have HP4 := hid ((HP3.out.alloc (.cells #[.int .i64 s, .int .i64 (s + l)] 3)).kept hgrow4 (fun e => by have := own_base HO3.out _ e; omega)); have f4 := HP4.out.frozen 0; have g4 := HP4.out.c0; clear hown4 hgrow4 f0 e0 d0 d1))
      refine ⟨⟨k + 1, by omega, by go_num, a4, c4, hid (HP4.out.set0 _), hid ?_, hid (grown_trans HG4.out (grown_cell _ _ _ _))⟩, by simp [intOf]; omega⟩
      have hO5 := own_grown' HO4.out (grown_cell w4 (w.heap.size + 1) 0 (.slice a4 (2 * k + 2) c4)) (fun q hq e => by have := own_base HO4.out q hq; have := Option.some.inj e; omega)
      rw [HSn.out, vi_append]
      exact hO5
    · obtain rfl : k = out.length := by omega
      have h3 : ¬ (out.length : Int) < (out.length : Int) := by omega
      have htk : out.take out.length = out := by simp
      rw [htk] at HO
      have e0 := HP.out.c0
      have e1 := HP.out.c1
      have HP0 := hid (Q0.out.kept HG.out (by simp))
      have f0 := HP0.out.frozen 0
      have f1 := HP0.out.frozen 1
      have g0 := HP0.out.c0
      have g1 := HP0.out.c1
      go_wp2_with fail
      have HF := hid ((HP0.out.set0 (.slice ea (2 * out.length) ec)).set1 (.bool false))
      have x0 := HF.out.c0
      have x1 := HF.out.c1
      have HG5 := hid (grown_trans (grown_cell wr w.heap.size 0 (.slice ea (2 * out.length) ec)) (grown_cell _ w.heap.size 1 (.bool false)))
      have HO5 := hid (own_grown' HO.out HG5.out (fun q hq e => by have := own_base HO.out q hq; have := Option.some.inj e; omega))
      have HB5 := hid ((HB2.out.grown HG.out (by omega) (fun k e => by have := Option.some.inj e; omega)).grown HG5.out (by omega) (fun k e => by have := Option.some.inj e; omega))
      refine bodyPost_ret (v := .agg #[.slice ea (2 * out.length) ec, .bool false]) ?_ rfl ?_
      · simp [results, Try.f40, go_sem, x0, x1]
      · exact ⟨_, rfl, out, HNF.out, hol, HM.out, hid ⟨own_mono (by omega) HO5.out, HB5.out⟩⟩
end Go.Proofs.Ytgfdmeaganhpiaa.Old
