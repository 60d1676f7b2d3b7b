/- slices.Clone, the program's Image; the builder's Keep, Few, Words; the reference's Same. No conditions but those of each theorem. -/
import Derived.Test.YtfaeieeokelokaaK
import Derived.Lib.SliceRun
import Derived.Deep.AppendLies
namespace Go.Proofs.Ytfaeieeokelokaa
open Go.ChangeShapes Go.WideShapes Go.ChangeAt Go.RowKit
set_option linter.unusedVariables false
set_option linter.unusedSimpArgs false
attribute [local go_sem] Oper.semAt_some putAll
theorem Try.info26 : (Try.prog.info? 26).map (fun i => (i.zero, i.size, i.bytes)) = some (some (.int .u64 0), 1, 8) := by kernel_rfl
theorem Try.info4 : (Try.prog.info? 4).map (fun i => (i.zero, i.size, i.bytes)) = some (some (.bool false), 1, 1) := by kernel_rfl
theorem vu_len (X : List Int) : (vu X).length = X.length := by simp [vu]
theorem row_of {w : World} {base n : Nat} {X : List Int} {v : Value} (h : w.ownsRow base 26 1 v n (vu X)) (hn : 1 ≤ n) (hl : X.length = n) : ∃ g c, v = .slice (some ⟨g, 0, none⟩) n c ∧ base ≤ g ∧ Row w g c X := by
  subst hl
  rcases h.2 with ⟨_, h0⟩ | ⟨g, cap, cur, rfl, hb, hg, r1, r2, r3, r4⟩
  · omega
  · exact ⟨g, cap, rfl, hb, h.1, .inr ⟨g, cap, cur, rfl, Nat.zero_le _, hg, r1, r2, r3, r4⟩⟩
theorem Row.news {w : World} {g c : Nat} {X : List Int} (h : Row w g c X) : ∀ j u, (vu X)[j]? = some u → w.cell? ((⟨g, 0, none⟩ : Addr).add j) = some u := World.ownsRow.cells h rfl
set_option maxHeartbeats 4000000 in
theorem clone_ok {W : World} {g cap : Nat} {X : List Int} (h : Row W g cap X) (h1 : 1 ≤ X.length) (hbig : X.length ≤ 1000000) :
    Calls Try.prog 44 #[.slice (some ⟨g, 0, none⟩) X.length cap] W fun e W' => ∃ g' c', e = .returned (.slice (some ⟨g', 0, none⟩) X.length c') ∧ W.heap.size ≤ g' ∧ Hid (Row W' g' c' X ∧ Below W.heap.size W W') := by
  have q36 : ∀ (w : World) (a : Option Addr) (n c n' c' : Nat), (binOp .eql 36 (.slice a n c) (.slice none n' c')).run Try.prog w = .ok (.bool a.isNone) w := fun w a n c n' c' => Lib.run_eql_slice_nil w _ _ a n c n' c' Try.underlying36
  obtain ⟨i0, hi, hz0, hz1, hz2⟩ := info_parts Try.info26
  have HI := hid hi; have HZ0 := hid hz0; have HZ1 := hid hz1; have HZ2 := hid hz2
  clear hi hz0 hz1 hz2
  have HLn := hid (show (vu X).length = X.length * 1 by rw [vu_len]; omega)
  have HB := hid ((Below.refl W.heap.size W).alloc (Nat.le_refl _) (.cells #[] 26))
  have HR1 := hid (h.gr (Gr.of_below HB.out []) (by simp))
  have HO := hid (World.ownsRow_made (base := W.heap.size) (e := 26) (size := 1) W #[] 0 (Nat.le_refl _) (by unfold maxLen; omega) rfl)
  have hs1 : (W.alloc (.cells #[] 26)).heap.size = W.heap.size + 1 := by simp
  clear h
  go_enter Try.func44, Try.ntmps44
  go_wp2_with (first | (at_builtin; refine wpList_append_own _ rfl _ _ 36 rfl W.heap.size 26 i0 (.int .u64 0) 1 8 Try.underlying36 HI.out HZ0.out HZ1.out HZ2.out rfl (by decide) (.slice (some ⟨W.heap.size, 0, none⟩) 0 0) 0 [] rfl HO.out ⟨g, 0, none⟩ X.length cap (vu X) rfl HLn.out HR1.out.news (one_vu X) (by unfold maxLen; omega) (by omega) (by omega) ?_; intro v4 w4 hown4 hgrow4 _))
  go_ret
  obtain ⟨g', c', rfl, hb, hR⟩ := row_of (n := X.length) (by simpa using hown4) h1 rfl
  refine ⟨g', c', rfl, hb, hid ⟨hR, HB.out.grown hgrow4 (by omega) (fun k e => ?_)⟩⟩
  have : W.heap.size = k := by simpa [Value.ownBlock] using e
  omega
set_option maxHeartbeats 4000000 in
theorem image_ok {W : World} {A : Nat} {c : Co} {k : Dk} (h : DA W A c k) (d : Nat) (hd' : d < k.U.length) :
    Calls Try.prog 18 #[.pointer (some ⟨A, 0, none⟩), .int .i64 (d : Int)] W fun e W' => ∃ g' c', e = .returned (.tuple #[.slice (some ⟨g', 0, none⟩) (gu k.U d).now.length c', .int .i64 0]) ∧ W.heap.size ≤ g' ∧ Hid (Row W' g' c' (gu k.U d).now ∧ Below W.heap.size W W') := by
  have HF := hid (has_ok h (d : Int))
  rw [hd_iff.2 ⟨d, rfl, hd'⟩] at HF
  have c0 := h.c0
  obtain ⟨ub, hub, hul, c1, -, -, -⟩ := h.unit hd'
  rw [hub] at c0
  have hb8 := h.b8
  have hbn := h.bn d hd'
  have HC := hid (clone_ok (h.rn d hd') hbn.1 (by omega))
  generalize (gu k.U d).now.length = len at *
  clear h hub
  go_enter Try.func18, Try.ntmps18
  go_wp2_with fail
  refine HF.out.mono ?_
  rintro e w1 ⟨rfl, rfl⟩
  go_wp2_with fail
  refine HC.out.mono ?_
  rintro e w2 ⟨g', c', rfl, hg, H2⟩
  go_wp2_with fail
  go_ret2
  exact ⟨g', c', rfl, hg, H2⟩
set_option maxHeartbeats 4000000 in
theorem image_no {W : World} {A : Nat} {c : Co} {k : Dk} (h : DA W A c k) (d : Int) (hd' : hd k d = false) :
    Calls Try.prog 18 #[.pointer (some ⟨A, 0, none⟩), .int .i64 d] W fun e W' => e = .returned (.tuple #[.slice none 0 0, .int .i64 1]) ∧ W' = W := by
  have HF := hid (has_ok h d)
  rw [hd'] at HF
  clear h
  go_enter Try.func18, Try.ntmps18
  go_wp2_with fail
  refine HF.out.mono ?_
  rintro e w1 ⟨rfl, rfl⟩
  go_wp2_with fail
  go_ret2
  exact ⟨rfl, rfl⟩
set_option maxHeartbeats 4000000 in
theorem few_ok (a : Option Addr) (n c : Nat) (W : World) : Calls Try.prog 12 #[.slice a n c] W fun e W' => e = .returned (.bool (decide (n ≤ 24))) ∧ W' = W := by
  by_cases h : n ≤ 24
  · rw [decide_eq_true h]
    have h' : (n : Int) ≤ 24 := by omega
    go_enter Try.func12, Try.ntmps12
    go_wp2_with fail
    go_ret
    exact ⟨by simp [h'], rfl⟩
  · rw [decide_eq_false h]
    have h' : decide ((n : Int) ≤ 24) = false := decide_eq_false (by omega)
    go_enter Try.func12, Try.ntmps12
    go_wp2_with fail
    go_ret
    exact ⟨by simp [h'], rfl⟩
/-- does write j survive? -/
def kpf (w : Int) (j : Nat) : Bool := bits .and .u64 (w / 2 ^ (j % 64)) 1 == 1
theorem kpf_all (j : Nat) : kpf 18446744073709551615 j = true := by
  have h : ∀ i : Fin 64, (bits .and .u64 ((18446744073709551615 : Int) / 2 ^ i.1) 1 == 1) = true := by decide +kernel
  exact h ⟨j % 64, Nat.mod_lt _ (by omega)⟩
def kb (w : Int) (j : Nat) : List Value := (List.range j).map fun i => .bool (kpf w i)
theorem kb_len (w : Int) (j : Nat) : (kb w j).length = j := by simp [kb]
theorem kb_succ (w : Int) (j : Nat) : kb w (j + 1) = kb w j ++ [.bool (kpf w j)] := by simp [kb, List.range_succ]
theorem kb_at (w : Int) {j i : Nat} (h : i < j) : (kb w j)[i]? = some (.bool (kpf w i)) := by
  unfold kb; rw [List.getElem?_map, List.getElem?_range h]; rfl
theorem own_form {w : World} {base : Nat} {e : TypeId} {size : Nat} {a : Option Addr} {n c : Nat} {xs : List Value} (h : w.ownsRow base e size (.slice a n c) n xs) (hn : 0 < n) : ∃ g, a = some ⟨g, 0, none⟩ ∧ base ≤ g ∧ g < w.heap.size := by
  obtain ⟨g, rfl⟩ := own_pos h hn
  exact ⟨g, rfl, (World.ownsRow.lt h g rfl)⟩
set_option maxRecDepth 100000 in
set_option maxHeartbeats 4000000 in
theorem keep_ok (w : Int) (W : World) : Calls Try.prog 17 #[.int .u64 w] W fun e W' => ∃ g c, e = .returned (.slice (some ⟨g, 0, none⟩) 192 c) ∧ W.heap.size ≤ g ∧ Hid (g < W'.heap.size ∧ (∀ i, i < 192 → W'.cell? ⟨g, i, none⟩ = some (.bool (kpf w i))) ∧ Below W.heap.size W W') := by
  obtain ⟨i0, hi, hz0, hz1, hz2⟩ := info_parts Try.info4
  have HI := hid hi; have HZ0 := hid hz0; have HZ1 := hid hz1; have HZ2 := hid hz2
  clear hi hz0 hz1 hz2
  go_enter Try.func17, Try.ntmps17
  go_wp2_with fail
  go_loopw [3, 4] (fun sv iv wr => ∃ (j : Nat) (a : Option Addr) (cc : Nat), j ≤ 192 ∧ sv = .slice a j cc ∧ iv = .int .i64 (j : Int) ∧ Hid (wr.ownsRow W.heap.size 4 1 (.slice a j cc) j (kb w j)) ∧ Hid (Below W.heap.size W wr)) (fun _ iv _ => 192 - (intOf iv).toNat)
  case atStart => exact ⟨0, none, 0, by omega, rfl, rfl, hid (World.ownsRow_nil _ _ _ _), hid (Below.refl _ _)⟩
  case round =>
    obtain ⟨j, a, cc, hj, rfl, rfl, HO, HB⟩ := hrel
    by_cases hlt : j < 192
    · have hlt' : (j : Int) < 192 := by omega
      have HKD := hid (show (bits .and .u64 (w / 2 ^ (j % 64)) 1 == 1) = kpf w j from rfl)
      have HO2 := hid (HO.out.alloc (.cells #[.bool (bits .and .u64 (w / 2 ^ (j % 64)) 1 == 1)] 4))
      have HN := hid (World.news_of_block (w := wr.alloc (.cells #[.bool (bits .and .u64 (w / 2 ^ (j % 64)) 1 == 1)] 4)) (cs := #[.bool (bits .and .u64 (w / 2 ^ (j % 64)) 1 == 1)]) (t := 4) (fr := (0, 0)) (B := wr.heap.size) (heap_alloc_new _ _))
      have HBs := hid HB.out.size
      go_wp2_with (first | (at_builtin; refine wpList_append_lies _ rfl _ _ 42 rfl W.heap.size 4 i0 (.bool false) 1 1 Try.underlying42 HI.out HZ0.out HZ1.out HZ2.out rfl (by decide) _ _ _ rfl HO2.out ⟨wr.heap.size, 0, none⟩ 1 1 [.bool (bits .and .u64 (w / 2 ^ (j % 64)) 1 == 1)] rfl rfl HN.out (by simp [Value.oneCell']) (by omega) (by unfold maxLen; omega) (by omega) (by have := HBs.out; simp; omega) _ rfl ?_; intro g4 c4 w4 hown4 hgrow4 hat4 hlt4))
      have HO4 := hid (show w4.ownsRow W.heap.size 4 1 (.slice (some ⟨g4, 0, none⟩) (j + 1) c4) (j + 1) (kb w (j + 1)) by rw [kb_succ, ← HKD.out]; exact hown4)
      have HB4 := hid (show Below W.heap.size W w4 from (HB.out.alloc HB.out.size _).grown hgrow4 (by have := HBs.out; simp; omega) (fun k hk => (World.ownsRow.lt HO.out k hk).1))
      clear hown4 hgrow4 hat4 hlt4
      go_wp2_with fail
      go_roundw
      case rel => exact ⟨j + 1, _, _, by omega, rfl, by go_num, HO4, HB4⟩
      case measure => simp [intOf]; omega
    · obtain rfl : j = 192 := by omega
      have hlt' : ¬ ((192 : Nat) : Int) < 192 := by omega
      obtain ⟨g, rfl, hg1, hg2⟩ := own_form HO.out (by omega)
      go_wp2_with fail
      go_ret
      exact ⟨g, ⟨cc, rfl⟩, hg1, hid ⟨hg2, fun i hi => by rw [World.ownsRow.cellAt HO.out i (by omega), kb_at w hi], HB.out⟩⟩
end Go.Proofs.Ytfaeieeokelokaa
