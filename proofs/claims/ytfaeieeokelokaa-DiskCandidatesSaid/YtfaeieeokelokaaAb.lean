/- Wrote, Reads of what is known of the sectors of a device. No conditions but those of each theorem. -/
import Derived.Test.YtfaeieeokelokaaAa
namespace Go.Proofs.Ytfaeieeokelokaa
open Go.ChangeShapes Go.WideShapes Go.ChangeAt Go.RowKit
set_option linter.unusedVariables false
set_option linter.unusedSimpArgs false
theorem up_up {α : Type} (f : Nat → α) (i : Nat) (x y : α) : up (up f i x) i y = up f i y := by
  funext a
  unfold up
  by_cases e : a = i
  · rw [if_pos e, if_pos e]
  · rw [if_neg e, if_neg e, if_neg e]
theorem gr_b {W : World} {t b j : Nat} {x : Value} : Gr [t, b] W (W.setCell ⟨b, j, none⟩ x) := (set_gr W b j x).mono (fun y hy => by obtain rfl := List.mem_singleton.1 hy; simp)
theorem TS.of {W W2 : World} {t b cb n : Nat} {G : Nat → Nat × Nat} {f' : Nat → Sc} {i : Nat} {g c : Nat} (h : TK W2 t b cb n (up G i (g, c)) f') (h1 : Gr [t, b] W W2) (hg : W.heap.size ≤ g) : TS W W2 t b cb n G f' :=
  ⟨_, h, h1, fun j hj => by
    by_cases e : j = i
    · subst e; right; rw [up_eq]; exact hg
    · rw [up_ne _ e]; exact .inl rfl⟩
set_option maxRecDepth 100000 in
set_option maxHeartbeats 8000000 in
theorem wrote_ok {W : World} {t b cb n : Nat} {G : Nat → Nat × Nat} {f : Nat → Sc} (h : TK W t b cb n G f) (i : Nat) (hi : i < n) (v : Int) (d : Bool) (hS : (f i).S.length ≤ 1000) :
    Calls Try.prog 27 #[.pointer (some ⟨t, 0, none⟩), .int .i64 (i : Int), .int .u64 v, .bool d] W fun e W' => e = .returned (.tuple #[]) ∧ Hid (TS W W' t b cb n G (up f i ⟨(f i).S ++ [v], d, v⟩)) := by
  obtain ⟨i0, hi0, hz0, hz1, hz2⟩ := info_parts Try.info26
  have HI := hid hi0; have HZ0 := hid hz0; have HZ1 := hid hz1; have HZ2 := hid hz2
  have H := hid h
  have hl := h.lim
  have c0 := h.cT
  obtain ⟨cs, c1, c2, cf⟩ := h.cS hi
  have HR := hid (h.inn i hi)
  have HT := hid (show t < W.heap.size ∧ b < W.heap.size from ⟨own_lt h.blk, own_lt h.row⟩)
  have HLn := hid (show (vu (f i).S).length = (f i).S.length * 1 by rw [vu_len]; omega)
  have hi' : (i : Int) < (n : Int) := by omega
  have HIN := hid hi
  have HSL := hid hS
  clear h hi0 hz0 hz1 hz2 hi
  go_enter Try.func27, Try.ntmps27
  go_wp2_with (first | (at_builtin; refine wpList_append_own _ rfl _ _ 36 rfl W.heap.size 26 i0 (.int .u64 0) 1 8 Try.underlying36 HI.out HZ0.out HZ1.out HZ2.out rfl (by decide) (.slice none 0 0) 0 [] rfl (World.ownsRow_nil _ _ _ _) ⟨(G i).1, 0, none⟩ (f i).S.length (G i).2 (vu (f i).S) rfl HLn.out HR.out.news (one_vu _) (by unfold maxLen; omega) (by omega) (by omega) ?_; intro v1 w1 hown1 hgrow1 _; simp only [Nat.zero_add, List.nil_append] at hown1; obtain ⟨va, vc, rfl⟩ := own_slice hown1; have hb1 : Below W.heap.size W w1 := (Below.refl _ _).grown hgrow1 (Nat.le_refl _) (fun k e => by simp [Value.ownBlock] at e); have hsz1 := hb1.size; have HB1 := hid hb1; have HO1 := hid hown1; clear hown1 hgrow1 hb1) | (at_builtin; refine wpList_append_own _ rfl _ _ 36 rfl W.heap.size 26 i0 (.int .u64 0) 1 8 Try.underlying36 HI.out HZ0.out HZ1.out HZ2.out rfl (by decide) _ _ _ rfl (HO1.out.alloc _) ⟨w1.heap.size, 0, none⟩ 1 1 [.int .u64 v] rfl rfl (cell_one_new _ _ _) (by simp [Value.oneCell']) (by have := HSL.out; unfold maxLen; omega) (by have := HSL.out; omega) (by simp; omega) ?_; intro v2 w2 hown2 hgrow2 _; obtain ⟨X2, hX2⟩ : ∃ X2, X2 = (f i).S ++ [v] := ⟨_, rfl⟩; obtain ⟨g2, cg2, rfl, hg2, hR2⟩ := row_ofw (X := X2) (by rw [hX2]; simp only [vu, List.map_append, List.map_cons, List.map_nil]; exact hown2) (by rw [hX2]; simp) (by rw [hX2]; simp); have hb2 : Below W.heap.size W w2 := (HB1.out.alloc hsz1 _).grown hgrow2 (by simp; omega) (own_base HO1.out); have HK2 := hid (H.out.below hb2); have HG2 := hid (Gr.of_below hb2 [t, b]); obtain ⟨cs2, c12, c22, cf2⟩ := HK2.out.cS HIN.out; have HR2 := hid hR2; have HX2 := hid hX2; clear hown2 hgrow2 hb2 hR2 hX2 HO1 HB1))
  have h2 := ((HK2.out.put0 (i := i) g2 cg2 X2 HR2.out (by have := HT.out; omega) (by have := HT.out; omega)).put1 (i := i) d).put2 (i := i) v
  rw [up_eq, up_up, up_eq, up_up, HX2.out] at h2
  go_end0
  exact ⟨rfl, hid (TS.of (i := i) (by first | exact h2 | (rw [HX2.out]; exact h2)) (HG2.out.trans (gr_b.trans (gr_b.trans gr_b))) hg2)⟩
set_option maxRecDepth 100000 in
set_option maxHeartbeats 8000000 in
theorem reads_ok {W : World} {t b cb n : Nat} {G : Nat → Nat × Nat} {f : Nat → Sc} (h : TK W t b cb n G f) (i : Nat) (hi : i < n) (v : Int) (hk : (f i).kn = false) (hS : (f i).S.length ≤ 1000) :
    Calls Try.prog 30 #[.pointer (some ⟨t, 0, none⟩), .int .i64 (i : Int), .int .u64 v, .bool true] W fun e W' => e = .returned (.bool (decide (v ∈ (f i).S))) ∧ Hid (TS W W' t b cb n G (up f i ⟨[v], true, v⟩)) := by
  have H := hid h
  have hl := h.lim
  have c0 := h.cT
  obtain ⟨cs, c1, c2, cf⟩ := h.cS hi
  rw [hk] at c1
  have HR := hid (h.inn i hi)
  have HT := hid (show t < W.heap.size ∧ b < W.heap.size from ⟨own_lt h.blk, own_lt h.row⟩)
  have hbW : b < W.heap.size := HT.out.2
  have hi' : (i : Int) < (n : Int) := by omega
  have HIN := hid hi
  have HSL := hid hS
  clear h hi
  generalize hX : (f i).S = X at *
  go_enter Try.func30, Try.ntmps30
  go_wp2_with fail
  go_loopw [10, 11] (fun bv iv wr => ∃ (k : Nat), k ≤ X.length ∧ iv = .int .i64 (k : Int) ∧ bv = .bool (decide (v ∈ X.take k)) ∧ wr = W) (fun _ iv _ => X.length - (intOf iv).toNat)
  case atStart => exact ⟨0, by omega, rfl, by simp, rfl⟩
  case round =>
    obtain ⟨k, hk2, rfl, rfl, rfl⟩ := hrel
    by_cases hlt : k < X.length
    · have hlt' : (k : Int) < (X.length : Int) := by omega
      have x0 := HR.out.at k hlt
      have HTK := hid (show decide (v ∈ X.take (k + 1)) = (decide (v ∈ X.take k) || decide (ge X k = v)) by
        have h9 : (v ∈ X.take (k + 1)) ↔ (v ∈ X.take k ∨ ge X k = v) := by
          rw [List.take_succ_eq_append_getElem hlt, List.mem_append, List.mem_singleton]
          unfold ge
          rw [List.getElem?_eq_getElem hlt]
          exact or_congr Iff.rfl eq_comm
        rw [Bool.eq_iff_iff]
        simp only [decide_eq_true_eq, Bool.or_eq_true]
        exact h9)
      cases hd : decide (v ∈ X.take k) with
      | true =>
        rw [hd] at HTK
        go_wp2_with fail
        go_roundw
        case rel => exact ⟨k + 1, by omega, by go_num, by rw [HTK.out]; rfl, trivial⟩
        case measure => simp [intOf]; omega
      | false =>
        rw [hd] at HTK
        go_wp2_with fail
        go_roundw
        case rel => exact ⟨k + 1, by omega, by go_num, by rw [HTK.out]; simp; rfl, trivial⟩
        case measure => simp [intOf]; omega
    · obtain rfl : k = X.length := by omega
      have hlt' : ¬ (X.length : Int) < (X.length : Int) := by omega
      rw [List.take_length]
      have k1 := (H.out.put1 (i := i) true).put2 (i := i) v
      rw [up_eq, up_up] at k1
      generalize hW1 : (wr.setCell ⟨b, i * 3 + 1, none⟩ (.bool true)).setCell ⟨b, i * 3 + 2, none⟩ (.int .u64 v) = w1 at k1
      have hg1 : Gr [t, b] wr w1 := by rw [← hW1]; exact gr_b.trans gr_b
      have hlb1 : b < w1.heap.size := own_lt k1.row
      have hlt1 : t < w1.heap.size := own_lt k1.blk
      have hb1 := (Below.refl w1.heap.size w1).alloc (Nat.le_refl _) (.cells #[.int .u64 v] 26)
      have h2 := (k1.below hb1).put0 (i := i) w1.heap.size 1 [v] (row_one w1 v) (by omega) (by omega)
      rw [up_eq, up_up, World.setCell_alloc_past _ _ _ _ hlb1] at h2
      have H2 := hid (show TK ((w1.setCell ⟨b, i * 3, none⟩ (.slice (some ⟨w1.heap.size, 0, none⟩) 1 1)).alloc (.cells #[.int .u64 v] 26)) t b cb n _ _ from h2)
      have HG2 := hid (hg1.trans ((gr_b (t := t) (x := .slice (some ⟨w1.heap.size, 0, none⟩) 1 1)).trans (Gr.of_below ((Below.refl (w1.setCell ⟨b, i * 3, none⟩ (.slice (some ⟨w1.heap.size, 0, none⟩) 1 1)).heap.size _).alloc (Nat.le_refl _) (.cells #[.int .u64 v] 26)) [t, b])))
      have HS1 := hid hg1.size
      obtain ⟨cs1, c11, c21, cf1⟩ := k1.cS HIN.out
      clear k1 hb1 h2 hg1 hlt1
      go_wp2_with fail
      go_ret
      exact ⟨rfl, hid (TS.of (i := i) H2.out HG2.out HS1.out)⟩
end Go.Proofs.Ytfaeieeokelokaa
