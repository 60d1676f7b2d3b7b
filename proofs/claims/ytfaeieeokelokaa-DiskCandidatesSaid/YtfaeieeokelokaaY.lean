/- Words, and Loaded with one image. No conditions but those of each theorem. -/
import Derived.Test.YtfaeieeokelokaaX
namespace Go.Proofs.Ytfaeieeokelokaa
open Go.ChangeShapes Go.WideShapes Go.ChangeAt Go.RowKit
set_option linter.unusedVariables false
set_option linter.unusedSimpArgs false
theorem own_base {w : World} {base : Nat} {e : TypeId} {size : Nat} {v : Value} {n : Nat} {xs : List Value} (h : w.ownsRow base e size v n xs) : ∀ k, v.ownBlock = some k → base ≤ k := fun k hk => (World.ownsRow.lt h k hk).1
theorem own_slice {w : World} {base e size : Nat} {v : Value} {n : Nat} {xs : List Value} (h : w.ownsRow base e size v n xs) : ∃ a cap, v = .slice a n cap := by
  rcases h.2 with ⟨hv, h0⟩ | ⟨g, cap, cur, hv, _⟩
  · exact ⟨none, 0, by rw [hv, h0]⟩
  · exact ⟨_, cap, hv⟩
theorem row_ofw {W : World} {base n : Nat} {v : Value} {X : List Int} (h : W.ownsRow base 26 1 v n (vu X)) (h1 : 1 ≤ X.length) (hn : n = X.length) : ∃ g cap, v = .slice (some ⟨g, 0, none⟩) X.length cap ∧ base ≤ g ∧ Row W g cap X := by
  subst hn
  rcases h.2 with ⟨_, h0⟩ | ⟨g, cap, cur, hv, hb, hh, r1, r2, r3, r4⟩
  · omega
  · exact ⟨g, cap, hv, hb, h.1, .inr ⟨g, cap, cur, rfl, Nat.zero_le _, hh, r1, r2, r3, r4⟩⟩
set_option maxRecDepth 100000 in
set_option maxHeartbeats 8000000 in
theorem words_ok (n : Nat) (h1 : 1 ≤ n) (hn : n ≤ 1000) (s : Int) (W : World) :
    Calls Try.prog 32 #[.int .i64 (n : Int), .int .u64 s] W fun e W' => ∃ (X : List Int) (g cap : Nat), e = .returned (.slice (some ⟨g, 0, none⟩) X.length cap) ∧ X.length = n ∧ W.heap.size ≤ g ∧ Hid (Row W' g cap X ∧ Below W.heap.size W W') := by
  obtain ⟨i0, hi, hz0, hz1, hz2⟩ := info_parts Try.info26
  have HI := hid hi; have HZ0 := hid hz0; have HZ1 := hid hz1; have HZ2 := hid hz2
  clear hi hz0 hz1 hz2
  go_enter Try.func32, Try.ntmps32
  go_wp2_with fail
  go_loopw [5, 6] (fun av iv wr => ∃ (k : Nat) (X : List Int), k ≤ n ∧ iv = .int .i64 (k : Int) ∧ X.length = k ∧ Hid (wr.ownsRow W.heap.size 26 1 av k (vu X)) ∧ Hid (Below W.heap.size W wr)) (fun _ iv _ => n - (intOf iv).toNat)
  case atStart => exact ⟨0, [], by omega, rfl, rfl, hid (World.ownsRow_nil _ _ _ _), hid (Below.refl _ _)⟩
  case round =>
    obtain ⟨k, X, hk, rfl, hX, HO, HB⟩ := hrel
    by_cases hlt : k < n
    · have hlt' : (k : Int) < (n : Int) := by omega
      have hsz := HB.out.size
      obtain ⟨va, vc, hu⟩ := own_slice HO.out
      subst hu
      have hC5 := hid (show W.heap.size ≤ (wr.alloc (.cells #[.int .u64 0] 26)).heap.size by simp; omega)
      go_wp2_with (first | (at_builtin; refine wpList_append_own _ rfl _ _ 36 rfl W.heap.size 26 i0 (.int .u64 0) 1 8 Try.underlying36 HI.out HZ0.out HZ1.out HZ2.out rfl (by decide) _ _ _ rfl (HO.out.alloc _) ⟨wr.heap.size, 0, none⟩ 1 1 [.int .u64 _] rfl rfl (cell_one_new _ _ _) (by simp [Value.oneCell']) (by unfold maxLen; omega) (by omega) (by simp; omega) ?_; intro y4 w4 hown4 hgrow4 _))
      obtain ⟨x, hO4⟩ : ∃ x : Int, w4.ownsRow W.heap.size 26 1 y4 (k + 1) (vu (X ++ [x])) := ⟨_, by simp only [vu, List.map_append, List.map_cons, List.map_nil]; exact hown4⟩
      have HO4 := hid hO4
      have HB4 := hid ((HB.out.alloc hsz _).grown hgrow4 (by simp; omega) (own_base HO.out))
      clear hO4 hown4 hgrow4
      go_roundw
      case rel => exact ⟨k + 1, X ++ [x], by omega, by go_num, by simp [hX], HO4, HB4⟩
      case measure => simp [intOf]; omega
    · obtain rfl : k = n := by omega
      subst hX
      obtain ⟨g, gc, rfl, hg, hRow⟩ := row_ofw HO.out h1 rfl
      have HRow := hid hRow
      clear hRow HO
      have hlt' : ¬ (X.length : Int) < (X.length : Int) := by omega
      go_wp2_with fail
      go_ret
      exact ⟨X, g, gc, rfl, rfl, hg, hid ⟨HRow.out, HB.out⟩⟩
/-- an array of the caller's own whose map of bad sectors is empty -/
def Own0 (B : Nat) (W0 W : World) (A : Nat) (k : Dk) (R : List Nat) : Prop := ∃ c, c.mn = 0 ∧ OwnD B W0 W A k R c
theorem Own0.own {B : Nat} {W0 W : World} {A : Nat} {k : Dk} {R : List Nat} (h : Own0 B W0 W A k R) : Own B W0 W A k R := by obtain ⟨c, _, h⟩ := h; exact ⟨c, h⟩
theorem own0_new (a : Option Addr) (cap : Nat) (X : List Int) (W : World) (h8 : X.length ≤ 8) (hX : ∀ i, i < X.length → good (ge X i)) (hA : Ar W a X) (B : Nat) (W0 : World) (hB : Below B W0 W) (hBB : B ≤ W0.heap.size) :
    Calls Try.prog 13 #[.slice a X.length cap] W fun e W' => ∃ A, e = .returned (.tuple #[.pointer (some ⟨A, 0, none⟩), .int .i64 0]) ∧ Hid (Own0 B W0 W' A (nk X) []) :=
  (new_ok a cap X W h8 hX hA).mono fun e W' ⟨A, he, HH⟩ => ⟨A, he, by
    obtain ⟨c, h1, h2, h3, h4⟩ := HH.out
    have := hB.size
    exact hid ⟨c, h1, h2, by omega, hB.trans (h3.mono (by omega)), hBB, fun x hx => ⟨by have := h4 x hx; omega, by simp⟩, fun x hx => by simp at hx⟩⟩
theorem own0_load {B : Nat} {W0 W : World} {A : Nat} {k : Dk} {R : List Nat} (h : Own0 B W0 W A k R) (n : Nat) (hn : n < k.U.length) (g cg : Nat) (X : List Int) (hX : Row W g cg X) (hg : g < B) (hl : X.length = (gu k.U n).now.length) (hF : k.F.length ≤ 2 ^ 32) :
    Calls Try.prog 46 #[.pointer (some ⟨A, 0, none⟩), .int .i64 (n : Int), .slice (some ⟨g, 0, none⟩) X.length cg] W fun e W' => e = .returned (.int .i64 0) ∧ Hid (Own0 B W0 W' A (ldK k n X) R) := by
  obtain ⟨c, h0, h⟩ := h
  refine (load_ok h.da n hn g cg X hX (fun hx => by have := (h.fpb g hx).1; omega) hl hF h0).mono fun e W' ⟨he, HH⟩ => ⟨he, ?_⟩
  obtain ⟨c', hc'⟩ := (h.step HH.out.1 h.mn HH.out.2 (Fresh.refl _ _ _)).1
  exact hid ⟨c, h0, HH.out.1, h.mn, h.bel.trans (HH.out.2.below (fun x hx => (h.fpb x hx).1) h.le), h.bb, h.fpb, fun x hx => ⟨(h.res x hx).1, Nat.lt_of_lt_of_le (h.res x hx).2 HH.out.2.size⟩⟩
set_option maxRecDepth 100000 in
set_option maxHeartbeats 8000000 in
theorem loaded1_ok (W : World) (b cb g cg : Nat) (X : List Int) (hb : b < W.heap.size) (hc : W.cell? ⟨b, 0, none⟩ = some (.slice (some ⟨g, 0, none⟩) X.length cg)) (hX : Row W g cg X) (h1 : 1 ≤ X.length) (h2 : X.length ≤ 65536) :
    Calls Try.prog 31 #[.slice (some ⟨b, 0, none⟩) 1 cb] W fun e W' => ∃ A, e = .returned (.pointer (some ⟨A, 0, none⟩)) ∧ Hid (Own0 W.heap.size W W' A (ldK (nk [(X.length : Int)]) 0 X) []) := by
  obtain ⟨i0, hi, hz0, hz1, hz2⟩ := info_parts (show (Try.prog.info? 3).map (fun i => (i.zero, i.size, i.bytes)) = some (some (.int .i64 0), 1, 8) by kernel_rfl)
  have HI := hid hi; have HZ0 := hid hz0; have HZ1 := hid hz1; have HZ2 := hid hz2
  have HG := hid hX.lt
  have HX := hid hX
  have HC := hid hc
  clear hi hz0 hz1 hz2 hX hc
  go_enter Try.func31, Try.ntmps31
  go_wp2_with fail
  go_loopw [3, 4] (fun av iv wr => ∃ (k : Nat), k ≤ 1 ∧ iv = .int .i64 (k : Int) ∧ Hid (wr.ownsRow W.heap.size 3 1 av k (List.replicate k (.int .i64 (X.length : Int)))) ∧ Hid (Below W.heap.size W wr)) (fun _ iv _ => 1 - (intOf iv).toNat)
  case atStart => exact ⟨0, by omega, rfl, hid (World.ownsRow_nil _ _ _ _), hid (Below.refl _ _)⟩
  case round =>
    obtain ⟨k, hk, rfl, HO, HB⟩ := hrel
    by_cases hlt : k < 1
    · obtain rfl : k = 0 := by omega
      have hsz := HB.out.size
      obtain ⟨va, vc, hu⟩ := own_slice HO.out
      subst hu
      have c0 := (HB.out.cell (p := ⟨b, 0, none⟩) hb).trans HC.out
      go_wp2_with (first | (at_builtin; refine wpList_append_own _ rfl _ _ 22 rfl W.heap.size 3 i0 (.int .i64 0) 1 8 Try.underlying22 HI.out HZ0.out HZ1.out HZ2.out rfl (by decide) _ _ _ rfl (HO.out.alloc _) ⟨wr.heap.size, 0, none⟩ 1 1 [.int .i64 _] rfl rfl (cell_one_new _ _ _) (by simp [Value.oneCell']) (by unfold maxLen; omega) (by omega) (by simp; omega) ?_; intro y4 w4 hown4 hgrow4 _))
      have HO4 := hid (show w4.ownsRow W.heap.size 3 1 y4 1 (List.replicate 1 (.int .i64 (X.length : Int))) from hown4)
      have HB4 := hid ((HB.out.alloc hsz _).grown hgrow4 (by simp; omega) (own_base HO.out))
      clear hown4 hgrow4 c0
      go_roundw
      case rel => exact ⟨1, by omega, by go_num, HO4, HB4⟩
      case measure => simp [intOf]
    · obtain rfl : k = 1 := by omega
      obtain ⟨va, vc, hu⟩ := own_slice HO.out
      subst hu
      obtain ⟨gs, rfl⟩ := own_pos HO.out (by omega)
      have hgs := own_lt HO.out
      have hAr : Ar wr (some ⟨gs, 0, none⟩) [(X.length : Int)] := .inr ⟨gs, 0, rfl, hgs, fun i hi => by
        obtain rfl : i = 0 := by simp at hi; omega
        exact (World.ownsRow.cellAt HO.out 0 (by omega)).trans rfl⟩
      have HN := hid (own0_new (some ⟨gs, 0, none⟩) vc [(X.length : Int)] wr (by simp) (fun i hi => by
        obtain rfl : i = 0 := by simp at hi; omega
        exact ⟨by show (1 : Int) ≤ (X.length : Int); omega, by show (X.length : Int) ≤ 65536; omega⟩) hAr W.heap.size W HB.out (Nat.le_refl _))
      clear hAr HO HB hgs
      go_wp2_with fail
      refine HN.out.mono ?_
      rintro e w1 ⟨A, rfl, H1⟩
      clear HN
      go_wp2_with fail
      go_loopw [7] (fun iv wr => ∃ (k : Nat), k ≤ 1 ∧ iv = .int .i64 (k : Int) ∧ Hid (Own0 W.heap.size W wr A (if k = 0 then nk [(X.length : Int)] else ldK (nk [(X.length : Int)]) 0 X) [])) (fun iv _ => 1 - (intOf iv).toNat)
      case atStart => exact ⟨0, by omega, rfl, H1⟩
      case round =>
        clear H1
        obtain ⟨k, hk, rfl, HO⟩ := hrel
        by_cases hlt : k < 1
        · obtain rfl : k = 0 := by omega
          have HO1 := hid (show Own0 W.heap.size W wr A (nk [(X.length : Int)]) [] from HO.out)
          clear HO
          have HB := hid HO1.out.own.bel
          have c0 := (HB.out.cell (p := ⟨b, 0, none⟩) hb).trans HC.out
          have HX2 := hid (HX.out.gr (Gr.of_below HB.out []) (by simp))
          go_wp2_with fail
          refine (own0_load HO1.out 0 (by simp [nk]) g cg X HX2.out HG.out (by simp [nk, un, gu]) (by simp [nk])).mono ?_
          rintro e w2 ⟨rfl, H2⟩
          clear HO1 HB c0 HX2
          go_wp2_with fail
          go_roundw
          case rel => exact ⟨1, by omega, by go_num, H2⟩
          case measure => simp [intOf]
        · obtain rfl : k = 1 := by omega
          have HO1 := hid (show Own0 W.heap.size W wr A (ldK (nk [(X.length : Int)]) 0 X) [] from HO.out)
          clear HO
          go_wp2_with fail
          go_ret
          exact ⟨A, rfl, HO1⟩
theorem own_setbad {B : Nat} {W0 W : World} {A : Nat} {k : Dk} {R : List Nat} (h : Own0 B W0 W A k R) (n m : Nat) (b : Bool) (hn : n < k.U.length) (hm : m < (gu k.U n).now.length) :
    Calls Try.prog 33 #[.pointer (some ⟨A, 0, none⟩), .int .i64 (n : Int), .int .i64 (m : Int), .bool b] W fun e W' => e = .returned (.int .i64 0) ∧ Hid (Own B W0 W' A { k with bad := badU k.bad (n : Int) (m : Int) b } R ∧ Kp R W W') := by
  obtain ⟨c, h0, h⟩ := h
  refine (setbad_ok h.da n m b hn hm (by omega)).mono fun e W' ⟨he, HH⟩ => ⟨he, hid (h.step HH.out.1 (by show (if b then c.mn + 1 else c.mn) ≤ 1000000; split <;> omega) HH.out.2 (Fresh.refl _ _ _))⟩
theorem own0_read {B : Nat} {W0 W : World} {A : Nat} {k : Dk} {R : List Nat} (h : Own0 B W0 W A k R) (d t : Int) :
    Calls Try.prog 25 #[.pointer (some ⟨A, 0, none⟩), .int .i64 d, .int .i64 t] W fun e W' => e = .returned (.tuple #[.int .u64 (rdV k d t), .int .i64 (chk4 k d t)]) ∧ Hid (Own0 B W0 W' A k R ∧ Kp R W W') := by
  obtain ⟨c, h0, h⟩ := h
  exact (read_ok h.da d t).mono fun e W' ⟨he, hb⟩ => ⟨he, hid ⟨⟨c, h0, (h.below hb).1⟩, (h.below hb).2⟩⟩
end Go.Proofs.Ytfaeieeokelokaa
