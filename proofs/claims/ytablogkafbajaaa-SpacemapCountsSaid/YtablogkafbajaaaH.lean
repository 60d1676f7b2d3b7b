/- The program's newMap, New and Load. No conditions but those of each theorem. -/
import Derived.Test.YtablogkafbajaaaG
namespace Go.Proofs.Ytablogkafbajaaa
open Go.ChangeShapes Go.WideShapes Go.ChangeAt Go.RowKit
set_option linter.unusedVariables false
set_option linter.unusedSimpArgs false

set_option maxHeartbeats 4000000 in
theorem newmap_ok (g c : Nat) (X : List Int) (W : World) (hX : Cnt X) (hR : Row W g c X) :
    Calls Try.prog 32 #[.slice (some ⟨g, 0, none⟩) X.length c] W fun e W' => ∃ M b cb, e = .returned (.pointer (some ⟨M, 0, none⟩)) ∧ W.heap.size ≤ M ∧ W.heap.size ≤ b ∧ Hid (SM 66 W' M g c b cb X X ∧ Below W.heap.size W W') := by
  have HC := hid (clone_ok (some ⟨g, 0, none⟩) c X W hX.pos (by have := hX.big; omega) hR.arg)
  have HR := hid hR
  have HX := hid hX
  clear hR hX
  go_enter Try.func32, Try.ntmps32
  go_wp2_with fail
  refine HC.out.mono ?_
  rintro e w1 ⟨b, cb, rfl, hb, H1⟩
  go_wp2_with fail
  go_ret
  have h1 := HR.out.lt
  have h2 := H1.out.1.lt
  have hs := H1.out.2.size
  refine ⟨w1.heap.size, b, cb, rfl, hs, hb, hid ⟨⟨heap_alloc_new _ _, ?_, ?_, HX.out, HX.out, rfl, by omega, by omega, by omega⟩, H1.out.2.alloc hs _⟩⟩
  · exact (HR.out.kept (grown_below H1.out.2) (by simp)).kept (World.grownBy_alloc _ _ none) (by simp)
  · exact H1.out.1.kept (World.grownBy_alloc _ _ none) (by simp)
theorem own_row {W : World} {base g cap n : Nat} {X : List Int} (h : W.ownsRow base 3 1 (.slice (some ⟨g, 0, none⟩) n cap) n (vi X)) (hn : n = X.length) : Row W g cap X := by
  subst hn
  exact ⟨h.1, h.2.imp id fun ⟨g', cap', cur, hv, hb, rest⟩ => ⟨g', cap', cur, hv, Nat.zero_le _, rest⟩⟩
theorem ge_rep (n j : Nat) : ge (List.replicate n 0) j = 0 := by
  unfold ge
  rw [List.getElem?_replicate]
  split <;> rfl
theorem cnt_rep (n : Nat) (h1 : 1 ≤ n) (h2 : n ≤ 16384) : Cnt (List.replicate n 0) :=
  ⟨by simpa using h1, by simpa using h2, fun j hj => by rw [ge_rep]; omega⟩
theorem made_vi (n : Nat) : (madeCells (Value.int .i64 0).cells (n * 1)).toList = vi (List.replicate n 0) := by
  simp [madeCells, vi, Value.cells, Nat.mod_one, List.map_const']
set_option maxHeartbeats 4000000 in
theorem new_good (n : Nat) (W : World) (h1 : 1 ≤ n) (h2 : n ≤ 16384) :
    Calls Try.prog 8 #[.int .i64 (n : Int)] W fun e W' => ∃ M a ca b cb, e = .returned (.tuple #[.pointer (some ⟨M, 0, none⟩), .int .i64 0]) ∧ (W.heap.size ≤ M ∧ W.heap.size ≤ a ∧ W.heap.size ≤ b) ∧ Hid (SM 66 W' M a ca b cb (List.replicate n 0) (List.replicate n 0) ∧ Below W.heap.size W W') := by
  obtain ⟨i0, hi, hz0, hz1, hz2⟩ := info_parts Try.info3
  have HI := hid hi; have HZ0 := hid hz0; have HZ1 := hid hz1; have HZ2 := hid hz2
  clear hi hz0 hz1 hz2
  have d1 : ¬ (n : Int) < 1 := by omega
  have d2 : ¬ (16384 : Int) < (n : Int) := by omega
  have hc := hid (cnt_rep n h1 h2)
  have hl : (List.replicate n (0 : Int)).length = n := by simp
  go_enter Try.func8, Try.ntmps8
  go_wp2_with (first | (at_make; refine wpList_make_full _ rfl _ _ 22 rfl W.heap.size 3 i0 (.int .i64 0) 1 Try.underlying22 HI.out HZ0.out HZ1.out _ _ _ _ n rfl rfl rfl rfl (by rw [HZ2.out]; omega) (by unfold maxLen; omega) (Nat.le_refl _) ?_; intro w1 hown1 hgrow1))
  rw [made_vi] at hown1
  have HR := own_row hown1 hl.symm
  have HM := hid (newmap_ok _ _ _ w1 hc.out HR)
  rw [hl] at HM
  clear hown1 HR
  refine HM.out.mono ?_
  rintro e w2 ⟨M, b, cb, rfl, hM, hb, H2⟩
  have hs := hgrow1.size
  have HB := hid (bt (below_grown hgrow1) H2.out.2)
  clear HM
  go_wp2_with fail
  go_ret2
  exact ⟨M, _, _, b, cb, rfl, ⟨by omega, by omega, by omega⟩, hid ⟨H2.out.1, HB.out⟩⟩
set_option maxHeartbeats 4000000 in
theorem new_bad (n : Int) (W : World) (h : n < 1 ∨ 16384 < n) :
    Calls Try.prog 8 #[.int .i64 n] W fun e W' => e = .returned (.tuple #[.pointer none, .int .i64 1]) ∧ W' = W := by
  by_cases h1 : n < 1
  · go_enter Try.func8, Try.ntmps8
    go_wp2_with fail
    go_ret2
    exact ⟨rfl, rfl⟩
  · have h2 : 16384 < n := by omega
    go_enter Try.func8, Try.ntmps8
    go_wp2_with fail
    go_ret2
    exact ⟨rfl, rfl⟩
/-- all counts are from 0 to 65535 -/
def okc (X : List Int) : Prop := ∀ j, j < X.length → 0 ≤ ge X j ∧ ge X j ≤ 65535
set_option maxHeartbeats 4000000 in
theorem load_len (a : Option Addr) (len cap : Nat) (W : World) (h : len < 1 ∨ 16384 < len) :
    Calls Try.prog 11 #[.slice a len cap] W fun e W' => e = .returned (.tuple #[.pointer none, .int .i64 1]) ∧ W' = W := by
  by_cases h1 : len < 1
  · have h1' : (len : Int) < 1 := by omega
    go_enter Try.func11, Try.ntmps11
    go_wp2_with fail
    go_ret2
    exact ⟨rfl, rfl⟩
  · have h1' : ¬ (len : Int) < 1 := by omega
    have h2 : (16384 : Int) < (len : Int) := by omega
    go_enter Try.func11, Try.ntmps11
    go_wp2_with fail
    go_ret2
    exact ⟨rfl, rfl⟩
set_option maxHeartbeats 4000000 in
theorem load_ok (a : Option Addr) (cap : Nat) (X : List Int) (W : World) (h1 : 1 ≤ X.length) (h2 : X.length ≤ 16384) (hA : Arg W.heap.size W a X) :
    Calls Try.prog 11 #[.slice a X.length cap] W fun e W' => (okc X → ∃ M a ca b cb, e = .returned (.tuple #[.pointer (some ⟨M, 0, none⟩), .int .i64 0]) ∧ (W.heap.size ≤ M ∧ W.heap.size ≤ a ∧ W.heap.size ≤ b) ∧ Hid (SM 66 W' M a ca b cb X X)) ∧ (¬ okc X → e = .returned (.tuple #[.pointer none, .int .i64 4])) ∧ Below W.heap.size W W' := by
  obtain ⟨b0, off, rfl, hb0, hcell⟩ := id hA
  have HA := hid hA
  have d1 : ¬ (X.length : Int) < 1 := by omega
  have d2 : ¬ (16384 : Int) < (X.length : Int) := by omega
  have HCl := hid hcell
  clear hA hcell
  go_enter Try.func11, Try.ntmps11
  go_wp2_with fail
  go_loopw [16] (fun iv wr => ∃ k : Nat, k ≤ X.length ∧ iv = .int .i64 (k : Int) ∧ Hid (∀ j, j < k → 0 ≤ ge X j ∧ ge X j ≤ 65535) ∧ Hid (Below W.heap.size W wr)) (fun iv _ => X.length - (intOf iv).toNat)
  case atStart => exact ⟨0, by omega, rfl, hid (fun j hj => by omega), hid (Below.refl _ _)⟩
  case round =>
    obtain ⟨k, hk, rfl, HN, HB⟩ := hrel
    by_cases hlt : k < X.length
    · have hlt' : (k : Int) < (X.length : Int) := by omega
      have c0 := (HB.out.cell (p := ⟨b0, off + k, none⟩) hb0).trans (HCl.out k hlt)
      by_cases hv : 0 ≤ ge X k ∧ ge X k ≤ 65535
      · have HN2 := hid (show ∀ j, j < k + 1 → 0 ≤ ge X j ∧ ge X j ≤ 65535 from fun j hj => by
          by_cases e : j = k
          · rw [e]; exact hv
          · exact HN.out j (by omega))
        obtain ⟨v1, v2⟩ := hv
        generalize ge X k = x at *
        have e1 : ¬ x < 0 := by omega
        have e2 : ¬ 65535 < x := by omega
        clear HN
        go_wp2_with fail
        go_roundw
        case rel => exact ⟨k + 1, by omega, by go_num, HN2, HB⟩
        case measure => simp [intOf]; omega
      · have HO := hid (show ¬ okc X from fun h => hv (h k hlt))
        generalize ge X k = x at *
        clear HN
        by_cases e1 : x < 0
        · go_wp2_with fail
          go_ret2
          exact ⟨fun h => absurd h HO.out, fun _ => rfl, HB.out⟩
        · have e2 : 65535 < x := by omega
          go_wp2_with fail
          go_ret2
          exact ⟨fun h => absurd h HO.out, fun _ => rfl, HB.out⟩
    · obtain rfl : k = X.length := by omega
      have hlt' : ¬ (X.length : Int) < (X.length : Int) := by omega
      have HC := hid (show Cnt X from ⟨h1, h2, HN.out⟩)
      have HO := hid (show okc X from HN.out)
      have HK := hid (clone_ok (some ⟨b0, off, none⟩) cap X wr h1 (by omega) ⟨b0, off, rfl, by have := HB.out.size; omega, fun j hj => (HB.out.cell (p := ⟨b0, off + j, none⟩) hb0).trans (HCl.out j hj)⟩)
      clear HN
      go_wp2_with fail
      refine HK.out.mono ?_
      rintro e w1 ⟨g, c, rfl, hg, H1⟩
      have HB1 := hid (bt HB.out H1.out.2)
      go_wp2_with fail
      refine (newmap_ok g c X w1 HC.out H1.out.1).mono ?_
      rintro e w2 ⟨M, b, cb, rfl, hM, hb, H2⟩
      have HB2 := hid (bt HB1.out H2.out.2)
      have s0 := HB.out.size
      have s1 := HB1.out.size
      go_wp2_with fail
      go_ret2
      exact ⟨fun _ => ⟨M, g, c, b, cb, rfl, ⟨by omega, by omega, by omega⟩, H2.out.1⟩, fun h => absurd HO.out h, HB2.out⟩
end Go.Proofs.Ytablogkafbajaaa
