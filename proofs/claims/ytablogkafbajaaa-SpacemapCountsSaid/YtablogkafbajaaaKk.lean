/- The reference's New and Load. No conditions but those of each theorem. -/
import Derived.Test.YtablogkafbajaaaJ
namespace Go.Proofs.Ytablogkafbajaaa
open Go.ChangeShapes Go.WideShapes Go.ChangeAt Go.RowKit
set_option linter.unusedVariables false
set_option linter.unusedSimpArgs false
/-- a map was made whose counts are all X -/
def Made (ty : TypeId) (W W' : World) (e : Ending) (X : List Int) : Prop := ∃ M a ca b cb, e = .returned (.tuple #[.pointer (some ⟨M, 0, none⟩), .int .i64 0]) ∧ (W.heap.size ≤ M ∧ W.heap.size ≤ a ∧ W.heap.size ≤ b) ∧ Hid (SM ty W' M a ca b cb X X)
def zc (n : Nat) : Array Value := (vi (List.replicate n 0)).toArray
theorem make_run (n : Nat) (h : n ≤ 16384) (w : World) : (Instr.makeSlice 22 (.int .i64 (n : Int)) (.int .i64 (n : Int))).run Try.prog w = .ok (.slice (some ⟨w.heap.size, 0, none⟩) n n) (w.alloc (.cells (zc n) 3)) := by
  obtain ⟨i0, hi, hz0, hz1, hz2⟩ := info_parts Try.info3
  have hr := run_make (P := Try.prog) w 22 3 i0 (.int .i64 0) Try.underlying22 hi hz0 .i64 .i64 n n (by omega) (Int.le_refl _) (by rw [hz2]; omega) (by omega)
  simp only [Int.toNat_natCast] at hr
  rw [hr, hz1]
  have : madeCells (Value.int .i64 0).cells (n * 1) = zc n := by
    rw [← Array.toList_inj, made_vi]
    rfl
  rw [this]
theorem zc_row (n : Nat) (h : n ≤ 16384) (w : World) : Row (w.alloc (.cells (zc n) 3)) w.heap.size n (List.replicate n 0) := by
  have := World.ownsRow_lit (base := 0) (e := 3) (size := 1) w (zc n) n (Nat.zero_le _) (by unfold maxLen; omega) (by simp [zc, vi])
  unfold Row
  simpa [zc] using this
theorem new_world (n : Nat) (h1 : 1 ≤ n) (h2 : n ≤ 16384) (W : World) (a b : Nat) (hab : (a = W.heap.size ∧ b = W.heap.size + 1) ∨ (a = W.heap.size + 1 ∧ b = W.heap.size)) :
    SM 51 (((W.alloc (.cells (zc n) 3)).alloc (.cells (zc n) 3)).alloc (.cells #[.slice (some ⟨a, 0, none⟩) n n, .slice (some ⟨b, 0, none⟩) n n] 51)).drew (W.heap.size + 1 + 1) a n b n (List.replicate n 0) (List.replicate n 0) ∧ Below W.heap.size W (((W.alloc (.cells (zc n) 3)).alloc (.cells (zc n) 3)).alloc (.cells #[.slice (some ⟨a, 0, none⟩) n n, .slice (some ⟨b, 0, none⟩) n n] 51)).drew := by
  have r1 := zc_row n h2 W
  have r2 := zc_row n h2 (W.alloc (.cells (zc n) 3))
  have s1 : (W.alloc (.cells (zc n) 3)).heap.size = W.heap.size + 1 := by simp
  have s2 : ((W.alloc (.cells (zc n) 3)).alloc (.cells (zc n) 3)).heap.size = W.heap.size + 1 + 1 := by simp
  rw [s1] at r2
  have hl : (List.replicate n (0 : Int)).length = n := by simp
  have c := cnt_rep n h1 h2
  have r1' := r1.kept (World.grownBy_alloc (W.alloc (.cells (zc n) 3)) (.cells (zc n) 3) none) (by simp)
  generalize hV : (W.alloc (.cells (zc n) 3)).alloc (.cells (zc n) 3) = V at *
  have g3 := World.grownBy_alloc V (.cells #[.slice (some ⟨a, 0, none⟩) n n, .slice (some ⟨b, 0, none⟩) n n] 51) none
  have e3 : (V.alloc (.cells #[.slice (some ⟨a, 0, none⟩) n n, .slice (some ⟨b, 0, none⟩) n n] 51)).heap[W.heap.size + 1 + 1]? = some (.cells #[.slice (some ⟨a, 0, none⟩) n n, .slice (some ⟨b, 0, none⟩) n n] 51 (0, 0)) := by
    rw [← s2]; exact heap_alloc_new _ _
  have hB : Below W.heap.size W (V.alloc (.cells #[.slice (some ⟨a, 0, none⟩) n n, .slice (some ⟨b, 0, none⟩) n n] 51)) := by
    rw [← hV]
    exact (((Below.refl _ _).alloc (Nat.le_refl _) _).alloc (by simp) _).alloc (by simp; omega) _
  have q1 := r1'.kept g3 (by simp)
  have q2 := r2.kept g3 (by simp)
  refine ⟨?_, hB.drew⟩
  rcases hab with ⟨rfl, rfl⟩ | ⟨rfl, rfl⟩
  · exact ⟨by rw [hl]; exact e3, q1, q2, c, c, rfl, by omega, by omega, by omega⟩
  · exact ⟨by rw [hl]; exact e3, q2, q1, c, c, rfl, by omega, by omega, by omega⟩
set_option maxHeartbeats 4000000 in
theorem rnew_good (n : Nat) (W : World) (h1 : 1 ≤ n) (h2 : n ≤ 16384) :
    Calls Try.prog 9 #[.int .i64 (n : Int)] W fun e W' => ∃ M a ca b cb, e = .returned (.tuple #[.pointer (some ⟨M, 0, none⟩), .int .i64 0]) ∧ (W.heap.size ≤ M ∧ W.heap.size ≤ a ∧ W.heap.size ≤ b) ∧ Hid (SM 51 W' M a ca b cb (List.replicate n 0) (List.replicate n 0) ∧ Below W.heap.size W W') := by
  have d1 : ¬ (n : Int) < 1 := by omega
  have d2 : ¬ (16384 : Int) < (n : Int) := by omega
  have hm := make_run n h2
  go_enter Try.func9, Try.ntmps9
  go_wp2_with fail
  go_region
  all_goals
    go_wp2_with fail
    go_ret2
    first
      | exact ⟨_, _, _, _, _, rfl, ⟨by omega, by omega, by omega⟩, hid (new_world n h1 h2 W _ _ (.inl ⟨rfl, rfl⟩))⟩
      | exact ⟨_, _, _, _, _, rfl, ⟨by omega, by omega, by omega⟩, hid (new_world n h1 h2 W _ _ (.inr ⟨rfl, rfl⟩))⟩
set_option maxHeartbeats 4000000 in
theorem rnew_bad (n : Int) (W : World) (h : n < 1 ∨ 16384 < n) :
    Calls Try.prog 9 #[.int .i64 n] W fun e W' => e = .returned (.tuple #[.pointer none, .int .i64 1]) ∧ W' = W := by
  by_cases h1 : n < 1
  · go_enter Try.func9, Try.ntmps9
    go_wp2_with fail
    go_ret2
    exact ⟨rfl, rfl⟩
  · have h2 : 16384 < n := by omega
    go_enter Try.func9, Try.ntmps9
    go_wp2_with fail
    go_ret2
    exact ⟨rfl, rfl⟩
set_option maxHeartbeats 4000000 in
theorem rload_len (a : Option Addr) (len cap : Nat) (W : World) (h : len < 1 ∨ 16384 < len) :
    Calls Try.prog 12 #[.slice a len cap] W fun e W' => e = .returned (.tuple #[.pointer none, .int .i64 1]) ∧ W' = W := by
  by_cases h1 : len < 1
  · have h1' : (len : Int) < 1 := by omega
    go_enter Try.func12, Try.ntmps12
    go_wp2_with fail
    go_ret2
    exact ⟨rfl, rfl⟩
  · have h1' : ¬ (len : Int) < 1 := by omega
    have h2 : (16384 : Int) < (len : Int) := by omega
    go_enter Try.func12, Try.ntmps12
    go_wp2_with fail
    go_ret2
    exact ⟨rfl, rfl⟩
set_option maxHeartbeats 4000000 in
theorem rload_ok (a : Option Addr) (cap : Nat) (X : List Int) (W : World) (h1 : 1 ≤ X.length) (h2 : X.length ≤ 16384) (hA : Arg W.heap.size W a X) :
    Calls Try.prog 12 #[.slice a X.length cap] W fun e W' => (okc X → Made 51 W W' e X) ∧ (¬ okc X → e = .returned (.tuple #[.pointer none, .int .i64 4])) ∧ Below W.heap.size W W' := by
  obtain ⟨b0, off, rfl, hb0, hcell⟩ := id hA
  have HA := hid hA
  have d1 : ¬ (X.length : Int) < 1 := by omega
  have d2 : ¬ (16384 : Int) < (X.length : Int) := by omega
  have HCl := hid hcell
  obtain ⟨i0, hi, hz0, hz1, hz2⟩ := info_parts Try.info3
  have HI := hid hi; have HZ0 := hid hz0; have HZ1 := hid hz1; have HZ2 := hid hz2
  have HLn := hid (show (vi X).length = X.length * 1 by rw [vi_len]; omega)
  clear hA hcell hi hz0 hz1 hz2
  go_enter Try.func12, Try.ntmps12
  go_wp2_with fail
  go_loopw [4] (fun iv wr => ∃ k : Nat, k ≤ X.length ∧ iv = .int .i64 (k : Int) ∧ Hid (∀ j, j < k → 0 ≤ ge X j ∧ ge X j ≤ 65535) ∧ Hid (Below W.heap.size W wr)) (fun iv _ => X.length - (intOf iv).toNat)
  case atStart => exact ⟨0, by omega, rfl, hid (fun j hj => by omega), hid (Below.refl _ _)⟩
  case round =>
    obtain ⟨k, hk, rfl, HN, HB⟩ := hrel
    by_cases hlt : k < X.length
    · have hlt' : (k : Int) < (X.length : Int) := by omega
      have c0 := (HB.out.cell (p := ⟨b0, off + k, none⟩) hb0).trans (HCl.out k hlt)
      by_cases hv : 0 ≤ ge X k ∧ ge X k ≤ 65535
      · have HN2 := hid (show ∀ j, j < k + 1 → 0 ≤ ge X j ∧ ge X j ≤ 65535 from fun j hj => by
          by_cases e : j = k
          · rw [e]; exact hv
          · exact HN.out j (by omega))
        obtain ⟨v1, v2⟩ := hv
        generalize ge X k = x at *
        have e1 : ¬ x < 0 := by omega
        have e2 : ¬ 65535 < x := by omega
        clear HN
        go_wp2_with fail
        go_roundw
        case rel => exact ⟨k + 1, by omega, by go_num, HN2, HB⟩
        case measure => simp [intOf]; omega
      · have HO := hid (show ¬ okc X from fun h => hv (h k hlt))
        generalize ge X k = x at *
        clear HN
        by_cases e1 : x < 0
        · go_wp2_with fail
          go_ret2
          exact ⟨fun h => absurd h HO.out, fun _ => rfl, HB.out⟩
        · have e2 : 65535 < x := by omega
          go_wp2_with fail
          go_ret2
          exact ⟨fun h => absurd h HO.out, fun _ => rfl, HB.out⟩
    · obtain rfl : k = X.length := by omega
      have hlt' : ¬ (X.length : Int) < (X.length : Int) := by omega
      have HC := hid (show Cnt X from ⟨h1, h2, HN.out⟩)
      have HO := hid (show okc X from HN.out)
      have HA1 := hid (HA.out.below HB.out).news
      have HA0 := hid (HA.out.below HB.out)
      have hs0 := HB.out.size
      clear HN
      go_wp2_with (first
        | (at_builtin; refine wpList_append_own _ rfl _ _ 22 rfl wr.heap.size 3 i0 (.int .i64 0) 1 8 Try.underlying22 HI.out HZ0.out HZ1.out HZ2.out rfl (by decide) (.slice none 0 0) 0 [] rfl (World.ownsRow_nil _ _ _ _) ⟨b0, off, none⟩ X.length cap (vi X) rfl HLn.out HA1.out (one_vi X) (by unfold maxLen; omega) (by omega) (by omega) ?_; intro v4 w4 hown4 hgrow4 _; obtain ⟨g1, c1, rfl, hg1, hR1⟩ := row_of (X := X) (by simpa using hown4) h1 (by omega); have HG1 := hid (show wr.grownBy w4 none from hgrow4); have HR1 := hid hR1; have HA2 := hid (HA0.out.below ((below_grown HG1.out).mono hs0)).news; have hs1 := HG1.out.size; clear hown4 hgrow4 hR1)
        | (at_builtin; refine wpList_append_own _ rfl _ _ 22 rfl w4.heap.size 3 i0 (.int .i64 0) 1 8 Try.underlying22 HI.out HZ0.out HZ1.out HZ2.out rfl (by decide) (.slice none 0 0) 0 [] rfl (World.ownsRow_nil _ _ _ _) ⟨b0, off, none⟩ X.length cap (vi X) rfl HLn.out HA2.out (one_vi X) (by unfold maxLen; omega) (by omega) (by omega) ?_; intro v5 w5 hown5 hgrow5 _; obtain ⟨g2, c2, rfl, hg2, hR2⟩ := row_of (X := X) (by simpa using hown5) h1 (by omega); have HG2 := hid (show w4.grownBy w5 none from hgrow5); have HR2 := hid hR2; clear hown5 hgrow5 hR2))
      go_ret2
      have l1 := HR1.out.lt
      have l2 := HR2.out.lt
      have hs2 := HG2.out.size
      have g3 := World.grownBy_alloc w5 (.cells #[.slice (some ⟨g1, 0, none⟩) X.length c1, .slice (some ⟨g2, 0, none⟩) X.length c2] 51) none
      refine ⟨fun _ => ⟨w5.heap.size, g1, c1, g2, c2, rfl, ⟨by omega, by omega, by omega⟩, hid ⟨heap_alloc_new _ _, (HR1.out.kept HG2.out (by simp)).kept g3 (by simp), HR2.out.kept g3 (by simp), HC.out, HC.out, rfl, by omega, by omega, by omega⟩⟩, fun h => absurd HO.out h, ?_⟩
      exact HB.out.trans (((below_grown HG1.out).mono hs0).trans (((below_grown HG2.out).mono (by omega)).trans ((below_grown g3).mono (by omega))))
end Go.Proofs.Ytablogkafbajaaa
