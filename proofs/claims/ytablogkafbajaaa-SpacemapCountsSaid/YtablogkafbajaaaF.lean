/- The program's Changed. No conditions but those of each theorem. -/
import Derived.Test.YtablogkafbajaaaE
namespace Go.Proofs.Ytablogkafbajaaa
open Go.ChangeShapes Go.WideShapes Go.ChangeAt Go.RowKit
set_option linter.unusedVariables false
set_option linter.unusedSimpArgs false

theorem own_base {w : World} {base : Nat} {e : TypeId} {size : Nat} {v : Value} {n : Nat} {xs : List Value} (h : w.ownsRow base e size v n xs) : ∀ k, v.ownBlock = some k → base ≤ k := fun k hk => (World.ownsRow.lt h k hk).1
theorem own_slice {w : World} {base e size : Nat} {v : Value} {n : Nat} {xs : List Value} (h : w.ownsRow base e size v n xs) : ∃ a cap, v = .slice a n cap := by
  rcases h.2 with ⟨hv, h0⟩ | ⟨g, cap, cur, hv, _⟩
  · exact ⟨none, 0, by rw [hv, h0]⟩
  · exact ⟨_, cap, hv⟩
theorem own_below {W W' : World} {base e size n : Nat} {v : Value} {xs : List Value} (h : W.ownsRow base e size v n xs) (hb : Below W.heap.size W W') : W'.ownsRow base e size v n xs :=
  World.ownsRow.kept h (grown_below hb) (by cases v.ownBlock <;> simp)
/-- the blocks whose counts differ, among the first k -/
def ch (X Y : List Int) : Nat → List Int
  | 0 => []
  | k + 1 => ch X Y k ++ (if ge X k == ge Y k then [] else [(k : Int)])
theorem ch_le (X Y : List Int) (k : Nat) : (ch X Y k).length ≤ k := by
  induction k with
  | zero => exact Nat.le_refl _
  | succ k ih => unfold ch; split <;> simp <;> omega
set_option maxHeartbeats 4000000 in
theorem changed_ok {M a ca b cb : Nat} {X Y : List Int} {W : World} (h : SM 66 W M a ca b cb X Y) :
    Calls Try.prog 24 #[.pointer (some ⟨M, 0, none⟩)] W fun e W' => ∃ v, e = .returned v ∧ Hid (W'.ownsRow W.heap.size 3 1 v (ch X Y X.length).length (vi (ch X Y X.length)) ∧ Below W.heap.size W W') := by
  have c0 := h.c0
  have hbig := h.cx.big
  have H := hid h
  obtain ⟨i0, hi, hz0, hz1, hz2⟩ := info_parts Try.info3
  have HI := hid hi; have HZ0 := hid hz0; have HZ1 := hid hz1; have HZ2 := hid hz2
  clear hi hz0 hz1 hz2 h
  go_enter Try.func24, Try.ntmps24
  go_wp2_with fail
  go_loopw [3, 12] (fun av iv wr => ∃ k : Nat, k ≤ X.length ∧ iv = .int .i64 (k : Int) ∧ Hid (wr.ownsRow W.heap.size 3 1 av (ch X Y k).length (vi (ch X Y k))) ∧ Hid (Below W.heap.size W wr)) (fun _ iv _ => X.length - (intOf iv).toNat)
  case atStart => exact ⟨0, by omega, rfl, hid (World.ownsRow_nil _ _ _ _), hid (Below.refl _ _)⟩
  case round =>
    obtain ⟨k, hk, rfl, HO, HB⟩ := hrel
    clear c0
    by_cases hlt : k < X.length
    · have hlt' : (k : Int) < (X.length : Int) := by omega
      have H1 := hid (H.out.below HB.out)
      have c0 := H1.out.c0
      have c1 := H1.out.c1
      have c2 := H1.out.ra.at k hlt
      have c3 := H1.out.rb.at k (by rw [H1.out.len]; exact hlt)
      have HN := hid (show ch X Y (k + 1) = ch X Y k ++ (if ge X k == ge Y k then [] else [(k : Int)]) from rfl)
      have hle := ch_le X Y k
      generalize ge X k = x at *
      generalize ge Y k = y at *
      by_cases hxy : x = y
      · subst hxy
        have HN2 := hid (show ch X Y (k + 1) = ch X Y k by rw [HN.out]; simp)
        clear HN
        go_wp2_with fail
        go_quiet (fail)
        go_wp2_with fail
        go_roundw
        case rel => exact ⟨k + 1, by omega, by go_num, by rw [HN2.out]; exact HO, hid (HB.out.trans (bdn _ wr nq))⟩
        case measure => simp [intOf]; omega
      · have hne : (x == y) = false := by simpa using hxy
        have HN2 := hid (show ch X Y (k + 1) = ch X Y k ++ [(k : Int)] by rw [HN.out, hne]; simp)
        clear HN
        obtain ⟨L, hL⟩ : ∃ L, L = ch X Y k := ⟨_, rfl⟩
        rw [← hL] at HO HN2 hle
        clear hL
        obtain ⟨va, vc, rfl⟩ := own_slice HO.out
        have hC5 := hid (show W.heap.size ≤ wr.heap.size + 1 by have := HB.out.size; omega)
        go_wp2_with fail
        go_quiet (fail)
        go_wp2_with (first | (at_builtin; refine wpList_append_own _ rfl _ _ 22 rfl W.heap.size 3 i0 (.int .i64 0) 1 8 Try.underlying22 HI.out HZ0.out HZ1.out HZ2.out rfl (by decide) _ _ _ rfl (HO.out.alloc _) ⟨wr.heap.size, 0, none⟩ 1 1 [.int .i64 (k : Int)] rfl rfl (cell_one_new _ _ _) (by simp [Value.oneCell']) (by unfold maxLen; omega) (by omega) (by simpa using hC5.out) ?_; intro y4 w4 hown4 hgrow4 _))
        have HB4 := hid (((HB.out.trans (bdn _ wr nq)).alloc (by have := HB.out.size; exact this) _).grown hgrow4 (by have := HB.out.size; simp; omega) (fun k e => own_base HO.out k e))
        go_roundw
        case rel => exact ⟨k + 1, by omega, by go_num, hid (by rw [HN2.out]; simpa [vi] using hown4), HB4⟩
        case measure => simp [intOf]; omega
    · obtain rfl : k = X.length := by omega
      have hlt' : ¬ (X.length : Int) < (X.length : Int) := by omega
      go_wp2_with fail
      go_ret
      exact ⟨_, rfl, hid ⟨HO.out, HB.out⟩⟩
end Go.Proofs.Ytablogkafbajaaa
