/- The reference's Changed, Commit, Rollback, New and Load. No conditions but those of each theorem. -/
import Derived.Test.YtablogkafbajaaaI
namespace Go.Proofs.Ytablogkafbajaaa
open Go.ChangeShapes Go.WideShapes Go.ChangeAt Go.RowKit
set_option linter.unusedVariables false
set_option linter.unusedSimpArgs false

set_option maxHeartbeats 4000000 in
theorem rchanged_ok {M a ca b cb : Nat} {X Y : List Int} {W : World} (h : SM 51 W M a ca b cb X Y) :
    Calls Try.prog 33 #[.pointer (some ⟨M, 0, none⟩)] W fun e W' => ∃ v, e = .returned v ∧ Hid (W'.ownsRow W.heap.size 3 1 v (ch X Y X.length).length (vi (ch X Y X.length)) ∧ Below W.heap.size W W') := by
  have hbig := h.cx.big
  have H := hid h
  obtain ⟨i0, hi, hz0, hz1, hz2⟩ := info_parts Try.info3
  have HI := hid hi; have HZ0 := hid hz0; have HZ1 := hid hz1; have HZ2 := hid hz2
  clear hi hz0 hz1 hz2 h
  go_enter Try.func33, Try.ntmps33
  go_wp2_with fail
  go_loopw [3, 4] (fun av iv wr => ∃ k : Nat, k ≤ X.length ∧ iv = .int .i64 (k : Int) ∧ Hid (wr.ownsRow W.heap.size 3 1 av (ch X Y k).length (vi (ch X Y k))) ∧ Hid (Below W.heap.size W wr)) (fun _ iv _ => X.length - (intOf iv).toNat)
  case atStart => exact ⟨0, by omega, rfl, hid (World.ownsRow_nil _ _ _ _), hid (Below.refl _ _)⟩
  case round =>
    obtain ⟨k, hk, rfl, HO, HB⟩ := hrel
    have H1 := hid (H.out.below HB.out)
    have c0 := H1.out.c0
    by_cases hlt : k < X.length
    · have hlt' : (k : Int) < (X.length : Int) := by omega
      have c1 := H1.out.c1
      have c2 := H1.out.ra.at k hlt
      have c3 := H1.out.rb.at k (by rw [H1.out.len]; exact hlt)
      have HN := hid (show ch X Y (k + 1) = ch X Y k ++ (if ge X k == ge Y k then [] else [(k : Int)]) from rfl)
      have hle := ch_le X Y k
      generalize ge X k = x at *
      generalize ge Y k = y at *
      by_cases hxy : x = y
      · subst hxy
        have HN2 := hid (show ch X Y (k + 1) = ch X Y k by rw [HN.out]; simp)
        clear HN
        go_wp2_with fail
        go_quiet (fail)
        go_wp2_with fail
        go_roundw
        case rel => exact ⟨k + 1, by omega, by go_num, by rw [HN2.out]; exact HO, hid (HB.out.trans (bdn _ wr nq))⟩
        case measure => simp [intOf]; omega
      · have hne : (x == y) = false := by simpa using hxy
        have HN2 := hid (show ch X Y (k + 1) = ch X Y k ++ [(k : Int)] by rw [HN.out, hne]; simp)
        clear HN
        obtain ⟨L, hL⟩ : ∃ L, L = ch X Y k := ⟨_, rfl⟩
        rw [← hL] at HO HN2 hle
        clear hL
        obtain ⟨va, vc, rfl⟩ := own_slice HO.out
        have hC5 := hid (show W.heap.size ≤ wr.heap.size + 1 by have := HB.out.size; omega)
        go_wp2_with fail
        go_quiet (fail)
        go_wp2_with (first | (at_builtin; refine wpList_append_own _ rfl _ _ 22 rfl W.heap.size 3 i0 (.int .i64 0) 1 8 Try.underlying22 HI.out HZ0.out HZ1.out HZ2.out rfl (by decide) _ _ _ rfl (HO.out.alloc _) ⟨wr.heap.size, 0, none⟩ 1 1 [.int .i64 (k : Int)] rfl rfl (cell_one_new _ _ _) (by simp [Value.oneCell']) (by unfold maxLen; omega) (by omega) (by simpa using hC5.out) ?_; intro y4 w4 hown4 hgrow4 _))
        have HB4 := hid (((HB.out.trans (bdn _ wr nq)).alloc (by have := HB.out.size; exact this) _).grown hgrow4 (by have := HB.out.size; simp; omega) (fun k e => own_base HO.out k e))
        go_roundw
        case rel => exact ⟨k + 1, by omega, by go_num, hid (by rw [HN2.out]; simpa [vi] using hown4), HB4⟩
        case measure => simp [intOf]; omega
    · obtain rfl : k = X.length := by omega
      have hlt' : ¬ (X.length : Int) < (X.length : Int) := by omega
      go_wp2_with fail
      go_ret
      exact ⟨_, rfl, hid ⟨HO.out, HB.out⟩⟩
theorem SM.put1 {ty : TypeId} {W w4 : World} {M a ca b cb d cd : Nat} {X Y : List Int} (h : SM ty W M a ca b cb X Y) (hg : W.grownBy w4 none) (hd : W.heap.size ≤ d) (hR : Row w4 d cd X) :
    SM ty (w4.setCell ⟨M, 1, none⟩ (.slice (some ⟨d, 0, none⟩) X.length cd)) M a ca d cd X X ∧ W.grownBy (w4.setCell ⟨M, 1, none⟩ (.slice (some ⟨d, 0, none⟩) X.length cd)) (some M) := by
  have h4 := h.kept hg (by simp) (by simp) (by simp)
  have hgc := grown_cell w4 M 1 (.slice (some ⟨d, 0, none⟩) X.length cd)
  have l1 := h.lt
  have l2 := h.ra.lt
  refine ⟨⟨heap_setCell_same w4 M 1 _ ty _ h4.blk, h4.ra.kept hgc (fun e => h.na (Option.some.inj e).symm), hR.kept hgc (fun e => by have := Option.some.inj e; omega), h.cx, h.cx, rfl, h.na, by omega, by omega⟩, grown_trans (grown_row hg _) hgc⟩
theorem SM.put0 {ty : TypeId} {W w4 : World} {M a ca b cb d cd : Nat} {X Y : List Int} (h : SM ty W M a ca b cb X Y) (hg : W.grownBy w4 none) (hd : W.heap.size ≤ d) (hR : Row w4 d cd Y) :
    SM ty (w4.setCell ⟨M, 0, none⟩ (.slice (some ⟨d, 0, none⟩) X.length cd)) M d cd b cb Y Y ∧ W.grownBy (w4.setCell ⟨M, 0, none⟩ (.slice (some ⟨d, 0, none⟩) X.length cd)) (some M) := by
  have h4 := h.kept hg (by simp) (by simp) (by simp)
  have hgc := grown_cell w4 M 0 (.slice (some ⟨d, 0, none⟩) X.length cd)
  have l1 := h.lt
  have l2 := h.rb.lt
  refine ⟨⟨by rw [h.len]; exact heap_setCell_same w4 M 0 _ ty _ (h.len ▸ h4.blk), hR.kept hgc (fun e => by have := Option.some.inj e; omega), h4.rb.kept hgc (fun e => h.nb (Option.some.inj e).symm), h.cy, h.cy, rfl, by omega, h.nb, by omega⟩, grown_trans (grown_row hg _) hgc⟩
set_option maxHeartbeats 4000000 in
theorem rcommit_ok {M a ca b cb : Nat} {X Y : List Int} {W : World} (h : SM 51 W M a ca b cb X Y) :
    Calls Try.prog 41 #[.pointer (some ⟨M, 0, none⟩)] W fun e W' => e = .returned (.tuple #[]) ∧ ∃ d cd, W.heap.size ≤ d ∧ Hid (SM 51 W' M a ca d cd X X ∧ W.grownBy W' (some M)) := by
  have c0 := h.c0
  have hbig := h.cx.big
  have hpos := h.cx.pos
  have H := hid h
  have HA := hid (h.ra.arg.news)
  obtain ⟨i0, hi, hz0, hz1, hz2⟩ := info_parts Try.info3
  have HI := hid hi; have HZ0 := hid hz0; have HZ1 := hid hz1; have HZ2 := hid hz2
  have HLn := hid (show (vi X).length = X.length * 1 by rw [vi_len]; omega)
  clear hi hz0 hz1 hz2 h
  go_enter Try.func41, Try.ntmps41
  go_wp2_with (first | (at_builtin; refine wpList_append_own _ rfl _ _ 22 rfl W.heap.size 3 i0 (.int .i64 0) 1 8 Try.underlying22 HI.out HZ0.out HZ1.out HZ2.out rfl (by decide) (.slice none 0 0) 0 [] rfl (World.ownsRow_nil _ _ _ _) ⟨a, 0, none⟩ X.length ca (vi X) rfl HLn.out HA.out (one_vi X) (by unfold maxLen; omega) (by omega) (by omega) ?_; intro v4 w4 hown4 hgrow4 _; obtain ⟨d, cd, rfl, hd, hRd⟩ := row_of (X := X) (by simpa using hown4) hpos (by omega); have hG4 := hid (show W.grownBy w4 none from hgrow4); have H4 := hid (H.out.kept hG4.out (by simp) (by simp) (by simp)); have d1 := H4.out.c1; have f1 := frozen_of_row _ _ 1 _ _ H4.out.blk; have HP := hid (H.out.put1 hG4.out hd hRd); clear hown4 hgrow4 hRd))
  go_end0
  exact ⟨rfl, d, hd, cd, HP⟩
set_option maxHeartbeats 4000000 in
theorem rrollback_ok {M a ca b cb : Nat} {X Y : List Int} {W : World} (h : SM 51 W M a ca b cb X Y) :
    Calls Try.prog 23 #[.pointer (some ⟨M, 0, none⟩)] W fun e W' => e = .returned (.tuple #[]) ∧ ∃ d cd, W.heap.size ≤ d ∧ Hid (SM 51 W' M d cd b cb Y Y ∧ W.grownBy W' (some M)) := by
  have c0 := h.c1
  have hbig := h.cx.big
  have hpos := h.cx.pos
  have hlen := h.len
  have H := hid h
  have HA := hid (h.rb.arg.news)
  obtain ⟨i0, hi, hz0, hz1, hz2⟩ := info_parts Try.info3
  have HI := hid hi; have HZ0 := hid hz0; have HZ1 := hid hz1; have HZ2 := hid hz2
  have HLn := hid (show (vi Y).length = X.length * 1 by rw [vi_len]; omega)
  clear hi hz0 hz1 hz2 h
  go_enter Try.func23, Try.ntmps23
  go_wp2_with (first | (at_builtin; refine wpList_append_own _ rfl _ _ 22 rfl W.heap.size 3 i0 (.int .i64 0) 1 8 Try.underlying22 HI.out HZ0.out HZ1.out HZ2.out rfl (by decide) (.slice none 0 0) 0 [] rfl (World.ownsRow_nil _ _ _ _) ⟨b, 0, none⟩ X.length cb (vi Y) rfl HLn.out HA.out (one_vi Y) (by unfold maxLen; omega) (by omega) (by omega) ?_; intro v4 w4 hown4 hgrow4 _; obtain ⟨d, cd, rfl, hd, hRd⟩ := row_of (X := Y) (by simpa using hown4) (by omega) (by omega); have hG4 := hid (show W.grownBy w4 none from hgrow4); have H4 := hid (H.out.kept hG4.out (by simp) (by simp) (by simp)); have d1 := H4.out.c0; have f1 := frozen_of_row _ _ 0 _ _ H4.out.blk; have HP := hid (H.out.put0 hG4.out hd hRd); clear hown4 hgrow4 hRd))
  go_end0
  exact ⟨rfl, d, hd, cd, HP⟩
end Go.Proofs.Ytablogkafbajaaa
