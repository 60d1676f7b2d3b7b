/- The reference's Cut. No conditions but those of each theorem. -/
import Derived.Test.YtdpclmogfnigdaaO
namespace Go.Proofs.Ytdpclmogfnigdaa
open Go.ChangeShapes Go.WideShapes Go.ChangeAt Go.RowKit
set_option linter.unusedVariables false
set_option linter.unusedSimpArgs false

theorem bdn (k : Nat) (w : World) (n : Nat) : Below k w (w.drewN n) := ⟨rfl, rfl, rfl, Nat.le_refl _, fun _ _ => rfl⟩
/-- Cut's answer -/
def cutL (l : List UInt8) : List UInt8 × Bool := if (stripL l).2 then stripL l else ([], false)
/-- the twelve texts -/
def px (k : Nat) : List UInt8 := if k < 4 then sx k else legW (k - 4)
theorem px_suf {k : Nat} (h : k < 12) : Suf (px k) := by
  unfold px
  split
  · exact .part _ ‹_›
  · exact legW_suf _ (by omega)
theorem suf_px {p : List UInt8} (h : Suf p) : ∃ k, k < 12 ∧ p = px k := by
  cases h with
  | part k hk => exact ⟨k, by omega, by unfold px; rw [if_pos hk]⟩
  | leg c hc =>
    unfold isLeg at hc
    simp at hc
    refine ⟨4 + (c.toNat - 48), by omega, ?_⟩
    unfold px legW
    rw [if_neg (by omega)]
    congr 1
    rw [show (48 + ((4 + (c.toNat - 48) - 4 : Nat) : Int)).toNat = c.toNat by omega]
    simp
theorem cut_some {l : List UInt8} {k : Nat} (hk : k < 12) (h : Lib.hasSuffix l (px k) = true) : cutL l = (Lib.trimSuffix l (px k), true) := by
  obtain ⟨t, rfl⟩ := (suf_iff _ _).1 h
  unfold cutL
  rw [strip_app _ _ (px_suf hk), if_pos rfl, trim_self]
theorem cut_none {l : List UInt8} (h : ∀ k, k < 12 → Lib.hasSuffix l (px k) = false) : cutL l = ([], false) := by
  unfold cutL
  by_cases hs : (stripL l).2 = true
  · obtain ⟨p, hp, e⟩ := strip_back l hs
    obtain ⟨k, hk, rfl⟩ := suf_px hp
    have := h k hk
    rw [e, suf_self] at this
    cases this
  · rw [if_neg hs]
def pcells : Array Value := #[.string ⟨#[95, 108, 111, 103]⟩, .string ⟨#[95, 100, 97, 116, 97]⟩, .string ⟨#[95, 109, 101, 116, 97]⟩, .string ⟨#[95, 115, 112, 97, 114, 101]⟩, .string ⟨#[95, 108, 101, 103, 48]⟩, .string ⟨#[95, 108, 101, 103, 49]⟩, .string ⟨#[95, 108, 101, 103, 50]⟩, .string ⟨#[95, 108, 101, 103, 51]⟩, .string ⟨#[95, 108, 101, 103, 52]⟩, .string ⟨#[95, 108, 101, 103, 53]⟩, .string ⟨#[95, 108, 101, 103, 54]⟩, .string ⟨#[95, 108, 101, 103, 55]⟩]
theorem pcells_at : ∀ k, k < 12 → pcells[k]? = some (.string (bs (px k))) := by
  intro k hk
  match k, hk with
  | 0, _ => rfl
  | 1, _ => rfl
  | 2, _ => rfl
  | 3, _ => rfl
  | 4, _ => rfl
  | 5, _ => rfl
  | 6, _ => rfl
  | 7, _ => rfl
  | 8, _ => rfl
  | 9, _ => rfl
  | 10, _ => rfl
  | 11, _ => rfl
set_option maxHeartbeats 4000000 in
theorem cut12_any (s : ByteArray) (hs : s.size ≤ 9223372036854775806) (w : World) :
    Calls Try.prog 46 #[.string s] w fun e w' => e = .returned (.tuple #[.string (bs (cutL s.data.toList).1), .bool (cutL s.data.toList).2]) ∧ Below w.heap.size w w' := by
  go_enter Try.func46, Try.ntmps46
  go_wp2_with fail
  obtain ⟨w1, hw1⟩ : ∃ w1, w1 = w.alloc (.cells pcells 9) := ⟨_, rfl⟩
  have HB1 := hid (show Below w.heap.size w w1 by rw [hw1]; exact (Below.refl _ _).alloc (Nat.le_refl _) _)
  have HC := hid (show ∀ k, k < 12 → w1.cell? ⟨w.heap.size, k, none⟩ = some (.string (bs (px k))) from fun k hk => by rw [hw1, cell_of_row _ _ _ pcells 9 (0, 0) (heap_alloc_new _ _), pcells_at k hk])
  have HS1 := hid (show w.heap.size < w1.heap.size by rw [hw1]; simp)
  unfold pcells at hw1
  rw [← hw1]
  clear hw1
  generalize hB : w.heap.size = B at *
  go_loopw [5] (fun iv wr => ∃ k : Nat, k ≤ 12 ∧ iv = .int .i64 (k : Int) ∧ Hid (Below w1.heap.size w1 wr) ∧ Hid (∀ j, j < k → Lib.hasSuffix s.data.toList (px j) = false)) (fun iv _ => 12 - (intOf iv).toNat)
  case atStart => exact ⟨0, by omega, rfl, hid (Below.refl _ _), hid (fun j hj => by omega)⟩
  case round =>
    obtain ⟨k, hk, rfl, HB, HN⟩ := hrel
    by_cases h12 : k < 12
    · have h12' : (k : Int) < 12 := by omega
      have c0 : wr.cell? ⟨B, k, none⟩ = some (.string (bs (px k))) := (HB.out.cell (p := ⟨B, k, none⟩) HS1.out).trans (HC.out k h12)
      have hp6 : (bs (px k)).size ≤ 6 := by rw [bs_size]; exact (suf_len5 (px_suf h12)).2
      have hpd : (bs (px k)).data.toList = px k := bs_data _
      have HX := hid (fun h => cut_some (l := s.data.toList) h12 h)
      have HM := hid (fun (h : Lib.hasSuffix s.data.toList (px k) = false) => (fun j hj => by
        by_cases e : j = k
        · subst e; exact h
        · exact HN.out j (by omega) : ∀ j, j < k + 1 → Lib.hasSuffix s.data.toList (px j) = false))
      rw [← hpd] at HX HM
      clear HN
      generalize bs (px k) = p at *
      have h3 := Lib.hasSuffix_raw s p
      by_cases hp : p.size ≤ s.size
      · have hn : (s.size : Int) - (p.size : Int) = ((s.size - p.size : Nat) : Int) := by omega
        have hn0 : (0 : Int) ≤ ((s.size - p.size : Nat) : Int) := by omega
        have hn1 : s.size - p.size ≤ s.size := by omega
        by_cases he : ((s.extract (s.size - p.size) s.size).toList == p.toList) = true
        · have h2 := Lib.trimSuffix_hit s p hp he
          rw [he, decide_eq_true hp, Bool.and_true] at h3
          have HE := hid (HX.out h3.symm)
          have H2 := hid h2
          clear h2 h3 HM HX
          generalize s.size - p.size = n at *
          have hn2 : (n : Int) ≤ (s.size : Int) := by omega
          go_wp2_with fail
          go_quiet (fail)
          go_wp2_with fail
          go_ret2
          exact ⟨by rw [HE.out]; unfold bs; rw [H2.out]; rfl, by rw [hB]; exact HB1.out.trans ((HB.out.trans (bdn _ wr nq)).mono (Nat.le_of_lt HS1.out))⟩
        · have he : ((s.extract (s.size - p.size) s.size).toList == p.toList) = false := by simpa using he
          rw [he, Bool.and_false] at h3
          have HN2 := hid (HM.out h3.symm)
          clear h3 HM HX
          generalize s.size - p.size = n at *
          have hn2 : (n : Int) ≤ (s.size : Int) := by omega
          go_wp2_with fail
          go_quiet (fail)
          go_wp2_with fail
          go_roundw
          case rel => exact ⟨k + 1, by omega, by go_num, hid (HB.out.trans (bdn _ wr nq)), HN2⟩
          case measure => simp [intOf]; omega
      · have hn0 : ¬ (0 : Int) ≤ (s.size : Int) - (p.size : Int) := by omega
        rw [decide_eq_false hp, Bool.false_and] at h3
        have HN2 := hid (HM.out h3.symm)
        clear h3 HM HX
        go_wp2_with fail

        go_quiet (fail)
        go_wp2_with fail
        go_roundw
        case rel => exact ⟨k + 1, by omega, by go_num, hid (HB.out.trans (bdn _ wr nq)), HN2⟩
        case measure => simp [intOf]; omega
    · obtain rfl : k = 12 := by omega
      have HE := hid (cut_none HN.out)
      clear HN
      go_wp2_with fail
      go_ret2
      exact ⟨by rw [HE.out]; rfl, by rw [hB]; exact HB1.out.trans (HB.out.mono (by have := HS1.out; omega))⟩
end Go.Proofs.Ytdpclmogfnigdaa
