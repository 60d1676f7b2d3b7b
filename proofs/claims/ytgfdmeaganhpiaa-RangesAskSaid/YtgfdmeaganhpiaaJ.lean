/- The check of layer 3. No conditions but those of each theorem. -/
import Derived.Test.YtgfdmeaganhpiaaI
namespace Go.Proofs.Ytgfdmeaganhpiaa.Old
open Go.ChangeShapes Go.WideShapes Go.ChangeAt Go.RowKit
set_option linter.unusedVariables false
set_option linter.unusedSimpArgs false

set_option maxHeartbeats 2000000 in
theorem check_ok (B : Nat) (a b : Option Addr) (len cap len2 cap2 : Nat) (rs rs2 : List Rn) (hbig : len ≤ 1000000) (hbig2 : len2 ≤ 1000000) (hv : ∀ r ∈ rs, Vld r) (hv2 : ∀ r ∈ rs2, Vld r) (w : World) (hP : Pr w B 22 (.slice a len cap) (.slice b len2 cap2)) (hR : Rg w.heap.size w a len rs) (hR2 : Rg w.heap.size w b len2 rs2) :
    Calls Try.prog 36 #[.slice (some ⟨B, 0, none⟩) 2 2] w fun e w' => e = .returned (.int .i64 0) ∧ Below w.heap.size w w' := by
  have HP := hid hP
  have HAll := hid (show ∀ i : Nat, i < 2 → ∃ (ad : Option Addr) (n c : Nat) (l : List Rn), n ≤ 1000000 ∧ w.cell? ⟨B, i, none⟩ = some (.slice ad n c) ∧ Hid ((∀ r ∈ l, Vld r) ∧ Rg w.heap.size w ad n l) from fun i hi => by
    match i, hi with
    | 0, _ => exact ⟨a, len, cap, rs, hbig, hP.c0, hid ⟨hv, hR⟩⟩
    | 1, _ => exact ⟨b, len2, cap2, rs2, hbig2, hP.c1, hid ⟨hv2, hR2⟩⟩)
  have hBlt := hP.lt
  clear hP hR hR2 hv hv2
  go_enter Try.func36, Try.ntmps36
  go_wp2_with fail
  go_loopw [9] (fun iv wr => ∃ k : Nat, k ≤ 2 ∧ iv = .int .i64 (k : Int) ∧ Hid (Below w.heap.size w wr ∧ w.heap.size ≤ wr.heap.size)) (fun iv _ => 2 - (intOf iv).toNat)
  case atStart => exact ⟨0, by omega, rfl, hid ⟨Below.refl _ _, Nat.le_refl _⟩⟩
  case round =>
    obtain ⟨k, hk, rfl, HB⟩ := hrel
    by_cases hlt : k < 2
    · obtain ⟨ad, n, c, l, hn, hc, HL⟩ := HAll.out k hlt
      have c0 := (HB.out.1.cell (p := ⟨B, k, none⟩) hBlt).trans hc
      have h3 : (k : Int) < 2 := by omega
      have HBk := hid HB.out
      clear hc
      go_wp2_with fail
      go_loopw [15] (fun iv wq => ∃ j : Nat, j ≤ n ∧ iv = .int .i64 (j : Int) ∧ Hid (Below w.heap.size w wq ∧ w.heap.size ≤ wq.heap.size)) (fun iv _ => n - (intOf iv).toNat)
      case atStart => exact ⟨0, by omega, rfl, HBk⟩
      case round =>
        obtain ⟨j, hj, rfl, HBj⟩ := hrel
        by_cases hjn : j < n
        · obtain ⟨g, off, rfl, hgl, hall⟩ := HL.out.2.2.2.resolve_left (by omega)
          have d0 := (HBj.out.1.cell (p := ⟨g, off + j * 2, none⟩) hgl).trans (hall j hjn).1
          have d1 := (HBj.out.1.cell (p := ⟨g, off + j * 2 + 1, none⟩) hgl).trans (hall j hjn).2
          clear hall
          have hm := at_mem l j (by rw [HL.out.2.1]; exact hjn)
          have hv := HL.out.1 _ hm
          have hi := HL.out.2.2.1 _ hm
          obtain ⟨⟨s, y⟩, hr⟩ : ∃ r : Rn, r = l[j]?.getD (0, 0) := ⟨_, rfl⟩
          rw [← hr] at d0 d1 hv hi
          clear hr hm
          simp only at d0 d1 hi
          have hVal := hid (fun w => valid_any s y hi.1 hi.2 w)
          rw [decide_eq_true hv] at hVal
          have h4 : (j : Int) < (n : Int) := by omega
          have HA := hid (HBj.out.1.alloc HBj.out.2 (.cells #[.int .i64 s, .int .i64 y] 42))
          have hS := hid (show w.heap.size ≤ (wr.alloc (.cells #[.int .i64 s, .int .i64 y] 42)).heap.size by have := HBj.out.2; simp; omega)
          clear hv hi
          go_wp2_with fail
          refine (hVal.out _).mono ?_
          rintro e w2 ⟨rfl, rfl⟩
          have HA2 := hid (HA.out.alloc hS.out (.cells #[.int .i64 s, .int .i64 y] 42))
          have hS2 := hid (show w.heap.size ≤ ((wr.alloc (.cells #[.int .i64 s, .int .i64 y] 42)).alloc (.cells #[.int .i64 s, .int .i64 y] 42)).heap.size by have := hS.out; rw [World.size_alloc]; omega)
          generalize (wr.alloc (.cells #[.int .i64 s, .int .i64 y] 42)).alloc (.cells #[.int .i64 s, .int .i64 y] 42) = w3 at *
          go_wp2_with fail
          go_roundw
          case rel => exact ⟨j + 1, by omega, by go_num, hid ⟨HA2.out, hS2.out⟩⟩
          case measure => simp [intOf]; omega
        · obtain rfl : j = n := by omega
          have h4 : ¬ (j : Int) < (j : Int) := by omega
          go_wp2_with fail
          go_roundw
          case rel => exact ⟨k + 1, by omega, by go_num, HBj⟩
          case measure => simp [intOf]; omega
    · obtain rfl : k = 2 := by omega
      go_wp2
      go_ret
      exact ⟨rfl, HB.out.1⟩
end Go.Proofs.Ytgfdmeaganhpiaa.Old
