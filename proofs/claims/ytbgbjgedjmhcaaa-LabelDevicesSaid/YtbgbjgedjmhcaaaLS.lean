/- Two lists of words are the same. No conditions but those of each theorem. -/
import Derived.Test.YtbgbjgedjmhcaaaSyZ
import Derived.KernelRfl
import Derived.Test.YtbgbjgedjmhcaaaD3
namespace Go.Proofs.Ytbgbjgedjmhcaaa
open Go.RowKit
set_option linter.unusedVariables false
set_option linter.unnecessarySimpa false
set_option linter.unusedSimpArgs false
set_option maxRecDepth 10000
theorem take_eq_succ (L M : List Int) (k : Nat) (h1 : k < L.length) (h2 : k < M.length) : L.take (k + 1) = M.take (k + 1) ↔ L.take k = M.take k ∧ L.getD k default = M.getD k default := by
  rw [List.take_succ_eq_append_getElem h1, List.take_succ_eq_append_getElem h2, List.getD_eq_getElem?_getD, List.getD_eq_getElem?_getD, List.getElem?_eq_getElem h1, List.getElem?_eq_getElem h2]
  constructor
  · intro h
    have := List.append_inj' h rfl
    exact ⟨this.1, by simpa using this.2⟩
  · rintro ⟨h1, h2⟩
    have h3 : L[k] = M[k] := h2
    rw [h1, h3]
theorem len_ne {L M : List Int} (h : ¬ (L.length : Int) = M.length) : ¬ L = M := fun e => h (by rw [e])
set_option maxHeartbeats 4000000 in
theorem same_any (L M : List Int) (hl : L.length ≤ 1000000) (hm : M.length ≤ 1000000) : CallOK Try.prog 16 [.sl 0 0 1 L.length none, .sl 1 0 1 M.length none] [(0, .ro 1 L.length (rowG encU L)), (1, .ro 1 M.length (rowG encU M))] (B (decide (L = M))) [] := by
  refine CallOK.intro Try.call16 Try.func16 rfl rfl ⟨rfl, fun _ => rfl, rfl, fun _ => rfl, trivial⟩ ?_
  refine Safe.withLoop (loopAt Try.f16 0) [0, 1] 26 (fun k : Nat => [(0, .sl 0 0 1 L.length none), (1, .sl 1 0 1 M.length none), (5, I k)]) (fun k => [(0, .ro 1 L.length (rowG encU L)), (1, .ro 1 M.length (rowG encU M))]) (fun k => L.length = M.length ∧ k ≤ L.length ∧ L.take k = M.take k) (fun k => L.length - k) ?_ ?_
  · rintro k ⟨h1, h2, h3⟩ ih
    have hs := take_eq_succ L M k
    refine (Classical.em ((↑k : Int) < (↑L.length : Int))).elim (fun hc1 => ?ga0) (fun hc1 => ?gb0)
    case' gb0 =>
      refine Safe.ends mixed Try.func16 7 [⟨1100, [(3, .tt false)]⟩, ⟨1200, []⟩] (r := B true) (hp := [(0, .ro 1 L.length (rowG encU L)), (1, .ro 1 M.length (rowG encU M))]) (ob := [decide ((↑k : Int) < (↑L.length : Int)) = false]) rfl (by kernel_rfl) ⟨(decide_eq_false hc1), trivial⟩ ?_ ⟨ObLe.refl _, ObLe.refl _, trivial⟩ ⟨rfl, fun _ => rfl, rfl, fun _ => rfl, trivial⟩ rfl
    case' ga0 =>
      refine (Classical.em (¬L.getD k default = M.getD k default)).elim (fun hc2 => ?ga1) (fun hc2 => ?gb1)
      case' gb1 =>
        refine Safe.goto mixed 14 [⟨1100, [(3, .tt true)]⟩, ⟨1200, [(8, .tt false)]⟩, ⟨1300, []⟩] [0, 1, 5] [0, 1] (todo' := loopAt Try.f16 0) (sl := slotsOf 26 [(0, .sl 0 0 1 L.length none), (1, .sl 1 0 1 M.length none), (5, I ((↑k : Int) + (1 : Int)))]) (hp := [(0, .ro 1 L.length (rowG encU L)), (1, .ro 1 M.length (rowG encU M))]) (ob := [decide ((↑k : Int) < (↑L.length : Int)) = true, (0 : Int) ≤ (↑k : Int) ∧ (↑k : Int) < (↑L.length : Int), k < L.length, (0 : Int) ≤ (↑k : Int) ∧ (↑k : Int) < (↑M.length : Int), k < M.length, (decide ¬L.getD k default = M.getD k default) = false, inK IntKind.i64 ((↑k : Int) + (1 : Int))]) rfl rfl (by kernel_rfl) ⟨(decide_eq_true hc1), (by omega), (by omega), (by omega), (by omega), (decide_eq_false hc2), (by simp only [inK]; omega), trivial⟩ rfl ⟨rfl, fun _ => rfl, rfl, fun _ => rfl, trivial⟩ ?_
      case' ga1 =>
        refine Safe.ends mixed Try.func16 12 [⟨1100, [(3, .tt true)]⟩, ⟨1200, [(8, .tt true)]⟩, ⟨1300, []⟩] (r := B false) (hp := [(0, .ro 1 L.length (rowG encU L)), (1, .ro 1 M.length (rowG encU M))]) (ob := [decide ((↑k : Int) < (↑L.length : Int)) = true, (0 : Int) ≤ (↑k : Int) ∧ (↑k : Int) < (↑L.length : Int), k < L.length, (0 : Int) ≤ (↑k : Int) ∧ (↑k : Int) < (↑M.length : Int), k < M.length, (decide ¬L.getD k default = M.getD k default) = true]) rfl (by kernel_rfl) ⟨(decide_eq_true hc1), (by omega), (by omega), (by omega), (by omega), (decide_eq_true hc2), trivial⟩ ?_ ⟨ObLe.refl _, ObLe.refl _, trivial⟩ ⟨rfl, fun _ => rfl, rfl, fun _ => rfl, trivial⟩ rfl
    · skip
      have hb : ¬ L = M := fun e => hc2 (by rw [e])
      show B _ = B _
      rw [decide_eq_false hb]
    · exact ih (k + 1) ⟨h1, by omega, (hs (by omega) (by omega)).2 ⟨h3, Classical.not_not.1 hc2⟩⟩ (by omega)
    · show B _ = B _
      rw [List.take_of_length_le (by omega), List.take_of_length_le (by omega)] at h3
      rw [decide_eq_true h3]
  · intro H
    refine (Classical.em (¬(↑L.length : Int) = (↑M.length : Int))).elim (fun hc1 => ?ga2) (fun hc1 => ?gb2)
    case' gb2 =>
      refine Safe.goto mixed 12 [⟨1100, []⟩, ⟨1200, [(4, .tt false)]⟩, ⟨1300, []⟩] [0, 1, 5] [0, 1] (todo' := loopAt Try.f16 0) (sl := slotsOf 26 [(0, .sl 0 0 1 L.length none), (1, .sl 1 0 1 M.length none), (5, I 0)]) (hp := [(0, .ro 1 L.length (rowG encU L)), (1, .ro 1 M.length (rowG encU M))]) (ob := [(decide ¬(↑L.length : Int) = (↑M.length : Int)) = false]) rfl rfl (by kernel_rfl) ⟨(decide_eq_false hc1), trivial⟩ rfl ⟨rfl, fun _ => rfl, rfl, fun _ => rfl, trivial⟩ ?_
    case' ga2 =>
      refine Safe.ends mixed Try.func16 8 [⟨1100, []⟩, ⟨1200, [(4, .tt true)]⟩, ⟨1300, []⟩] (r := B false) (hp := [(0, .ro 1 L.length (rowG encU L)), (1, .ro 1 M.length (rowG encU M))]) (ob := [(decide ¬(↑L.length : Int) = (↑M.length : Int)) = true]) rfl (by kernel_rfl) ⟨(decide_eq_true hc1), trivial⟩ ?_ ⟨ObLe.refl _, ObLe.refl _, trivial⟩ ⟨rfl, fun _ => rfl, rfl, fun _ => rfl, trivial⟩ rfl
    · show B _ = B _
      rw [decide_eq_false (len_ne hc1)]
    · exact H 0 ⟨by omega, Nat.zero_le _, rfl⟩
end Go.Proofs.Ytbgbjgedjmhcaaa
