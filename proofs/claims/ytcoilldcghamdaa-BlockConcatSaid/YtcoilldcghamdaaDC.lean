/- Lists of words held against each other; a disk's image. No conditions but those of each theorem. -/
import Derived.Test.YtcoilldcghamdaaSyZ
import Derived.KernelRfl
import Derived.Test.YtcoilldcghamdaaDB
namespace Go.Proofs.Ytcoilldcghamdaa
open Go.RowKit
open OldD (DA Dk Co fp Gr Row Fresh hid hd hs gu nk good ldK ge vu Ar un stF chk3 chk4 rdV wrE wrK flK)
set_option linter.unusedVariables false
set_option linter.unusedSimpArgs false
set_option maxRecDepth 10000
theorem take_eq_succ (L M : List Int) (k : Nat) (h1 : k < L.length) (h2 : k < M.length) : L.take (k + 1) = M.take (k + 1) ↔ L.take k = M.take k ∧ L.getD k default = M.getD k default := by
  rw [List.take_succ_eq_append_getElem h1, List.take_succ_eq_append_getElem h2, List.getD_eq_getElem?_getD, List.getD_eq_getElem?_getD, List.getElem?_eq_getElem h1, List.getElem?_eq_getElem h2]
  constructor
  · intro h
    have := List.append_inj' h rfl
    exact ⟨this.1, by simpa using this.2⟩
  · rintro ⟨h1, h2⟩
    have h3 : L[k] = M[k] := h2
    rw [h1, h3]
theorem len_ne {L M : List Int} (h : ¬ (L.length : Int) = M.length) : ¬ L = M := fun e => h (by rw [e])
set_option maxHeartbeats 4000000 in
theorem same_any (L M : List Int) (hl : L.length ≤ 1000000) (hm : M.length ≤ 1000000) : CallOK Try.prog 28 [.sl 0 0 1 L.length none, .sl 1 0 1 M.length none] [(0, .ro 1 L.length (rowG encU L)), (1, .ro 1 M.length (rowG encU M))] (B (decide (L = M))) [] := by
  refine CallOK.intro Try.call28 Try.func28 rfl rfl ⟨rfl, fun _ => rfl, rfl, fun _ => rfl, trivial⟩ ?_
  refine Safe.withLoop (loopAt Try.f28 0) [0, 1] 26 (fun k : Nat => [(0, .sl 0 0 1 L.length none), (1, .sl 1 0 1 M.length none), (5, I k)]) (fun k => [(0, .ro 1 L.length (rowG encU L)), (1, .ro 1 M.length (rowG encU M))]) (fun k => L.length = M.length ∧ k ≤ L.length ∧ L.take k = M.take k) (fun k => L.length - k) ?_ ?_
  · rintro k ⟨h1, h2, h3⟩ ih
    have hs := take_eq_succ L M k
    refine (Classical.em ((↑k : Int) < (↑L.length : Int))).elim (fun hc1 => ?ga0) (fun hc1 => ?gb0)
    case' gb0 =>
      refine Safe.ends mixed Go.Proofs.Try.func28 7 [⟨1100, [(3, .tt false)]⟩, ⟨1200, []⟩] (r := B (true)) (hp := [(0, .ro ((1 : Nat)) (L.length) (rowG encU L)), (1, .ro ((1 : Nat)) (M.length) (rowG encU M))]) (ob := [decide ((↑k : Int) < (↑L.length : Int)) = false]) rfl (by kernel_rfl) ⟨(decide_eq_false hc1), trivial⟩ ?_ ⟨ObLe.refl _, ObLe.refl _, trivial⟩ ⟨rfl, fun _ => rfl, rfl, fun _ => rfl, trivial⟩ rfl
    case' ga0 =>
      refine (Classical.em (¬L.getD k default = M.getD k default)).elim (fun hc2 => ?ga1) (fun hc2 => ?gb1)
      case' gb1 =>
        refine Safe.goto mixed 14 [⟨1100, [(3, .tt true)]⟩, ⟨1200, [(8, .tt false)]⟩, ⟨1300, []⟩] [0, 1, 5] [0, 1] (todo' := loopAt Go.Proofs.Try.f28 0) (sl := slotsOf 26 [(0, .sl ((0 : Nat)) ((0 : Nat)) ((1 : Nat)) (L.length) (none)), (1, .sl ((1 : Nat)) ((0 : Nat)) ((1 : Nat)) (M.length) (none)), (5, I ((↑k : Int) + (1 : Int)))]) (hp := [(0, .ro ((1 : Nat)) (L.length) (rowG encU L)), (1, .ro ((1 : Nat)) (M.length) (rowG encU M))]) (ob := [decide ((↑k : Int) < (↑L.length : Int)) = true, (0 : Int) ≤ (↑k : Int) ∧ (↑k : Int) < (↑L.length : Int), k < L.length, (0 : Int) ≤ (↑k : Int) ∧ (↑k : Int) < (↑M.length : Int), k < M.length, (decide ¬L.getD k default = M.getD k default) = false, inK IntKind.i64 ((↑k : Int) + (1 : Int))]) rfl rfl (by kernel_rfl) ⟨(decide_eq_true hc1), (by omega), (by omega), (by omega), (by omega), (decide_eq_false hc2), (by simp only [inK]; omega), trivial⟩ rfl ⟨rfl, fun _ => rfl, rfl, fun _ => rfl, trivial⟩ ?_
      case' ga1 =>
        refine Safe.ends mixed Go.Proofs.Try.func28 12 [⟨1100, [(3, .tt true)]⟩, ⟨1200, [(8, .tt true)]⟩, ⟨1300, []⟩] (r := B (false)) (hp := [(0, .ro ((1 : Nat)) (L.length) (rowG encU L)), (1, .ro ((1 : Nat)) (M.length) (rowG encU M))]) (ob := [decide ((↑k : Int) < (↑L.length : Int)) = true, (0 : Int) ≤ (↑k : Int) ∧ (↑k : Int) < (↑L.length : Int), k < L.length, (0 : Int) ≤ (↑k : Int) ∧ (↑k : Int) < (↑M.length : Int), k < M.length, (decide ¬L.getD k default = M.getD k default) = true]) rfl (by kernel_rfl) ⟨(decide_eq_true hc1), (by omega), (by omega), (by omega), (by omega), (decide_eq_true hc2), trivial⟩ ?_ ⟨ObLe.refl _, ObLe.refl _, trivial⟩ ⟨rfl, fun _ => rfl, rfl, fun _ => rfl, trivial⟩ rfl
    · skip
      have hb : ¬ L = M := fun e => hc2 (by rw [e])
      show B _ = B _
      rw [decide_eq_false hb]
    · exact ih (k + 1) ⟨h1, by omega, (hs (by omega) (by omega)).2 ⟨h3, Classical.not_not.1 hc2⟩⟩ (by omega)
    · show B _ = B _
      rw [List.take_of_length_le (by omega), List.take_of_length_le (by omega)] at h3
      rw [decide_eq_true h3]
  · intro H
    refine (Classical.em (¬(↑L.length : Int) = (↑M.length : Int))).elim (fun hc1 => ?ga2) (fun hc1 => ?gb2)
    case' gb2 =>
      refine Safe.goto mixed 12 [⟨1100, []⟩, ⟨1200, [(4, .tt false)]⟩, ⟨1300, []⟩] [0, 1, 5] [0, 1] (todo' := loopAt Go.Proofs.Try.f28 0) (sl := slotsOf 26 [(0, .sl ((0 : Nat)) ((0 : Nat)) ((1 : Nat)) (L.length) (none)), (1, .sl ((1 : Nat)) ((0 : Nat)) ((1 : Nat)) (M.length) (none)), (5, I ((0 : Int)))]) (hp := [(0, .ro ((1 : Nat)) (L.length) (rowG encU L)), (1, .ro ((1 : Nat)) (M.length) (rowG encU M))]) (ob := [(decide ¬(↑L.length : Int) = (↑M.length : Int)) = false]) rfl rfl (by kernel_rfl) ⟨(decide_eq_false hc1), trivial⟩ rfl ⟨rfl, fun _ => rfl, rfl, fun _ => rfl, trivial⟩ ?_
    case' ga2 =>
      refine Safe.ends mixed Go.Proofs.Try.func28 8 [⟨1100, []⟩, ⟨1200, [(4, .tt true)]⟩, ⟨1300, []⟩] (r := B (false)) (hp := [(0, .ro ((1 : Nat)) (L.length) (rowG encU L)), (1, .ro ((1 : Nat)) (M.length) (rowG encU M))]) (ob := [(decide ¬(↑L.length : Int) = (↑M.length : Int)) = true]) rfl (by kernel_rfl) ⟨(decide_eq_true hc1), trivial⟩ ?_ ⟨ObLe.refl _, ObLe.refl _, trivial⟩ ⟨rfl, fun _ => rfl, rfl, fun _ => rfl, trivial⟩ rfl
    · show B _ = B _
      rw [decide_eq_false (len_ne hc1)]
    · exact H 0 ⟨by omega, Nat.zero_le _, rfl⟩
theorem image_c (m : Nat) (k : Dk) (d : Nat) (X : List Int) (hX : (gu k.U d).now = X) (hd : d < k.U.length) :
    CallOK Try.prog 26 [.ptr 0 0 0 0, I (d : Int)] [(0, .box (dbox m k))] (.tup [.sl 10 0 1 X.length none, I 0]) [(10, some (.vec 36 1 X.length (rowG encU X)))] := by
  subst hX
  refine ⟨Try.call26, fun E W cs hcs rh hn => ?_⟩
  simp only [RVs, RV, I] at hcs
  obtain ⟨y, l, rfl, ⟨a0, k0, e0, rfl⟩, y2, l2, rfl, rfl, rfl⟩ := hcs
  obtain ⟨A, co, kk, e1, e2, e3, e4, e5⟩ := dbox_open (rh.holds 0 _ rfl) (c := .pointer (some ⟨a0.block, a0.off + (0 * 0 + 0), none⟩)) (by simp only [RV]; exact ⟨a0, k0, e0, rfl⟩)
  rw [e1]
  refine (OldD.image_ok e3 d hd).mono ?_
  rintro e W' ⟨g, cg, rfl, hg, HH⟩
  obtain ⟨hr, hb⟩ := HH.out
  have hne := hn 10 (by simp [newIds, hasId, find, upd])
  have hxt := nw_set E 10 (some ⟨g, 0, none⟩, cg) hne
  have gb : W.grownBy W' none := ⟨hb.os, hb.tape, hb.output, hb.size, fun i hi _ => hb.block i hi⟩
  have hh : Holds (fun y => if y = 10 then some (some ⟨g, 0, none⟩, cg) else E y) W' 10 (.vec 36 1 (gu k.U d).now.length (rowG encU (gu k.U d).now)) := by
    refine ⟨some ⟨g, 0, none⟩, cg, vu (gu k.U d).now, by simp, hr, OldD.one_vu _, fun q hq => ?_⟩
    have hq2 : q < (vu (gu k.U d).now).length := by simpa [vu] using hq
    simp only [cellsAt, Nat.mul_one]
    rw [List.drop_eq_getElem_cons hq2, List.take_succ_cons, List.take_zero]
    simp only [rowG, encU, U, RVs, RV]
    refine ⟨_, _, rfl, ?_, rfl⟩
    simp [vu, List.getD_eq_getElem?_getD, List.getElem?_eq_getElem hq]
  obtain ⟨q1, q2⟩ := RH.change (h' := upd [(0, .box (dbox m k))] 10 (.vec 36 1 (gu k.U d).now.length (rowG encU (gu k.U d).now))) (row := none) rh hxt gb (fun b hb => by cases hb) (by rw [find_upd]; simp) (fun x hx y hy => by rw [find_upd, if_neg (fun e => hx e.symm)] at hy; exact hy) hh (fun b hb => .inr (by
    simp only [Foot, Ob.bx, FootB, blkOf, if_pos, Option.some.injEq] at hb
    omega))
  refine ⟨_, _, rfl, hxt, ?_, q1, q2⟩
  have hcap := OldD.own_cap hr
  simp only [RV, RVs, I]
  exact ⟨[.slice (some ⟨g, 0, none⟩) (gu k.U d).now.length cg, .int .i64 0], rfl, _, _, rfl, ⟨some ⟨g, 0, none⟩, cg, by simp, 0, cg, rfl, hcap.1, by omega, fun _ => by simp, by simp⟩, _, _, rfl, rfl, rfl⟩
end Go.Proofs.Ytcoilldcghamdaa
