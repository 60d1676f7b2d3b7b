/- Slots: has, checkSlot, checkValid, find, Find, least. -/
import Derived.Test.YtebejfmodiionaaSyX
import Derived.KernelRfl
import Derived.Test.YtebejfmodiionaaU4
namespace Go.Proofs.Ytebejfmodiionaa
open Go.RowKit
set_option linter.unusedVariables false
set_option linter.unnecessarySimpa false
set_option maxRecDepth 10000 in
set_option maxHeartbeats 4000000 in
theorem hasSlot_any (S : List Sl) (c : Int) (M : List Int) (k : Int) (hS : S.length ≤ 1000000) : CallOK Try.prog 57 [.agg [.sl 1 0 4 S.length none, I c, .sl 2 0 1 M.length none], I k] [(1, .ro 4 S.length (rowG encC S)), (2, .ro 1 M.length (rowG encI M))] (B (decide (0 ≤ k) && decide (k < S.length))) [] := by
  refine CallOK.intro Try.call57 Try.func57 rfl rfl ⟨rfl, fun _ => rfl, rfl, fun _ => rfl, trivial⟩ ?_
  refine (Classical.em (k ≥ (0 : Int))).elim (fun hc1 => ?ga0) (fun hc1 => ?gb0)
  case' gb0 =>
    refine Safe.ends mixed Go.Proofs.Try.func57 4 [⟨1100, []⟩, ⟨1200, [(1, .tt false)]⟩] (r := B (false)) (hp := [(1, .ro ((4 : Nat)) (S.length) (rowG encC S)), (2, .ro ((1 : Nat)) (M.length) (rowG encI M))]) (ob := [decide (k ≥ (0 : Int)) = false]) rfl (by kernel_rfl) ⟨(decide_eq_false hc1), trivial⟩ ?_ ⟨ObLe.refl _, ObLe.refl _, trivial⟩ ⟨rfl, fun _ => rfl, rfl, fun _ => rfl, trivial⟩ rfl
  case' ga0 =>
    refine Safe.ends mixed Go.Proofs.Try.func57 4 [⟨1100, []⟩, ⟨1200, [(1, .tt true)]⟩] (r := B (decide (k < (↑S.length : Int)))) (hp := [(1, .ro ((4 : Nat)) (S.length) (rowG encC S)), (2, .ro ((1 : Nat)) (M.length) (rowG encI M))]) (ob := [decide (k ≥ (0 : Int)) = true]) rfl (by kernel_rfl) ⟨(decide_eq_true hc1), trivial⟩ ?_ ⟨ObLe.refl _, ObLe.refl _, trivial⟩ ⟨rfl, fun _ => rfl, rfl, fun _ => rfl, trivial⟩ rfl
  · show B _ = B _
    rw [decide_eq_true (show 0 ≤ k from hc1), Bool.true_and]
  · show B _ = B _
    rw [decide_eq_false (show ¬ 0 ≤ k from hc1), Bool.false_and]
def ckSlot (S : List Sl) (c : Int) (M : List Int) (k : Int) : Int := if validF S c M ≠ 0 then 2 else if k < 0 ∨ k ≥ S.length then 1 else 0
set_option maxRecDepth 10000 in
set_option maxHeartbeats 4000000 in
theorem checkSlot_any (S : List Sl) (c : Int) (M : List Int) (k : Int) (hS : S.length ≤ 1000000) (hM : M.length ≤ 1000000) (hc : -9223372036854775808 ≤ c ∧ c ≤ 9223372036854775807) : CallOK Try.prog 51 [.agg [.sl 1 0 4 S.length none, I c, .sl 2 0 1 M.length none], I k] [(1, .ro 4 S.length (rowG encC S)), (2, .ro 1 M.length (rowG encI M))] (I (ckSlot S c M k)) [] := by
  refine CallOK.intro Try.call51 Try.func51 rfl rfl ⟨rfl, fun _ => rfl, rfl, fun _ => rfl, trivial⟩ ?_
  refine (Classical.em (¬validF S c M = (0 : Int))).elim (fun hc1 => ?ga1) (fun hc1 => ?gb1)
  case' gb1 =>
    refine (Classical.em ((decide ((0 : Int) ≤ k) && decide (k < (↑S.length : Int))) = true)).elim (fun hc2 => ?ga2) (fun hc2 => ?gb2)
    case' gb2 =>
      refine Safe.ends mixed Go.Proofs.Try.func51 12 [⟨1100, []⟩, ⟨1200, [(1, .call [1, 2] (I (validF S c M)) []), (2, .tt false)]⟩, ⟨1300, [(2, .call [1, 2] (B false) [])]⟩, ⟨1400, []⟩] (r := I ((1 : Int))) (hp := [(1, .ro ((4 : Nat)) (S.length) (rowG encC S)), (2, .ro ((1 : Nat)) (M.length) (rowG encI M))]) (ob := [CallOK Try.prog (13 : Nat) ([] ++ [AV.agg [AV.sl (1 : Nat) (0 : Nat) (4 : Nat) S.length none, AV.val (Value.int IntKind.i64 c), AV.sl (2 : Nat) (0 : Nat) (1 : Nat) M.length none]] ++ []) [((1 : Nat), Ob.ro (4 : Nat) S.length (rowG encC S)), ((2 : Nat), Ob.ro (1 : Nat) M.length (rowG encI M))] (AV.val (Value.int IntKind.i64 (validF S c M))) [], (decide ¬validF S c M = (0 : Int)) = false, CallOK Try.prog (57 : Nat) ([] ++ [AV.agg [AV.sl (1 : Nat) (0 : Nat) (4 : Nat) S.length none, AV.val (Value.int IntKind.i64 c), AV.sl (2 : Nat) (0 : Nat) (1 : Nat) M.length none], AV.val (Value.int IntKind.i64 k)] ++ []) [((1 : Nat), Ob.ro (4 : Nat) S.length (rowG encC S)), ((2 : Nat), Ob.ro (1 : Nat) M.length (rowG encI M))] (AV.val (Value.bool false)) []]) rfl (by kernel_rfl) ⟨(CallOK.ren (valid_any (S) (c) (M) (by omega) (by omega) (by omega)) [(1, 1), (2, 2)] [1, 2] rfl rfl rfl rfl ⟨rfl, fun _ => rfl, rfl, fun _ => rfl, trivial⟩ rfl ⟨rfl, fun _ => rfl, rfl, fun _ => rfl, trivial⟩), (decide_eq_false hc1), (CallOK.isB (CallOK.ren (hasSlot_any (S) (c) (M) (k) (by omega)) [(1, 1), (2, 2)] [1, 2] rfl rfl rfl rfl ⟨rfl, fun _ => rfl, rfl, fun _ => rfl, trivial⟩ rfl ⟨rfl, fun _ => rfl, rfl, fun _ => rfl, trivial⟩) (eq_false_of_ne_true hc2)), trivial⟩ ?_ ⟨ObLe.refl _, ObLe.refl _, trivial⟩ ⟨rfl, fun _ => rfl, rfl, fun _ => rfl, trivial⟩ rfl
    case' ga2 =>
      refine Safe.ends mixed Go.Proofs.Try.func51 14 [⟨1100, []⟩, ⟨1200, [(1, .call [1, 2] (I (validF S c M)) []), (2, .tt false)]⟩, ⟨1300, [(2, .call [1, 2] (B true) [])]⟩, ⟨1400, []⟩] (r := I ((0 : Int))) (hp := [(1, .ro ((4 : Nat)) (S.length) (rowG encC S)), (2, .ro ((1 : Nat)) (M.length) (rowG encI M))]) (ob := [CallOK Try.prog (13 : Nat) ([] ++ [AV.agg [AV.sl (1 : Nat) (0 : Nat) (4 : Nat) S.length none, AV.val (Value.int IntKind.i64 c), AV.sl (2 : Nat) (0 : Nat) (1 : Nat) M.length none]] ++ []) [((1 : Nat), Ob.ro (4 : Nat) S.length (rowG encC S)), ((2 : Nat), Ob.ro (1 : Nat) M.length (rowG encI M))] (AV.val (Value.int IntKind.i64 (validF S c M))) [], (decide ¬validF S c M = (0 : Int)) = false, CallOK Try.prog (57 : Nat) ([] ++ [AV.agg [AV.sl (1 : Nat) (0 : Nat) (4 : Nat) S.length none, AV.val (Value.int IntKind.i64 c), AV.sl (2 : Nat) (0 : Nat) (1 : Nat) M.length none], AV.val (Value.int IntKind.i64 k)] ++ []) [((1 : Nat), Ob.ro (4 : Nat) S.length (rowG encC S)), ((2 : Nat), Ob.ro (1 : Nat) M.length (rowG encI M))] (AV.val (Value.bool true)) []]) rfl (by kernel_rfl) ⟨(CallOK.ren (valid_any (S) (c) (M) (by omega) (by omega) (by omega)) [(1, 1), (2, 2)] [1, 2] rfl rfl rfl rfl ⟨rfl, fun _ => rfl, rfl, fun _ => rfl, trivial⟩ rfl ⟨rfl, fun _ => rfl, rfl, fun _ => rfl, trivial⟩), (decide_eq_false hc1), (CallOK.isB (CallOK.ren (hasSlot_any (S) (c) (M) (k) (by omega)) [(1, 1), (2, 2)] [1, 2] rfl rfl rfl rfl ⟨rfl, fun _ => rfl, rfl, fun _ => rfl, trivial⟩ rfl ⟨rfl, fun _ => rfl, rfl, fun _ => rfl, trivial⟩) hc2), trivial⟩ ?_ ⟨ObLe.refl _, ObLe.refl _, trivial⟩ ⟨rfl, fun _ => rfl, rfl, fun _ => rfl, trivial⟩ rfl
  case' ga1 =>
    refine Safe.ends mixed Go.Proofs.Try.func51 9 [⟨1100, []⟩, ⟨1200, [(1, .call [1, 2] (I (validF S c M)) []), (2, .tt true)]⟩, ⟨1300, []⟩] (r := I ((2 : Int))) (hp := [(1, .ro ((4 : Nat)) (S.length) (rowG encC S)), (2, .ro ((1 : Nat)) (M.length) (rowG encI M))]) (ob := [CallOK Try.prog (13 : Nat) ([] ++ [AV.agg [AV.sl (1 : Nat) (0 : Nat) (4 : Nat) S.length none, AV.val (Value.int IntKind.i64 c), AV.sl (2 : Nat) (0 : Nat) (1 : Nat) M.length none]] ++ []) [((1 : Nat), Ob.ro (4 : Nat) S.length (rowG encC S)), ((2 : Nat), Ob.ro (1 : Nat) M.length (rowG encI M))] (AV.val (Value.int IntKind.i64 (validF S c M))) [], (decide ¬validF S c M = (0 : Int)) = true]) rfl (by kernel_rfl) ⟨(CallOK.ren (valid_any (S) (c) (M) (by omega) (by omega) (by omega)) [(1, 1), (2, 2)] [1, 2] rfl rfl rfl rfl ⟨rfl, fun _ => rfl, rfl, fun _ => rfl, trivial⟩ rfl ⟨rfl, fun _ => rfl, rfl, fun _ => rfl, trivial⟩), (decide_eq_true hc1), trivial⟩ ?_ ⟨ObLe.refl _, ObLe.refl _, trivial⟩ ⟨rfl, fun _ => rfl, rfl, fun _ => rfl, trivial⟩ rfl
  · show I _ = I _
    rw [ckSlot, if_pos hc1]
  · show I _ = I _
    simp only [Bool.and_eq_true, decide_eq_true_eq] at hc2
    rw [ckSlot, if_neg hc1, if_neg (by omega)]
  · show I _ = I _
    simp only [Bool.and_eq_true, decide_eq_true_eq] at hc2
    rw [ckSlot, if_neg hc1, if_pos (by omega)]
def ckValid (S : List Sl) (c : Int) (M : List Int) (k : Int) : Int := if ckSlot S c M k ≠ 0 then ckSlot S c M k else if (S.getD k.toNat default).valid = true then 0 else 12
set_option maxRecDepth 10000 in
set_option maxHeartbeats 4000000 in
theorem checkValid_any (S : List Sl) (c : Int) (M : List Int) (k : Int) (hS : S.length ≤ 1000000) (hM : M.length ≤ 1000000) (hc : -9223372036854775808 ≤ c ∧ c ≤ 9223372036854775807) (hk : -9223372036854775808 ≤ k ∧ k ≤ 9223372036854775807) : CallOK Try.prog 46 [.agg [.sl 1 0 4 S.length none, I c, .sl 2 0 1 M.length none], I k] [(1, .ro 4 S.length (rowG encC S)), (2, .ro 1 M.length (rowG encI M))] (I (ckValid S c M k)) [] := by
  refine CallOK.intro Try.call46 Try.func46 rfl rfl ⟨rfl, fun _ => rfl, rfl, fun _ => rfl, trivial⟩ ?_
  have h1 : ckSlot S c M k = 0 → 0 ≤ k ∧ k < S.length := fun h => by
    unfold ckSlot at h
    split at h
    · omega
    · split at h <;> omega
  refine (Classical.em (¬ckSlot S c M k = (0 : Int))).elim (fun hc1 => ?ga3) (fun hc1 => ?gb3)
  case' gb3 =>
    refine (Classical.em (((S.getD k.toNat default).valid) = true)).elim (fun hc2 => ?ga4) (fun hc2 => ?gb4)
    case' gb4 =>
      refine Safe.ends mixed Go.Proofs.Try.func46 15 [⟨1100, []⟩, ⟨1200, [(2, .call [1, 2] (I (ckSlot S c M k)) [])]⟩, ⟨1300, [(1, .tt false)]⟩, ⟨1400, [(5, .tt false)]⟩, ⟨1500, []⟩] (r := I ((12 : Int))) (hp := [(1, .ro ((4 : Nat)) (S.length) (rowG encC S)), (2, .ro ((1 : Nat)) (M.length) (rowG encI M))]) (ob := [CallOK Try.prog (51 : Nat) ([] ++ [AV.agg [AV.sl (1 : Nat) (0 : Nat) (4 : Nat) S.length none, AV.val (Value.int IntKind.i64 c), AV.sl (2 : Nat) (0 : Nat) (1 : Nat) M.length none], AV.val (Value.int IntKind.i64 k)] ++ []) [((1 : Nat), Ob.ro (4 : Nat) S.length (rowG encC S)), ((2 : Nat), Ob.ro (1 : Nat) M.length (rowG encI M))] (AV.val (Value.int IntKind.i64 (ckSlot S c M k))) [], (decide ¬ckSlot S c M k = (0 : Int)) = false, (0 : Int) ≤ k ∧ k < (↑S.length : Int), k.toNat < S.length, (S.getD k.toNat default).valid = false]) rfl (by kernel_rfl) ⟨(CallOK.ren (checkSlot_any (S) (c) (M) (k) (by omega) (by omega) (by omega)) [(1, 1), (2, 2)] [1, 2] rfl rfl rfl rfl ⟨rfl, fun _ => rfl, rfl, fun _ => rfl, trivial⟩ rfl ⟨rfl, fun _ => rfl, rfl, fun _ => rfl, trivial⟩), (decide_eq_false hc1), (by omega), (by omega), (by simpa using hc2), trivial⟩ ?_ ⟨ObLe.refl _, ObLe.refl _, trivial⟩ ⟨rfl, fun _ => rfl, rfl, fun _ => rfl, trivial⟩ rfl
    case' ga4 =>
      refine Safe.ends mixed Go.Proofs.Try.func46 16 [⟨1100, []⟩, ⟨1200, [(2, .call [1, 2] (I (ckSlot S c M k)) [])]⟩, ⟨1300, [(1, .tt false)]⟩, ⟨1400, [(5, .tt true)]⟩, ⟨1500, []⟩] (r := I ((0 : Int))) (hp := [(1, .ro ((4 : Nat)) (S.length) (rowG encC S)), (2, .ro ((1 : Nat)) (M.length) (rowG encI M))]) (ob := [CallOK Try.prog (51 : Nat) ([] ++ [AV.agg [AV.sl (1 : Nat) (0 : Nat) (4 : Nat) S.length none, AV.val (Value.int IntKind.i64 c), AV.sl (2 : Nat) (0 : Nat) (1 : Nat) M.length none], AV.val (Value.int IntKind.i64 k)] ++ []) [((1 : Nat), Ob.ro (4 : Nat) S.length (rowG encC S)), ((2 : Nat), Ob.ro (1 : Nat) M.length (rowG encI M))] (AV.val (Value.int IntKind.i64 (ckSlot S c M k))) [], (decide ¬ckSlot S c M k = (0 : Int)) = false, (0 : Int) ≤ k ∧ k < (↑S.length : Int), k.toNat < S.length, (S.getD k.toNat default).valid = true]) rfl (by kernel_rfl) ⟨(CallOK.ren (checkSlot_any (S) (c) (M) (k) (by omega) (by omega) (by omega)) [(1, 1), (2, 2)] [1, 2] rfl rfl rfl rfl ⟨rfl, fun _ => rfl, rfl, fun _ => rfl, trivial⟩ rfl ⟨rfl, fun _ => rfl, rfl, fun _ => rfl, trivial⟩), (decide_eq_false hc1), (by omega), (by omega), hc2, trivial⟩ ?_ ⟨ObLe.refl _, ObLe.refl _, trivial⟩ ⟨rfl, fun _ => rfl, rfl, fun _ => rfl, trivial⟩ rfl
  case' ga3 =>
    refine Safe.ends mixed Go.Proofs.Try.func46 10 [⟨1100, []⟩, ⟨1200, [(2, .call [1, 2] (I (ckSlot S c M k)) [])]⟩, ⟨1300, [(1, .tt true)]⟩, ⟨1400, []⟩] (r := I (ckSlot S c M k)) (hp := [(1, .ro ((4 : Nat)) (S.length) (rowG encC S)), (2, .ro ((1 : Nat)) (M.length) (rowG encI M))]) (ob := [CallOK Try.prog (51 : Nat) ([] ++ [AV.agg [AV.sl (1 : Nat) (0 : Nat) (4 : Nat) S.length none, AV.val (Value.int IntKind.i64 c), AV.sl (2 : Nat) (0 : Nat) (1 : Nat) M.length none], AV.val (Value.int IntKind.i64 k)] ++ []) [((1 : Nat), Ob.ro (4 : Nat) S.length (rowG encC S)), ((2 : Nat), Ob.ro (1 : Nat) M.length (rowG encI M))] (AV.val (Value.int IntKind.i64 (ckSlot S c M k))) [], (decide ¬ckSlot S c M k = (0 : Int)) = true]) rfl (by kernel_rfl) ⟨(CallOK.ren (checkSlot_any (S) (c) (M) (k) (by omega) (by omega) (by omega)) [(1, 1), (2, 2)] [1, 2] rfl rfl rfl rfl ⟨rfl, fun _ => rfl, rfl, fun _ => rfl, trivial⟩ rfl ⟨rfl, fun _ => rfl, rfl, fun _ => rfl, trivial⟩), (decide_eq_true hc1), trivial⟩ ?_ ⟨ObLe.refl _, ObLe.refl _, trivial⟩ ⟨rfl, fun _ => rfl, rfl, fun _ => rfl, trivial⟩ rfl
  · show I _ = I _
    rw [ckValid, if_pos hc1]
  · show I _ = I _
    rw [ckValid, if_neg hc1, if_pos hc2]
  · show I _ = I _
    rw [ckValid, if_neg hc1, if_neg hc2]
/-- where a block's slot is, or the length -/
def fdx (S : List Sl) (b : Int) : Nat := S.findIdx (fun x => x.valid && decide (x.block = b))
theorem fdx_le (S : List Sl) (b : Int) : fdx S b ≤ S.length := List.findIdx_le_length
theorem fdx_lt {S : List Sl} {b : Int} {k : Nat} (h : k < fdx S b) : ¬ ((S.getD k default).valid = true ∧ (S.getD k default).block = b) := by
  have hl := Nat.lt_of_lt_of_le h (fdx_le S b)
  have := List.not_of_lt_findIdx h
  rw [List.getD_eq_getElem?_getD, List.getElem?_eq_getElem hl]
  simpa using this
theorem fdx_at {S : List Sl} {b : Int} (h : fdx S b < S.length) : (S.getD (fdx S b) default).valid = true ∧ (S.getD (fdx S b) default).block = b := by
  have := List.findIdx_getElem (p := fun x : Sl => x.valid && decide (x.block = b)) (w := h)
  rw [List.getD_eq_getElem?_getD, List.getElem?_eq_getElem h]
  simp only [Bool.and_eq_true] at this
  exact ⟨this.1, of_decide_eq_true this.2⟩
def findI (S : List Sl) (b : Int) : Int := if fdx S b < S.length then (fdx S b : Int) else -1
set_option maxRecDepth 10000 in
set_option maxHeartbeats 4000000 in
theorem findC_any (x : Sl) (b : Int) : CallOK Try.prog 54 [.agg [B x.valid, B x.dirty, I x.block, I x.stamp], .ptr 3 0 0 0] [(3, .blk 3 [I b])] (B (x.valid && decide (x.block = b))) [] := by
  refine CallOK.intro Try.call54 Try.func54 rfl rfl ⟨rfl, rfl, trivial⟩ ?_
  refine (Classical.em ((x.valid) = true)).elim (fun hc1 => ?ga5) (fun hc1 => ?gb5)
  case' gb5 =>
    refine Safe.ends mixed Go.Proofs.Try.func54 4 [⟨1100, []⟩, ⟨1200, [(1, .tt false)]⟩] (r := B (false)) (hp := [(3, .blk ((3 : Nat)) [I (b)])]) (ob := [x.valid = false]) rfl (by kernel_rfl) ⟨(by simpa using hc1), trivial⟩ ?_ ⟨ObLe.refl _, trivial⟩ ⟨rfl, rfl, trivial⟩ rfl
  case' ga5 =>
    refine Safe.ends mixed Go.Proofs.Try.func54 4 [⟨1100, []⟩, ⟨1200, [(1, .tt true)]⟩] (r := B (decide (x.block = b))) (hp := [(3, .blk ((3 : Nat)) [I (b)])]) (ob := [x.valid = true]) rfl (by kernel_rfl) ⟨hc1, trivial⟩ ?_ ⟨ObLe.refl _, trivial⟩ ⟨rfl, rfl, trivial⟩ rfl
  · show B _ = B _
    rw [hc1, Bool.true_and]
  · show B _ = B _
    rw [Bool.eq_false_iff.2 hc1, Bool.false_and]
set_option maxRecDepth 10000 in
set_option maxHeartbeats 4000000 in
theorem indexFunc_any (S : List Sl) (b : Int) (hS : S.length ≤ 1000000) : CallOK Try.prog 53 [.sl 0 0 4 S.length none, .fn (.func 54) [] [.ptr 3 0 0 0]] [(0, .ro 4 S.length (rowG encC S)), (3, .blk 3 [I b])] (I (findI S b)) [] := by
  refine CallOK.intro Try.call53 Try.func53 rfl rfl ⟨rfl, fun _ => rfl, rfl, rfl, trivial⟩ ?_
  refine Safe.withLoop (loopAt Try.f53 0) [0, 3] 19 (fun g : Nat => [(0, .sl 0 0 4 S.length none), (1, .fn (.func 54) [] [.ptr 3 0 0 0]), (7, I S.length), (8, I g)]) (fun _ => [(0, .ro 4 S.length (rowG encC S)), (3, .blk 3 [I b])]) (fun g => g ≤ fdx S b) (fun g => S.length - g) ?_ ?_
  · intro k hk ih
    have h1 := fdx_le S b
    have h2 := @fdx_at S b
    have h3 := @fdx_lt S b k
    refine (Classical.em ((↑k : Int) < (↑S.length : Int))).elim (fun hc1 => ?ga6) (fun hc1 => ?gb6)
    case' gb6 =>
      refine Safe.ends mixed Go.Proofs.Try.func53 7 [⟨1100, [(0, .tt false)]⟩, ⟨1200, []⟩] (r := I ((-1 : Int))) (hp := [(0, .ro ((4 : Nat)) (S.length) (rowG encC S)), (3, .blk ((3 : Nat)) [I (b)])]) (ob := [decide ((↑k : Int) < (↑S.length : Int)) = false]) rfl (by kernel_rfl) ⟨(decide_eq_false hc1), trivial⟩ ?_ ⟨ObLe.refl _, ObLe.refl _, trivial⟩ ⟨rfl, fun _ => rfl, rfl, rfl, trivial⟩ rfl
    case' ga6 =>
      refine (Classical.em (((S.getD k default).valid && decide ((S.getD k default).block = b)) = true)).elim (fun hc2 => ?ga7) (fun hc2 => ?gb7)
      case' gb7 =>
        refine Safe.goto mixed 16 [⟨1100, [(0, .tt true)]⟩, ⟨1200, []⟩, ⟨1300, [(5, .call [3] (B false) [])]⟩, ⟨1400, []⟩] [0, 1, 7, 8] [0, 3] (todo' := loopAt Go.Proofs.Try.f53 0) (sl := slotsOf 19 [(0, .sl ((0 : Nat)) ((0 : Nat)) ((4 : Nat)) (S.length) (none)), (1, .fn (Fn.func (54 : FuncId)) [] [.ptr ((3 : Nat)) ((0 : Nat)) ((0 : Nat)) ((0 : Nat))]), (7, I ((↑S.length : Int))), (8, I ((↑k : Int) + (1 : Int)))]) (hp := [(0, .ro ((4 : Nat)) (S.length) (rowG encC S)), (3, .blk ((3 : Nat)) [I (b)])]) (ob := [decide ((↑k : Int) < (↑S.length : Int)) = true, (0 : Int) ≤ (↑k : Int) ∧ (↑k : Int) < (↑S.length : Int), k < S.length, CallOK Try.prog (54 : FuncId) ([] ++ [AV.agg [AV.val (Value.bool (S.getD k default).valid), AV.val (Value.bool (S.getD k default).dirty), AV.val (Value.int IntKind.i64 (S.getD k default).block), AV.val (Value.int IntKind.i64 (S.getD k default).stamp)]] ++ [AV.ptr (3 : Nat) (0 : Nat) (0 : Nat) (0 : Nat)]) [((3 : Nat), Ob.blk (3 : Nat) [AV.val (Value.int IntKind.i64 b)])] (AV.val (Value.bool false)) [], inK IntKind.i64 ((↑k : Int) + (1 : Int))]) rfl rfl (by kernel_rfl) ⟨(decide_eq_true hc1), (by omega), (by omega), (CallOK.isB (CallOK.ren (findC_any (S.getD k default) (b)) [(3, 3)] [3] rfl rfl rfl rfl ⟨rfl, rfl, trivial⟩ rfl ⟨rfl, rfl, trivial⟩) (eq_false_of_ne_true hc2)), (by simp only [inK]; omega), trivial⟩ rfl ⟨rfl, fun _ => rfl, rfl, rfl, trivial⟩ ?_
      case' ga7 =>
        refine Safe.ends mixed Go.Proofs.Try.func53 14 [⟨1100, [(0, .tt true)]⟩, ⟨1200, []⟩, ⟨1300, [(5, .call [3] (B true) [])]⟩, ⟨1400, []⟩] (r := I ((↑k : Int))) (hp := [(0, .ro ((4 : Nat)) (S.length) (rowG encC S)), (3, .blk ((3 : Nat)) [I (b)])]) (ob := [decide ((↑k : Int) < (↑S.length : Int)) = true, (0 : Int) ≤ (↑k : Int) ∧ (↑k : Int) < (↑S.length : Int), k < S.length, CallOK Try.prog (54 : FuncId) ([] ++ [AV.agg [AV.val (Value.bool (S.getD k default).valid), AV.val (Value.bool (S.getD k default).dirty), AV.val (Value.int IntKind.i64 (S.getD k default).block), AV.val (Value.int IntKind.i64 (S.getD k default).stamp)]] ++ [AV.ptr (3 : Nat) (0 : Nat) (0 : Nat) (0 : Nat)]) [((3 : Nat), Ob.blk (3 : Nat) [AV.val (Value.int IntKind.i64 b)])] (AV.val (Value.bool true)) []]) rfl (by kernel_rfl) ⟨(decide_eq_true hc1), (by omega), (by omega), (CallOK.isB (CallOK.ren (findC_any (S.getD k default) (b)) [(3, 3)] [3] rfl rfl rfl rfl ⟨rfl, rfl, trivial⟩ rfl ⟨rfl, rfl, trivial⟩) hc2), trivial⟩ ?_ ⟨ObLe.refl _, ObLe.refl _, trivial⟩ ⟨rfl, fun _ => rfl, rfl, rfl, trivial⟩ rfl
    · simp only [Bool.and_eq_true, decide_eq_true_eq] at hc2
      have : k = fdx S b := by
        rcases Nat.lt_or_eq_of_le hk with h | h
        · exact absurd hc2 (h3 h)
        · exact h
      show I _ = I _
      rw [findI, ← this, if_pos (by omega)]
    · have : k ≠ fdx S b := fun e => hc2 (by
        have := h2 (by omega)
        rw [← e] at this
        rw [this.1, this.2]; simp)
      exact ih (k + 1) (by omega) (by omega)
    · show I _ = I _
      rw [findI, if_neg (by omega)]
  · intro H
    refine Safe.goto mixed 7 [⟨1100, []⟩, ⟨1200, []⟩] [0, 1, 7, 8] [0, 3] (todo' := loopAt Go.Proofs.Try.f53 0) (sl := slotsOf 19 [(0, .sl ((0 : Nat)) ((0 : Nat)) ((4 : Nat)) (S.length) (none)), (1, .fn (Fn.func (54 : FuncId)) [] [.ptr ((3 : Nat)) ((0 : Nat)) ((0 : Nat)) ((0 : Nat))]), (7, I ((↑S.length : Int))), (8, I ((0 : Int)))]) (hp := [(0, .ro ((4 : Nat)) (S.length) (rowG encC S)), (3, .blk ((3 : Nat)) [I (b)])]) (ob := []) rfl rfl (by kernel_rfl) trivial rfl ⟨rfl, fun _ => rfl, rfl, rfl, trivial⟩ ?_
    exact H 0 (Nat.zero_le _)
set_option maxRecDepth 10000 in
set_option maxHeartbeats 4000000 in
theorem find_any (S : List Sl) (c : Int) (M : List Int) (b : Int) (hS : S.length ≤ 1000000) : CallOK Try.prog 40 [.agg [.sl 1 0 4 S.length none, I c, .sl 2 0 1 M.length none], I b] [(1, .ro 4 S.length (rowG encC S)), (2, .ro 1 M.length (rowG encI M))] (I (findI S b)) [] := by
  refine CallOK.intro Try.call40 Try.func40 rfl rfl ⟨rfl, fun _ => rfl, rfl, fun _ => rfl, trivial⟩ ?_
  refine Safe.ends mixed Go.Proofs.Try.func40 4 [⟨1100, []⟩, ⟨1200, [(3, .call [1, 1101] (I (findI S b)) [])]⟩] (r := I (findI S b)) (hp := [(1, .ro ((4 : Nat)) (S.length) (rowG encC S)), (2, .ro ((1 : Nat)) (M.length) (rowG encI M))]) (ob := [CallOK Try.prog (53 : Nat) ([] ++ [AV.sl (1 : Nat) (0 : Nat) (4 : Nat) S.length none, AV.fn (Fn.func (54 : Nat)) [] [AV.ptr (1101 : Nat) (0 : Nat) (0 : Nat) (0 : Nat)]] ++ []) [((1 : Nat), Ob.ro (4 : Nat) S.length (rowG encC S)), ((1101 : Nat), Ob.blk (3 : Nat) [AV.val (Value.int IntKind.i64 b)])] (AV.val (Value.int IntKind.i64 (findI S b))) []]) rfl (by kernel_rfl) ⟨(CallOK.ren (indexFunc_any (S) (b) (by omega)) [(0, 1), (3, 1101)] [0, 3] rfl rfl rfl rfl ⟨rfl, fun _ => rfl, rfl, rfl, trivial⟩ rfl ⟨rfl, fun _ => rfl, rfl, rfl, trivial⟩), trivial⟩ rfl ⟨ObLe.refl _, ObLe.refl _, trivial⟩ ⟨rfl, fun _ => rfl, rfl, fun _ => rfl, trivial⟩ rfl
def FindF (S : List Sl) (c : Int) (M : List Int) (b : Int) : Int := if validF S c M = 0 then findI S b else -1
set_option maxRecDepth 10000 in
set_option maxHeartbeats 4000000 in
theorem Find_any (S : List Sl) (c : Int) (M : List Int) (b : Int) (hS : S.length ≤ 1000000) (hM : M.length ≤ 1000000) (hc : -9223372036854775808 ≤ c ∧ c ≤ 9223372036854775807) : CallOK Try.prog 18 [.agg [.sl 1 0 4 S.length none, I c, .sl 2 0 1 M.length none], I b] [(1, .ro 4 S.length (rowG encC S)), (2, .ro 1 M.length (rowG encI M))] (I (FindF S c M b)) [] := by
  refine CallOK.intro Try.call18 Try.func18 rfl rfl ⟨rfl, fun _ => rfl, rfl, fun _ => rfl, trivial⟩ ?_
  refine (Classical.em (¬validF S c M = (0 : Int))).elim (fun hc1 => ?ga8) (fun hc1 => ?gb8)
  case' gb8 =>
    refine Safe.ends mixed Go.Proofs.Try.func18 9 [⟨1100, []⟩, ⟨1200, [(1, .call [1, 2] (I (validF S c M)) []), (2, .tt false)]⟩, ⟨1300, [(2, .call [1, 2] (I (findI S b)) [])]⟩] (r := I (findI S b)) (hp := [(1, .ro ((4 : Nat)) (S.length) (rowG encC S)), (2, .ro ((1 : Nat)) (M.length) (rowG encI M))]) (ob := [CallOK Try.prog (13 : Nat) ([] ++ [AV.agg [AV.sl (1 : Nat) (0 : Nat) (4 : Nat) S.length none, AV.val (Value.int IntKind.i64 c), AV.sl (2 : Nat) (0 : Nat) (1 : Nat) M.length none]] ++ []) [((1 : Nat), Ob.ro (4 : Nat) S.length (rowG encC S)), ((2 : Nat), Ob.ro (1 : Nat) M.length (rowG encI M))] (AV.val (Value.int IntKind.i64 (validF S c M))) [], (decide ¬validF S c M = (0 : Int)) = false, CallOK Try.prog (40 : Nat) ([] ++ [AV.agg [AV.sl (1 : Nat) (0 : Nat) (4 : Nat) S.length none, AV.val (Value.int IntKind.i64 c), AV.sl (2 : Nat) (0 : Nat) (1 : Nat) M.length none], AV.val (Value.int IntKind.i64 b)] ++ []) [((1 : Nat), Ob.ro (4 : Nat) S.length (rowG encC S)), ((2 : Nat), Ob.ro (1 : Nat) M.length (rowG encI M))] (AV.val (Value.int IntKind.i64 (findI S b))) []]) rfl (by kernel_rfl) ⟨(CallOK.ren (valid_any (S) (c) (M) (by omega) (by omega) (by omega)) [(1, 1), (2, 2)] [1, 2] rfl rfl rfl rfl ⟨rfl, fun _ => rfl, rfl, fun _ => rfl, trivial⟩ rfl ⟨rfl, fun _ => rfl, rfl, fun _ => rfl, trivial⟩), (decide_eq_false hc1), (CallOK.ren (find_any (S) (c) (M) (b) (by omega)) [(1, 1), (2, 2)] [1, 2] rfl rfl rfl rfl ⟨rfl, fun _ => rfl, rfl, fun _ => rfl, trivial⟩ rfl ⟨rfl, fun _ => rfl, rfl, fun _ => rfl, trivial⟩), trivial⟩ ?_ ⟨ObLe.refl _, ObLe.refl _, trivial⟩ ⟨rfl, fun _ => rfl, rfl, fun _ => rfl, trivial⟩ rfl
  case' ga8 =>
    refine Safe.ends mixed Go.Proofs.Try.func18 8 [⟨1100, []⟩, ⟨1200, [(1, .call [1, 2] (I (validF S c M)) []), (2, .tt true)]⟩, ⟨1300, []⟩] (r := I ((-1 : Int))) (hp := [(1, .ro ((4 : Nat)) (S.length) (rowG encC S)), (2, .ro ((1 : Nat)) (M.length) (rowG encI M))]) (ob := [CallOK Try.prog (13 : Nat) ([] ++ [AV.agg [AV.sl (1 : Nat) (0 : Nat) (4 : Nat) S.length none, AV.val (Value.int IntKind.i64 c), AV.sl (2 : Nat) (0 : Nat) (1 : Nat) M.length none]] ++ []) [((1 : Nat), Ob.ro (4 : Nat) S.length (rowG encC S)), ((2 : Nat), Ob.ro (1 : Nat) M.length (rowG encI M))] (AV.val (Value.int IntKind.i64 (validF S c M))) [], (decide ¬validF S c M = (0 : Int)) = true]) rfl (by kernel_rfl) ⟨(CallOK.ren (valid_any (S) (c) (M) (by omega) (by omega) (by omega)) [(1, 1), (2, 2)] [1, 2] rfl rfl rfl rfl ⟨rfl, fun _ => rfl, rfl, fun _ => rfl, trivial⟩ rfl ⟨rfl, fun _ => rfl, rfl, fun _ => rfl, trivial⟩), (decide_eq_true hc1), trivial⟩ ?_ ⟨ObLe.refl _, ObLe.refl _, trivial⟩ ⟨rfl, fun _ => rfl, rfl, fun _ => rfl, trivial⟩ rfl
  · show I _ = I _
    rw [FindF, if_neg hc1]
  · show I _ = I _
    rw [FindF, if_pos (Classical.not_not.1 hc1)]
set_option maxRecDepth 10000 in
set_option maxHeartbeats 4000000 in
theorem rFind_any (S : List Sl) (c : Int) (M : List Int) (b : Int) (hS : S.length ≤ 1000000) (hM : M.length ≤ 1000000) (hc : -9223372036854775808 ≤ c ∧ c ≤ 9223372036854775807) : CallOK Try.prog 19 [.agg [.sl 1 0 4 S.length none, I c, .sl 2 0 1 M.length none], I b] [(1, .ro 4 S.length (rowG encC S)), (2, .ro 1 M.length (rowG encI M))] (I (FindF S c M b)) [] := by
  refine CallOK.intro Try.call19 Try.func19 rfl rfl ⟨rfl, fun _ => rfl, rfl, fun _ => rfl, trivial⟩ ?_
  refine Safe.withLoop (loopAt Try.f19 0) [1, 2, 20] 35 (fun g : Nat => [(1, I b), (2, .ptr 20 0 0 0), (5, I g)]) (fun _ => [(1, .ro 4 S.length (rowG encC S)), (2, .ro 1 M.length (rowG encI M)), (20, .blk 25 [.sl 1 0 4 S.length none, I c, .sl 2 0 1 M.length none])]) (fun g => g ≤ fdx S b) (fun g => S.length - g) ?_ ?_
  · intro k hk ih
    have h1 := fdx_le S b
    have h2 := @fdx_at S b
    have h3 := @fdx_lt S b k
    refine (Classical.em ((↑k : Int) < (↑S.length : Int))).elim (fun hc1 => ?ga9) (fun hc1 => ?gb9)
    case' gb9 =>
      refine Safe.ends mixed Go.Proofs.Try.func19 7 [⟨1100, [(4, .tt false)]⟩, ⟨1200, []⟩] (r := I ((-1 : Int))) (hp := [(1, .ro ((4 : Nat)) (S.length) (rowG encC S)), (2, .ro ((1 : Nat)) (M.length) (rowG encI M))]) (ob := [decide ((↑k : Int) < (↑S.length : Int)) = false]) rfl (by kernel_rfl) ⟨(decide_eq_false hc1), trivial⟩ ?_ ⟨ObLe.refl _, ObLe.refl _, trivial⟩ ⟨rfl, fun _ => rfl, rfl, fun _ => rfl, trivial⟩ rfl
    case' ga9 =>
      refine (Classical.em (validF S c M = (0 : Int))).elim (fun hc2 => ?ga10) (fun hc2 => ?gb10)
      case' gb10 =>
        refine Safe.ends mixed Go.Proofs.Try.func19 7 [⟨1100, [(4, .tt true), (7, .call [1, 2] (I (validF S c M)) []), (8, .tt false)]⟩, ⟨1200, []⟩] (r := I ((-1 : Int))) (hp := [(1, .ro ((4 : Nat)) (S.length) (rowG encC S)), (2, .ro ((1 : Nat)) (M.length) (rowG encI M))]) (ob := [decide ((↑k : Int) < (↑S.length : Int)) = true, CallOK Try.prog (14 : Nat) ([] ++ [AV.agg [AV.sl (1 : Nat) (0 : Nat) (4 : Nat) S.length none, AV.val (Value.int IntKind.i64 c), AV.sl (2 : Nat) (0 : Nat) (1 : Nat) M.length none]] ++ []) [((1 : Nat), Ob.ro (4 : Nat) S.length (rowG encC S)), ((2 : Nat), Ob.ro (1 : Nat) M.length (rowG encI M))] (AV.val (Value.int IntKind.i64 (validF S c M))) [], decide (validF S c M = (0 : Int)) = false]) rfl (by kernel_rfl) ⟨(decide_eq_true hc1), (CallOK.ren (rvalid_any (S) (c) (M) (by omega) (by omega) (by omega)) [(1, 1), (2, 2)] [1, 2] rfl rfl rfl rfl ⟨rfl, fun _ => rfl, rfl, fun _ => rfl, trivial⟩ rfl ⟨rfl, fun _ => rfl, rfl, fun _ => rfl, trivial⟩), (decide_eq_false hc2), trivial⟩ ?_ ⟨ObLe.refl _, ObLe.refl _, trivial⟩ ⟨rfl, fun _ => rfl, rfl, fun _ => rfl, trivial⟩ rfl
      case' ga10 =>
        refine (Classical.em (((S.getD k default).valid) = true)).elim (fun hc3 => ?ga11) (fun hc3 => ?gb11)
        case' gb11 =>
          refine Safe.goto mixed 14 [⟨1100, [(4, .tt true), (7, .call [1, 2] (I (validF S c M)) []), (8, .tt true)]⟩, ⟨1200, [(5, .tt false)]⟩, ⟨1300, []⟩] [1, 2, 5] [1, 2, 20] (todo' := loopAt Go.Proofs.Try.f19 0) (sl := slotsOf 35 [(1, I (b)), (2, .ptr ((20 : Nat)) ((0 : Nat)) ((0 : Nat)) ((0 : Nat))), (5, I ((↑k : Int) + (1 : Int)))]) (hp := [(1, .ro ((4 : Nat)) (S.length) (rowG encC S)), (2, .ro ((1 : Nat)) (M.length) (rowG encI M)), (20, .blk ((25 : Nat)) [.sl ((1 : Nat)) ((0 : Nat)) ((4 : Nat)) (S.length) (none), I (c), .sl ((2 : Nat)) ((0 : Nat)) ((1 : Nat)) (M.length) (none)])]) (ob := [decide ((↑k : Int) < (↑S.length : Int)) = true, CallOK Try.prog (14 : Nat) ([] ++ [AV.agg [AV.sl (1 : Nat) (0 : Nat) (4 : Nat) S.length none, AV.val (Value.int IntKind.i64 c), AV.sl (2 : Nat) (0 : Nat) (1 : Nat) M.length none]] ++ []) [((1 : Nat), Ob.ro (4 : Nat) S.length (rowG encC S)), ((2 : Nat), Ob.ro (1 : Nat) M.length (rowG encI M))] (AV.val (Value.int IntKind.i64 (validF S c M))) [], decide (validF S c M = (0 : Int)) = true, (0 : Int) ≤ (↑k : Int) ∧ (↑k : Int) < (↑S.length : Int), k < S.length, (S.getD k default).valid = false, inK IntKind.i64 ((↑k : Int) + (1 : Int))]) rfl rfl (by kernel_rfl) ⟨(decide_eq_true hc1), (CallOK.ren (rvalid_any (S) (c) (M) (by omega) (by omega) (by omega)) [(1, 1), (2, 2)] [1, 2] rfl rfl rfl rfl ⟨rfl, fun _ => rfl, rfl, fun _ => rfl, trivial⟩ rfl ⟨rfl, fun _ => rfl, rfl, fun _ => rfl, trivial⟩), (decide_eq_true hc2), (by omega), (by omega), (by simpa using hc3), (by simp only [inK]; omega), trivial⟩ rfl ⟨rfl, fun _ => rfl, rfl, fun _ => rfl, rfl, rfl, trivial⟩ ?_
        case' ga11 =>
          refine (Classical.em ((S.getD k default).block = b)).elim (fun hc4 => ?ga12) (fun hc4 => ?gb12)
          case' gb12 =>
            refine Safe.goto mixed 14 [⟨1100, [(4, .tt true), (7, .call [1, 2] (I (validF S c M)) []), (8, .tt true)]⟩, ⟨1200, [(5, .tt true), (14, .tt false)]⟩, ⟨1300, []⟩] [1, 2, 5] [1, 2, 20] (todo' := loopAt Go.Proofs.Try.f19 0) (sl := slotsOf 35 [(1, I (b)), (2, .ptr ((20 : Nat)) ((0 : Nat)) ((0 : Nat)) ((0 : Nat))), (5, I ((↑k : Int) + (1 : Int)))]) (hp := [(1, .ro ((4 : Nat)) (S.length) (rowG encC S)), (2, .ro ((1 : Nat)) (M.length) (rowG encI M)), (20, .blk ((25 : Nat)) [.sl ((1 : Nat)) ((0 : Nat)) ((4 : Nat)) (S.length) (none), I (c), .sl ((2 : Nat)) ((0 : Nat)) ((1 : Nat)) (M.length) (none)])]) (ob := [decide ((↑k : Int) < (↑S.length : Int)) = true, CallOK Try.prog (14 : Nat) ([] ++ [AV.agg [AV.sl (1 : Nat) (0 : Nat) (4 : Nat) S.length none, AV.val (Value.int IntKind.i64 c), AV.sl (2 : Nat) (0 : Nat) (1 : Nat) M.length none]] ++ []) [((1 : Nat), Ob.ro (4 : Nat) S.length (rowG encC S)), ((2 : Nat), Ob.ro (1 : Nat) M.length (rowG encI M))] (AV.val (Value.int IntKind.i64 (validF S c M))) [], decide (validF S c M = (0 : Int)) = true, (0 : Int) ≤ (↑k : Int) ∧ (↑k : Int) < (↑S.length : Int), k < S.length, (S.getD k default).valid = true, (0 : Int) ≤ (↑k : Int) ∧ (↑k : Int) < (↑S.length : Int), k < S.length, decide ((S.getD k default).block = b) = false, inK IntKind.i64 ((↑k : Int) + (1 : Int))]) rfl rfl (by kernel_rfl) ⟨(decide_eq_true hc1), (CallOK.ren (rvalid_any (S) (c) (M) (by omega) (by omega) (by omega)) [(1, 1), (2, 2)] [1, 2] rfl rfl rfl rfl ⟨rfl, fun _ => rfl, rfl, fun _ => rfl, trivial⟩ rfl ⟨rfl, fun _ => rfl, rfl, fun _ => rfl, trivial⟩), (decide_eq_true hc2), (by omega), (by omega), hc3, (by omega), (by omega), (decide_eq_false hc4), (by simp only [inK]; omega), trivial⟩ rfl ⟨rfl, fun _ => rfl, rfl, fun _ => rfl, rfl, rfl, trivial⟩ ?_
          case' ga12 =>
            refine Safe.ends mixed Go.Proofs.Try.func19 12 [⟨1100, [(4, .tt true), (7, .call [1, 2] (I (validF S c M)) []), (8, .tt true)]⟩, ⟨1200, [(5, .tt true), (14, .tt true)]⟩, ⟨1300, []⟩] (r := I ((↑k : Int))) (hp := [(1, .ro ((4 : Nat)) (S.length) (rowG encC S)), (2, .ro ((1 : Nat)) (M.length) (rowG encI M))]) (ob := [decide ((↑k : Int) < (↑S.length : Int)) = true, CallOK Try.prog (14 : Nat) ([] ++ [AV.agg [AV.sl (1 : Nat) (0 : Nat) (4 : Nat) S.length none, AV.val (Value.int IntKind.i64 c), AV.sl (2 : Nat) (0 : Nat) (1 : Nat) M.length none]] ++ []) [((1 : Nat), Ob.ro (4 : Nat) S.length (rowG encC S)), ((2 : Nat), Ob.ro (1 : Nat) M.length (rowG encI M))] (AV.val (Value.int IntKind.i64 (validF S c M))) [], decide (validF S c M = (0 : Int)) = true, (0 : Int) ≤ (↑k : Int) ∧ (↑k : Int) < (↑S.length : Int), k < S.length, (S.getD k default).valid = true, (0 : Int) ≤ (↑k : Int) ∧ (↑k : Int) < (↑S.length : Int), k < S.length, decide ((S.getD k default).block = b) = true]) rfl (by kernel_rfl) ⟨(decide_eq_true hc1), (CallOK.ren (rvalid_any (S) (c) (M) (by omega) (by omega) (by omega)) [(1, 1), (2, 2)] [1, 2] rfl rfl rfl rfl ⟨rfl, fun _ => rfl, rfl, fun _ => rfl, trivial⟩ rfl ⟨rfl, fun _ => rfl, rfl, fun _ => rfl, trivial⟩), (decide_eq_true hc2), (by omega), (by omega), hc3, (by omega), (by omega), (decide_eq_true hc4), trivial⟩ ?_ ⟨ObLe.refl _, ObLe.refl _, trivial⟩ ⟨rfl, fun _ => rfl, rfl, fun _ => rfl, trivial⟩ rfl
    case ga12 =>
      have : k = fdx S b := by
        rcases Nat.lt_or_eq_of_le hk with h | h
        · exact absurd ⟨hc3, hc4⟩ (h3 h)
        · exact h
      show I _ = I _
      rw [FindF, if_pos hc2, findI, ← this, if_pos (by omega)]
    case gb12 =>
      have : k ≠ fdx S b := fun e => hc4 (by have := h2 (by omega); rw [← e] at this; exact this.2)
      exact ih (k + 1) (by omega) (by omega)
    case gb11 =>
      have : k ≠ fdx S b := fun e => hc3 (by have := h2 (by omega); rw [← e] at this; exact this.1)
      exact ih (k + 1) (by omega) (by omega)
    case gb10 =>
      show I _ = I _
      rw [FindF, if_neg hc2]
    case gb9 =>
      show I _ = I _
      unfold FindF findI
      split
      · rw [if_neg (by omega)]
      · rfl
  · intro H
    refine Safe.goto mixed 7 [⟨1100, []⟩, ⟨1200, []⟩] [1, 2, 5] [1, 2, 1100] (todo' := loopAt Go.Proofs.Try.f19 0) (sl := slotsOf 35 [(1, I (b)), (2, .ptr ((1100 : Nat)) ((0 : Nat)) ((0 : Nat)) ((0 : Nat))), (5, I ((0 : Int)))]) (hp := [(1, .ro ((4 : Nat)) (S.length) (rowG encC S)), (2, .ro ((1 : Nat)) (M.length) (rowG encI M)), (1100, .blk ((25 : Nat)) [.sl ((1 : Nat)) ((0 : Nat)) ((4 : Nat)) (S.length) (none), I (c), .sl ((2 : Nat)) ((0 : Nat)) ((1 : Nat)) (M.length) (none)])]) (ob := []) rfl rfl (by kernel_rfl) trivial rfl ⟨rfl, fun _ => rfl, rfl, fun _ => rfl, rfl, rfl, trivial⟩ ?_
    refine Safe.ren [(1100, 20)] rfl rfl rfl rfl ⟨rfl, fun _ => rfl, rfl, fun _ => rfl, rfl, rfl, trivial⟩ ?_
    exact H 0 (Nat.zero_le _)
end Go.Proofs.Ytebejfmodiionaa
