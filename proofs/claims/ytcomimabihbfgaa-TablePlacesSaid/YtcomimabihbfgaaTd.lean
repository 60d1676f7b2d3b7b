/- find: the closure, the search. -/
import Derived.Test.YtcomimabihbfgaaSyU
import Derived.KernelRfl
import Derived.Test.YtcomimabihbfgaaTc
namespace Go.Proofs.Ytcomimabihbfgaa
open Go.RowKit
set_option linter.unusedVariables false
/-- the end of a target -/
def te (L : List Tg) (k : Nat) : Int := (getT L k).start + (getT L k).length
set_option maxRecDepth 10000 in
set_option maxHeartbeats 4000000 in
theorem cl_any (L : List Tg) (n : Nat) (i at' : Int) (h0 : 0 ≤ i) (h1 : i < n) (h2 : -9223372036854775808 ≤ te L i.toNat ∧ te L i.toNat ≤ 9223372036854775807) : CallOK Try.prog 45 [I i, .ptr 1 0 0 0, .ptr 0 0 0 0] [(0, .blk 22 [.sl 2 0 5 n none]), (1, .blk 3 [I at']), (2, .ro 5 n (rowT L))] (B (decide (at' < te L i.toNat))) [] := by
  refine CallOK.intro Try.call45 Try.func45 rfl rfl ⟨rfl, rfl, rfl, rfl, rfl, fun _ => rfl, trivial⟩ ?_
  unfold te at h2
  refine Safe.ends mixed Go.Proofs.Try.func45 4 [⟨1100, []⟩, ⟨1200, []⟩] (r := B (decide (at' < (getT L i.toNat).start + (getT L i.toNat).length))) (hp := [(0, .blk ((22 : Nat)) [.sl ((2 : Nat)) ((0 : Nat)) ((5 : Nat)) (n) (none)]), (1, .blk ((3 : Nat)) [I (at')]), (2, .ro ((5 : Nat)) (n) (rowT L))]) (ob := [(0 : Int) ≤ i ∧ i < (↑n : Int), i.toNat < n, (0 : Int) ≤ i ∧ i < (↑n : Int), i.toNat < n, inK IntKind.i64 ((getT L i.toNat).start + (getT L i.toNat).length)]) rfl (by kernel_rfl) ⟨(by omega), (by omega), (by omega), (by omega), (by simp only [inK]; omega), trivial⟩ ?_ ⟨ObLe.refl _, ObLe.refl _, ObLe.refl _, trivial⟩ ⟨rfl, rfl, rfl, rfl, rfl, fun _ => rfl, trivial⟩ rfl
  · rfl
set_option maxRecDepth 10000 in
set_option maxHeartbeats 4000000 in
theorem search_any (L : List Tg) (n : Nat) (at' : Int) (r : Nat) (hr : r ≤ n) (hn : n ≤ 1000000) (hm : ∀ k, k < n → (at' < te L k ↔ r ≤ k)) (hb : ∀ k, k < n → -9223372036854775808 ≤ te L k ∧ te L k ≤ 9223372036854775807) :
    CallOK Try.prog 44 [I n, .fn (.func 45) [] [.ptr 1 0 0 0, .ptr 0 0 0 0]] [(0, .blk 22 [.sl 2 0 5 n none]), (1, .blk 3 [I at']), (2, .ro 5 n (rowT L))] (I r) [] := by
  refine CallOK.intro Try.call44 Try.func44 rfl rfl ⟨rfl, rfl, rfl, rfl, rfl, fun _ => rfl, trivial⟩ ?_
  refine Safe.withLoop (loopAt Try.f44 0) [0, 1, 2] 26 (fun g : Nat × Nat => [(1, .fn (.func 45) [] [.ptr 1 0 0 0, .ptr 0 0 0 0]), (5, I g.1), (6, I g.2)]) (fun _ => [(0, .blk 22 [.sl 2 0 5 n none]), (1, .blk 3 [I at']), (2, .ro 5 n (rowT L))]) (fun g => g.1 ≤ r ∧ r ≤ g.2 ∧ g.2 ≤ n) (fun g => g.2 - g.1) ?_ ?_
  · rintro ⟨i, j⟩ ⟨h1, h2, h3⟩ ih
    dsimp only at h1 h2 h3 ih ⊢
    have hd : i < j → (((i : Int) + j) / 2).toNat < n := fun h => by omega
    have hb' := fun h : i < j => hb _ (hd h)
    have hm' := fun h : i < j => hm _ (hd h)
    refine (Classical.em ((↑i : Int) < (↑j : Int))).elim (fun hc1 => ?ga0) (fun hc1 => ?gb0)
    case' gb0 =>
      refine Safe.ends mixed Go.Proofs.Try.func44 7 [⟨1100, [(2, .tt false)]⟩, ⟨1200, []⟩] (r := I ((↑i : Int))) (hp := [(0, .blk ((22 : Nat)) [.sl ((2 : Nat)) ((0 : Nat)) ((5 : Nat)) (n) (none)]), (1, .blk ((3 : Nat)) [I (at')]), (2, .ro ((5 : Nat)) (n) (rowT L))]) (ob := [decide ((↑i : Int) < (↑j : Int)) = false]) rfl (by kernel_rfl) ⟨(decide_eq_false hc1), trivial⟩ ?_ ⟨ObLe.refl _, ObLe.refl _, ObLe.refl _, trivial⟩ ⟨rfl, rfl, rfl, rfl, rfl, fun _ => rfl, trivial⟩ rfl
    case' ga0 =>
      refine (Classical.em ((!decide (at' < te L (((↑i : Int) + (↑j : Int)) / (2 : Int)).toNat)) = true)).elim (fun hc2 => ?ga1) (fun hc2 => ?gb1)
      case' gb1 =>
        refine Safe.goto mixed 14 [⟨1100, [(2, .tt true)]⟩, ⟨1200, []⟩, ⟨1300, [(2, .call [0, 1, 2] (B (decide (at' < te L (((↑i : Int) + (↑j : Int)) / (2 : Int)).toNat))) []), (3, .tt false)]⟩, ⟨1400, []⟩] [1, 5, 6] [0, 1, 2] (todo' := loopAt Go.Proofs.Try.f44 0) (sl := slotsOf 26 [(1, .fn (Fn.func (45 : FuncId)) [] [.ptr ((1 : Nat)) ((0 : Nat)) ((0 : Nat)) ((0 : Nat)), .ptr ((0 : Nat)) ((0 : Nat)) ((0 : Nat)) ((0 : Nat))]), (5, I ((↑i : Int))), (6, I (((↑i : Int) + (↑j : Int)) / (2 : Int)))]) (hp := [(0, .blk ((22 : Nat)) [.sl ((2 : Nat)) ((0 : Nat)) ((5 : Nat)) (n) (none)]), (1, .blk ((3 : Nat)) [I (at')]), (2, .ro ((5 : Nat)) (n) (rowT L))]) (ob := [decide ((↑i : Int) < (↑j : Int)) = true, inK IntKind.i64 ((↑i : Int) + (↑j : Int)), inK IntKind.u64 ((↑i : Int) + (↑j : Int)), (0 : Int) ≤ (1 : Int) ∧ (1 : Int) ≤ (↑IntKind.u64.bits : Int), inK IntKind.i64 (((↑i : Int) + (↑j : Int)) / (2 : Int)), CallOK Try.prog (45 : FuncId) ([] ++ [AV.val (Value.int IntKind.i64 (((↑i : Int) + (↑j : Int)) / (2 : Int)))] ++ [AV.ptr (1 : Nat) (0 : Nat) (0 : Nat) (0 : Nat), AV.ptr (0 : Nat) (0 : Nat) (0 : Nat) (0 : Nat)]) [((0 : Nat), Ob.blk (22 : Nat) [AV.sl (2 : Nat) (0 : Nat) (5 : Nat) n none]), ((1 : Nat), Ob.blk (3 : Nat) [AV.val (Value.int IntKind.i64 at')]), ((2 : Nat), Ob.ro (5 : Nat) n (rowT L))] (AV.val (Value.bool (decide (at' < te L (((↑i : Int) + (↑j : Int)) / (2 : Int)).toNat)))) [], (!decide (at' < te L (((↑i : Int) + (↑j : Int)) / (2 : Int)).toNat)) = false]) rfl rfl (by kernel_rfl) ⟨(decide_eq_true hc1), (by simp only [inK]; omega), (by simp only [inK]; omega), (by first | decide | (simp only [Go.IntKind.bits]; omega)), (by simp only [inK]; omega), (CallOK.ren (cl_any (L) (n) (((↑i : Int) + (↑j : Int)) / (2 : Int)) (at') (by omega) (by omega) (by omega)) [(1, 1), (0, 0), (2, 2)] [1, 0, 2] rfl rfl rfl rfl ⟨rfl, rfl, rfl, rfl, rfl, fun _ => rfl, trivial⟩ rfl ⟨rfl, rfl, rfl, rfl, rfl, fun _ => rfl, trivial⟩), (by simpa using hc2), trivial⟩ rfl ⟨rfl, rfl, rfl, rfl, rfl, fun _ => rfl, trivial⟩ ?_
      case' ga1 =>
        refine Safe.goto mixed 14 [⟨1100, [(2, .tt true)]⟩, ⟨1200, []⟩, ⟨1300, [(2, .call [0, 1, 2] (B (decide (at' < te L (((↑i : Int) + (↑j : Int)) / (2 : Int)).toNat))) []), (3, .tt true)]⟩, ⟨1400, []⟩] [1, 5, 6] [0, 1, 2] (todo' := loopAt Go.Proofs.Try.f44 0) (sl := slotsOf 26 [(1, .fn (Fn.func (45 : FuncId)) [] [.ptr ((1 : Nat)) ((0 : Nat)) ((0 : Nat)) ((0 : Nat)), .ptr ((0 : Nat)) ((0 : Nat)) ((0 : Nat)) ((0 : Nat))]), (5, I (((↑i : Int) + (↑j : Int)) / (2 : Int) + (1 : Int))), (6, I ((↑j : Int)))]) (hp := [(0, .blk ((22 : Nat)) [.sl ((2 : Nat)) ((0 : Nat)) ((5 : Nat)) (n) (none)]), (1, .blk ((3 : Nat)) [I (at')]), (2, .ro ((5 : Nat)) (n) (rowT L))]) (ob := [decide ((↑i : Int) < (↑j : Int)) = true, inK IntKind.i64 ((↑i : Int) + (↑j : Int)), inK IntKind.u64 ((↑i : Int) + (↑j : Int)), (0 : Int) ≤ (1 : Int) ∧ (1 : Int) ≤ (↑IntKind.u64.bits : Int), inK IntKind.i64 (((↑i : Int) + (↑j : Int)) / (2 : Int)), CallOK Try.prog (45 : FuncId) ([] ++ [AV.val (Value.int IntKind.i64 (((↑i : Int) + (↑j : Int)) / (2 : Int)))] ++ [AV.ptr (1 : Nat) (0 : Nat) (0 : Nat) (0 : Nat), AV.ptr (0 : Nat) (0 : Nat) (0 : Nat) (0 : Nat)]) [((0 : Nat), Ob.blk (22 : Nat) [AV.sl (2 : Nat) (0 : Nat) (5 : Nat) n none]), ((1 : Nat), Ob.blk (3 : Nat) [AV.val (Value.int IntKind.i64 at')]), ((2 : Nat), Ob.ro (5 : Nat) n (rowT L))] (AV.val (Value.bool (decide (at' < te L (((↑i : Int) + (↑j : Int)) / (2 : Int)).toNat)))) [], (!decide (at' < te L (((↑i : Int) + (↑j : Int)) / (2 : Int)).toNat)) = true, inK IntKind.i64 (((↑i : Int) + (↑j : Int)) / (2 : Int) + (1 : Int))]) rfl rfl (by kernel_rfl) ⟨(decide_eq_true hc1), (by simp only [inK]; omega), (by simp only [inK]; omega), (by first | decide | (simp only [Go.IntKind.bits]; omega)), (by simp only [inK]; omega), (CallOK.ren (cl_any (L) (n) (((↑i : Int) + (↑j : Int)) / (2 : Int)) (at') (by omega) (by omega) (by omega)) [(1, 1), (0, 0), (2, 2)] [1, 0, 2] rfl rfl rfl rfl ⟨rfl, rfl, rfl, rfl, rfl, fun _ => rfl, trivial⟩ rfl ⟨rfl, rfl, rfl, rfl, rfl, fun _ => rfl, trivial⟩), hc2, (by simp only [inK]; omega), trivial⟩ rfl ⟨rfl, rfl, rfl, rfl, rfl, fun _ => rfl, trivial⟩ ?_
    · have h5 := hm' (by omega)
      have h4 : ¬ at' < te L ((((i : Int) + j) / 2).toNat) := by simpa using hc2
      rw [h5] at h4
      exact ih ((i + j) / 2 + 1, j) ⟨by omega, h2, h3⟩ (by omega)
    · have h5 := hm' (by omega)
      have h4 : at' < te L ((((i : Int) + j) / 2).toNat) := by simpa using hc2
      rw [h5] at h4
      exact ih (i, (i + j) / 2) ⟨h1, by omega, by omega⟩ (by omega)
    · rw [show i = r by omega]; rfl
  · intro H
    refine Safe.goto mixed 7 [⟨1100, []⟩, ⟨1200, []⟩] [1, 5, 6] [0, 1, 2] (todo' := loopAt Go.Proofs.Try.f44 0) (sl := slotsOf 26 [(1, .fn (Fn.func (45 : FuncId)) [] [.ptr ((1 : Nat)) ((0 : Nat)) ((0 : Nat)) ((0 : Nat)), .ptr ((0 : Nat)) ((0 : Nat)) ((0 : Nat)) ((0 : Nat))]), (5, I ((0 : Int))), (6, I ((↑n : Int)))]) (hp := [(0, .blk ((22 : Nat)) [.sl ((2 : Nat)) ((0 : Nat)) ((5 : Nat)) (n) (none)]), (1, .blk ((3 : Nat)) [I (at')]), (2, .ro ((5 : Nat)) (n) (rowT L))]) (ob := []) rfl rfl (by kernel_rfl) trivial rfl ⟨rfl, rfl, rfl, rfl, rfl, fun _ => rfl, trivial⟩ ?_
    exact H (0, n) ⟨Nat.zero_le _, hr, Nat.le_refl _⟩
set_option maxRecDepth 10000 in
set_option maxHeartbeats 4000000 in
theorem find_any (L : List Tg) (n : Nat) (at' : Int) (r : Nat) (hr : r ≤ n) (hn : n ≤ 1000000) (hm : ∀ k, k < n → (at' < te L k ↔ r ≤ k)) (hb : ∀ k, k < n → -9223372036854775808 ≤ te L k ∧ te L k ≤ 9223372036854775807) :
    CallOK Try.prog 40 [.sl 0 0 5 n none, I at'] [(0, .ro 5 n (rowT L))] (I r) [] := by
  refine CallOK.intro Try.call40 Try.func40 rfl rfl ⟨rfl, fun _ => rfl, trivial⟩ ?_
  refine Safe.ends mixed Go.Proofs.Try.func40 4 [⟨1100, []⟩, ⟨1200, [(3, .call [1100, 1101, 0] (I ((↑r : Int))) [])]⟩] (r := I ((↑r : Int))) (hp := [(0, .ro ((5 : Nat)) (n) (rowT L))]) (ob := [CallOK Try.prog (44 : Nat) ([] ++ [AV.val (Value.int IntKind.i64 (↑n : Int)), AV.fn (Fn.func (45 : Nat)) [] [AV.ptr (1101 : Nat) (0 : Nat) (0 : Nat) (0 : Nat), AV.ptr (1100 : Nat) (0 : Nat) (0 : Nat) (0 : Nat)]] ++ []) [((1100 : Nat), Ob.blk (22 : Nat) [AV.sl (0 : Nat) (0 : Nat) (5 : Nat) n none]), ((1101 : Nat), Ob.blk (3 : Nat) [AV.val (Value.int IntKind.i64 at')]), ((0 : Nat), Ob.ro (5 : Nat) n (rowT L))] (AV.val (Value.int IntKind.i64 (↑r : Int))) []]) rfl (by kernel_rfl) ⟨(CallOK.ren (search_any L n at' r hr hn hm hb) [(1, 1101), (0, 1100), (2, 0)] [1, 0, 2] rfl rfl rfl rfl ⟨rfl, rfl, rfl, rfl, rfl, fun _ => rfl, trivial⟩ rfl ⟨rfl, rfl, rfl, rfl, rfl, fun _ => rfl, trivial⟩), trivial⟩ rfl ⟨ObLe.refl _, trivial⟩ ⟨rfl, fun _ => rfl, trivial⟩ rfl
end Go.Proofs.Ytcomimabihbfgaa
