/- Check. -/
import Derived.Test.YtcomimabihbfgaaSyU
import Derived.KernelRfl
import Derived.Test.YtcomimabihbfgaaTb
namespace Go.Proofs.Ytcomimabihbfgaa
open Go.RowKit
set_option linter.unusedVariables false
/-- the first error of the targets from a place on -/
def chk : List Tg → Int → Int
  | [], _ => 0
  | t :: l, s => if ck1 t s = 0 then chk l (s + t.length) else ck1 t s
def checkF (L : List Tg) : Int := if L.length > 64 then 4 else chk L 0
theorem chk_drop (L : List Tg) (k : Nat) (s : Int) (h : k < L.length) : chk (L.drop k) s = if ck1 (getT L k) s = 0 then chk (L.drop (k + 1)) (s + (getT L k).length) else ck1 (getT L k) s := by
  rw [List.drop_eq_getElem_cons h]
  have : L[k] = getT L k := by unfold getT; rw [List.getD_eq_getElem?_getD, List.getElem?_eq_getElem h]; rfl
  rw [this]; rfl
theorem ck1_len {t : Tg} {s : Int} (h : ck1 t s = 0) : 1 ≤ t.length ∧ t.length ≤ 16777216 ∧ t.start = s := by
  unfold ck1 at h
  by_cases h1 : t.start ≠ s
  · rw [if_pos h1] at h; omega
  · rw [if_neg h1] at h
    by_cases h2 : t.length < 1 ∨ t.length > 16777216
    · rw [if_pos h2] at h; omega
    · omega
theorem ck1_cases (t : Tg) (s : Int) : ck1 t s = 0 ∨ ck1 t s = 1 ∨ ck1 t s = 2 := by
  unfold ck1
  split
  · simp
  · split
    · simp
    · split
      · simp
      · split <;> simp
set_option maxRecDepth 10000 in
set_option maxHeartbeats 4000000 in
theorem check_any (L : List Tg) (hl : L.length ≤ 1000000) : CallOK Try.prog 30 [.sl 0 0 5 L.length none] [(0, .ro 5 L.length (rowT L))] (I (checkF L)) [] := by
  refine CallOK.intro Try.call30 Try.func30 rfl rfl ⟨rfl, fun _ => rfl, trivial⟩ ?_
  refine Safe.withLoop (loopAt Try.f30 0) [0] 27 (fun g : Nat × Int => [(3, I g.2), (10, .sl 0 0 5 L.length none), (11, I L.length), (12, I g.1)]) (fun _ => [(0, .ro 5 L.length (rowT L))]) (fun g => L.length ≤ 64 ∧ g.1 ≤ L.length ∧ 0 ≤ g.2 ∧ g.2 ≤ 16777216 * g.1 ∧ chk (L.drop g.1) g.2 = chk L 0) (fun g => L.length - g.1) ?_ ?_
  · rintro ⟨k, s⟩ ⟨h64, hk, hs0, hs1, hc⟩ ih
    dsimp only at hk hs0 hs1 hc ih ⊢
    have hF : checkF L = chk L 0 := if_neg (by omega)
    have hd := chk_drop L k s
    have hln : ck1 (getT L k) s = 0 → _ := ck1_len
    refine (Classical.em ((↑k : Int) < (↑L.length : Int))).elim (fun hc1 => ?ga0) (fun hc1 => ?gb0)
    case' gb0 =>
      refine Safe.ends mixed Go.Proofs.Try.func30 7 [⟨1100, [(0, .tt false)]⟩, ⟨1200, []⟩] (r := I ((0 : Int))) (hp := [(0, .ro ((5 : Nat)) (L.length) (rowT L))]) (ob := [decide ((↑k : Int) < (↑L.length : Int)) = false]) rfl (by kernel_rfl) ⟨(decide_eq_false hc1), trivial⟩ ?_ ⟨ObLe.refl _, trivial⟩ ⟨rfl, fun _ => rfl, trivial⟩ rfl
    case' ga0 =>
      refine (Classical.em (¬ck1 { start := (getT L k).start, length := (getT L k).length, on := (getT L k).on, offset := (getT L k).offset, fail := (getT L k).fail } s = (0 : Int))).elim (fun hc2 => ?ga1) (fun hc2 => ?gb1)
      case' gb1 =>
        refine Safe.goto mixed 20 [⟨1100, [(0, .tt true)]⟩, ⟨1200, []⟩, ⟨1300, [(2, .call [] (I (ck1 { start := (getT L k).start, length := (getT L k).length, on := (getT L k).on, offset := (getT L k).offset, fail := (getT L k).fail } s)) [])]⟩, ⟨1400, [(1, .tt false)]⟩, ⟨1500, []⟩, ⟨1600, []⟩] [3, 10, 11, 12] [0] (todo' := loopAt Go.Proofs.Try.f30 0) (sl := slotsOf 27 [(3, I (s + (getT L k).length)), (10, .sl ((0 : Nat)) ((0 : Nat)) ((5 : Nat)) (L.length) (none)), (11, I ((↑L.length : Int))), (12, I ((↑k : Int) + (1 : Int)))]) (hp := [(0, .ro ((5 : Nat)) (L.length) (rowT L))]) (ob := [decide ((↑k : Int) < (↑L.length : Int)) = true, (0 : Int) ≤ (↑k : Int) ∧ (↑k : Int) < (↑L.length : Int), k < L.length, CallOK Try.prog (42 : Nat) ([] ++ [AV.agg [AV.val (Value.int IntKind.i64 (getT L k).start), AV.val (Value.int IntKind.i64 (getT L k).length), AV.val (Value.string (getT L k).on), AV.val (Value.int IntKind.i64 (getT L k).offset), AV.val (Value.bool (getT L k).fail)], AV.val (Value.int IntKind.i64 s)] ++ []) [] (AV.val (Value.int IntKind.i64 (ck1 { start := (getT L k).start, length := (getT L k).length, on := (getT L k).on, offset := (getT L k).offset, fail := (getT L k).fail } s))) [], (decide ¬ck1 { start := (getT L k).start, length := (getT L k).length, on := (getT L k).on, offset := (getT L k).offset, fail := (getT L k).fail } s = (0 : Int)) = false, inK IntKind.i64 (s + (getT L k).length), inK IntKind.i64 ((↑k : Int) + (1 : Int))]) rfl rfl (by kernel_rfl) ⟨(decide_eq_true hc1), (by omega), (by omega), (CallOK.ren (ct_any ((getT L k).start) ((getT L k).length) ((getT L k).offset) (s) ((getT L k).on) ((getT L k).fail)) [] [] rfl rfl rfl rfl trivial rfl trivial), (decide_eq_false hc2), (by simp only [inK]; omega), (by simp only [inK]; omega), trivial⟩ rfl ⟨rfl, fun _ => rfl, trivial⟩ ?_
      case' ga1 =>
        refine Safe.ends mixed Go.Proofs.Try.func30 17 [⟨1100, [(0, .tt true)]⟩, ⟨1200, []⟩, ⟨1300, [(2, .call [] (I (ck1 { start := (getT L k).start, length := (getT L k).length, on := (getT L k).on, offset := (getT L k).offset, fail := (getT L k).fail } s)) [])]⟩, ⟨1400, [(1, .tt true)]⟩, ⟨1500, []⟩] (r := I (ck1 { start := (getT L k).start, length := (getT L k).length, on := (getT L k).on, offset := (getT L k).offset, fail := (getT L k).fail } s)) (hp := [(0, .ro ((5 : Nat)) (L.length) (rowT L))]) (ob := [decide ((↑k : Int) < (↑L.length : Int)) = true, (0 : Int) ≤ (↑k : Int) ∧ (↑k : Int) < (↑L.length : Int), k < L.length, CallOK Try.prog (42 : Nat) ([] ++ [AV.agg [AV.val (Value.int IntKind.i64 (getT L k).start), AV.val (Value.int IntKind.i64 (getT L k).length), AV.val (Value.string (getT L k).on), AV.val (Value.int IntKind.i64 (getT L k).offset), AV.val (Value.bool (getT L k).fail)], AV.val (Value.int IntKind.i64 s)] ++ []) [] (AV.val (Value.int IntKind.i64 (ck1 { start := (getT L k).start, length := (getT L k).length, on := (getT L k).on, offset := (getT L k).offset, fail := (getT L k).fail } s))) [], (decide ¬ck1 { start := (getT L k).start, length := (getT L k).length, on := (getT L k).on, offset := (getT L k).offset, fail := (getT L k).fail } s = (0 : Int)) = true]) rfl (by kernel_rfl) ⟨(decide_eq_true hc1), (by omega), (by omega), (CallOK.ren (ct_any ((getT L k).start) ((getT L k).length) ((getT L k).offset) (s) ((getT L k).on) ((getT L k).fail)) [] [] rfl rfl rfl rfl trivial rfl trivial), (decide_eq_true hc2), trivial⟩ ?_ ⟨ObLe.refl _, trivial⟩ ⟨rfl, fun _ => rfl, trivial⟩ rfl
    · show I _ = I _
      rw [hF, ← hc, hd (by omega), if_neg hc2]
    · have hck : ck1 (getT L k) s = 0 := Classical.not_not.1 hc2
      have := hln hck
      exact ih (k + 1, s + (getT L k).length) ⟨h64, by omega, by omega, by omega, by rw [← hc, hd (by omega), if_pos hck]⟩ (by omega)
    · show I _ = I _
      rw [hF, ← hc, show k = L.length by omega, List.drop_length]; rfl
  · intro H
    refine (Classical.em ((↑L.length : Int) > (64 : Int))).elim (fun hc1 => ?ga2) (fun hc1 => ?gb2)
    case' gb2 =>
      refine Safe.goto mixed 14 [⟨1100, []⟩, ⟨1200, [(2, .tt false)]⟩, ⟨1300, []⟩, ⟨1400, []⟩] [3, 10, 11, 12] [0] (todo' := loopAt Go.Proofs.Try.f30 0) (sl := slotsOf 27 [(3, I ((0 : Int))), (10, .sl ((0 : Nat)) ((0 : Nat)) ((5 : Nat)) (L.length) (none)), (11, I ((↑L.length : Int))), (12, I ((0 : Int)))]) (hp := [(0, .ro ((5 : Nat)) (L.length) (rowT L))]) (ob := [decide ((↑L.length : Int) > (64 : Int)) = false]) rfl rfl (by kernel_rfl) ⟨(decide_eq_false hc1), trivial⟩ rfl ⟨rfl, fun _ => rfl, trivial⟩ ?_
    case' ga2 =>
      refine Safe.ends mixed Go.Proofs.Try.func30 8 [⟨1100, []⟩, ⟨1200, [(2, .tt true)]⟩, ⟨1300, []⟩] (r := I ((4 : Int))) (hp := [(0, .ro ((5 : Nat)) (L.length) (rowT L))]) (ob := [decide ((↑L.length : Int) > (64 : Int)) = true]) rfl (by kernel_rfl) ⟨(decide_eq_true hc1), trivial⟩ ?_ ⟨ObLe.refl _, trivial⟩ ⟨rfl, fun _ => rfl, trivial⟩ rfl
    · show I _ = I _
      rw [checkF, if_pos (by omega)]
    · exact H (0, 0) ⟨by omega, by omega, by omega, by omega, rfl⟩
end Go.Proofs.Ytcomimabihbfgaa
