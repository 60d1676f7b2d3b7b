/- Devices that are concatenations of spans: what their calls do. No conditions but those of each theorem. -/
import Derived.Test.YtcoilldcghamdaaSyZ
import Derived.KernelRfl
import Derived.Test.YtcoilldcghamdaaDN
namespace Go.Proofs.Ytcoilldcghamdaa
open Go.RowKit
open OldD (DA Dk Co fp Gr Row Fresh hid hd hs gu nk good ldK ge vu Ar un stF chk3 chk4 rdV wrE wrK flK)
set_option linter.unusedVariables false
set_option linter.unnecessarySimpa false
set_option linter.unusedSimpArgs false
set_option maxRecDepth 10000
theorem csize_any (m : Nat) (k : Dk) (L : List Spn) (hL : SpB L) : CallOK Try.prog 99 [.agg [.sl 1 0 1 L.length none, .sl 2 0 1 L.length none]] [(0, .box (dbox m k)), (1, .ro 1 L.length (rowN encSp 0 L)), (2, .ro 1 L.length (rowG encI (endsL L L.length)))] (I (upS L L.length)) [] := by
  refine CallOK.intro Try.call99 Try.func99 rfl rfl ⟨rfl, trivial, rfl, fun _ => rfl, rfl, fun _ => rfl, trivial⟩ ?_
  have hb := upS_bd hL L.length (Nat.le_refl _)
  have hll := hL.1
  by_cases h0 : L.length = 0
  · have e0 : (L.length : Int) = 0 := by omega
    have eu : upS L L.length = 0 := by rw [h0]; rfl
    rw [eu]
    refine Safe.ends mixed Try.func99 8 [⟨1100, []⟩, ⟨1200, [(3, .tt true)]⟩, ⟨1300, []⟩] (r := I 0) (hp := [(0, .box (dbox m k)), (1, .ro 1 L.length (rowN encSp (0 : Nat) L)), (2, .ro 1 L.length (rowG encI (endsL L L.length)))]) (ob := [decide ((↑L.length : Int) = (0 : Int)) = true]) rfl (by kernel_rfl) ⟨(decide_eq_true e0), trivial⟩ rfl ⟨ObLe.refl _, ObLe.refl _, ObLe.refl _, trivial⟩ ⟨rfl, trivial, rfl, fun _ => rfl, rfl, fun _ => rfl, trivial⟩ rfl
    all_goals first | omega | skip
  · have h1 : 1 ≤ L.length := by omega
    have he := endsL_at L L.length (L.length - 1) (by omega)
    rw [show L.length - 1 + 1 = L.length by omega] at he
    have e2 : ((L.length : Int) - 1).toNat = L.length - 1 := by omega
    refine (Classical.em ((↑L.length : Int) = (0 : Int))).elim (fun hc1 => ?ga0) (fun hc1 => ?gb0)
    case' gb0 =>
      refine Safe.ends mixed Try.func99 9 [⟨1100, []⟩, ⟨1200, [(3, .tt false)]⟩, ⟨1300, []⟩] (r := I ((endsL L L.length).getD ((↑L.length : Int) - (1 : Int)).toNat default)) (hp := [(0, .box (dbox m k)), (1, .ro 1 L.length (rowN encSp (0 : Nat) L)), (2, .ro 1 L.length (rowG encI (endsL L L.length)))]) (ob := [decide ((↑L.length : Int) = (0 : Int)) = false, inK IntKind.i64 ((↑L.length : Int) - (1 : Int)), (0 : Int) ≤ (↑L.length : Int) - (1 : Int) ∧ (↑L.length : Int) - (1 : Int) < (↑L.length : Int), ((↑L.length : Int) - (1 : Int)).toNat < L.length]) rfl (by kernel_rfl) ⟨(decide_eq_false hc1), (by simp only [inK]; omega), (by omega), (by omega), trivial⟩ ?_ ⟨ObLe.refl _, ObLe.refl _, ObLe.refl _, trivial⟩ ⟨rfl, trivial, rfl, fun _ => rfl, rfl, fun _ => rfl, trivial⟩ rfl
    case' ga0 =>
      refine Safe.ends mixed Try.func99 8 [⟨1100, []⟩, ⟨1200, [(3, .tt true)]⟩, ⟨1300, []⟩] (r := I 0) (hp := [(0, .box (dbox m k)), (1, .ro 1 L.length (rowN encSp (0 : Nat) L)), (2, .ro 1 L.length (rowG encI (endsL L L.length)))]) (ob := [decide ((↑L.length : Int) = (0 : Int)) = true]) rfl (by kernel_rfl) ⟨(decide_eq_true hc1), trivial⟩ ?_ ⟨ObLe.refl _, ObLe.refl _, ObLe.refl _, trivial⟩ ⟨rfl, trivial, rfl, fun _ => rfl, rfl, fun _ => rfl, trivial⟩ rfl
    all_goals first | omega | skip
    · rw [e2, he]; rfl
theorem chas_any (m : Nat) (k : Dk) (L : List Spn) (hL : SpB L) (h1 : 1 ≤ L.length) (a : Int) : CallOK Try.prog 89 [.ifc 120 (.agg [.sl 1 0 1 L.length none, .sl 2 0 1 L.length none]), I a] [(0, .box (dbox m k)), (1, .ro 1 L.length (rowN encSp 0 L)), (2, .ro 1 L.length (rowG encI (endsL L L.length)))] (B (decide (0 ≤ a ∧ a < upS L L.length))) [] := by
  refine CallOK.intro Try.call89 Try.func89 rfl rfl ⟨rfl, trivial, rfl, fun _ => rfl, rfl, fun _ => rfl, trivial⟩ ?_
  refine (Classical.em (a ≥ (0 : Int))).elim (fun hc1 => ?ga1) (fun hc1 => ?gb1)
  case' gb1 =>
    refine Safe.ends mixed Try.func89 4 [⟨1100, []⟩, ⟨1200, [(1, .tt false)]⟩] (r := B false) (hp := [(0, .box (dbox m k)), (1, .ro 1 L.length (rowN encSp (0 : Nat) L)), (2, .ro 1 L.length (rowG encI (endsL L L.length)))]) (ob := [decide (a ≥ (0 : Int)) = false]) rfl (by kernel_rfl) ⟨(decide_eq_false hc1), trivial⟩ ?_ ⟨ObLe.refl _, ObLe.refl _, ObLe.refl _, trivial⟩ ⟨rfl, trivial, rfl, fun _ => rfl, rfl, fun _ => rfl, trivial⟩ rfl
  case' ga1 =>
    refine Safe.ends mixed Try.func89 4 [⟨1100, []⟩, ⟨1200, [(1, .tt true), (5, .inv 99 (.agg [.sl 1 0 1 L.length none, .sl 2 0 1 L.length none]) [0, 1, 2] (I (upS L L.length)) [])]⟩] (r := B (decide (a < upS L L.length))) (hp := [(0, .box (dbox m k)), (1, .ro 1 L.length (rowN encSp (0 : Nat) L)), (2, .ro 1 L.length (rowG encI (endsL L L.length)))]) (ob := [decide (a ≥ (0 : Int)) = true, MethOK Try.prog "Size" (AV.ifc (120 : Nat) (AV.agg [AV.sl (1 : Nat) (0 : Nat) (1 : Nat) L.length none, AV.sl (2 : Nat) (0 : Nat) (1 : Nat) L.length none])) (99 : Nat) (AV.agg [AV.sl (1 : Nat) (0 : Nat) (1 : Nat) L.length none, AV.sl (2 : Nat) (0 : Nat) (1 : Nat) L.length none]), CallOK Try.prog (99 : Nat) [AV.agg [AV.sl (1 : Nat) (0 : Nat) (1 : Nat) L.length none, AV.sl (2 : Nat) (0 : Nat) (1 : Nat) L.length none]] [((0 : Nat), Ob.box (dbox m k)), ((1 : Nat), Ob.ro (1 : Nat) L.length (rowN encSp (0 : Nat) L)), ((2 : Nat), Ob.ro (1 : Nat) L.length (rowG encI (endsL L L.length)))] (AV.val (Value.int IntKind.i64 (upS L L.length))) []]) rfl (by kernel_rfl) ⟨(decide_eq_true hc1), (MethOK.of (by kernel_rfl)), (csize_any m k L (by omega)), trivial⟩ ?_ ⟨ObLe.refl _, ObLe.refl _, ObLe.refl _, trivial⟩ ⟨rfl, trivial, rfl, fun _ => rfl, rfl, fun _ => rfl, trivial⟩ rfl
  · rw [show decide (a < upS L L.length) = decide (0 ≤ a ∧ a < upS L L.length) from decide_eq_decide.2 (by omega)]; rfl
  · rw [decide_eq_false (show ¬ (0 ≤ a ∧ a < upS L L.length) by omega)]; rfl
theorem cless_any (m : Nat) (k : Dk) (L : List Spn) (hL : SpB L) (h1 : 1 ≤ L.length) (a : Int) (i : Nat) (hi : i < L.length) : CallOK Try.prog 103 [I i, .ptr 3 0 0 0, .ptr 4 0 0 0] [(0, .box (dbox m k)), (1, .ro 1 L.length (rowN encSp 0 L)), (2, .ro 1 L.length (rowG encI (endsL L L.length))), (3, .blk 3 [I a]), (4, .blk 120 [.sl 1 0 1 L.length none, .sl 2 0 1 L.length none])] (B (decide (a < upS L (i + 1)))) [] := by
  refine CallOK.intro Try.call103 Try.func103 rfl rfl ⟨rfl, trivial, rfl, fun _ => rfl, rfl, fun _ => rfl, rfl, rfl, rfl, rfl, trivial⟩ ?_
  have he := endsL_at L L.length i hi
  have e2 : ((i : Nat) : Int).toNat = i := by omega
  have hi2 : (i : Int) < (L.length : Int) := by omega
  refine Safe.ends mixed Try.func103 4 [⟨1100, []⟩, ⟨1200, []⟩] (r := B (decide (a < (endsL L L.length).getD i default))) (hp := [(0, .box (dbox m k)), (1, .ro 1 L.length (rowN encSp (0 : Nat) L)), (2, .ro 1 L.length (rowG encI (endsL L L.length))), (3, .blk 3 [I a]), (4, .blk 120 [.sl 1 0 1 L.length none, .sl 2 0 1 L.length none])]) (ob := [(0 : Int) ≤ (↑i : Int) ∧ (↑i : Int) < (↑L.length : Int), i < L.length]) rfl (by kernel_rfl) ⟨(by omega), (by omega), trivial⟩ ?_ ⟨ObLe.refl _, ObLe.refl _, ObLe.refl _, ObLe.refl _, ObLe.refl _, trivial⟩ ⟨rfl, trivial, rfl, fun _ => rfl, rfl, fun _ => rfl, rfl, rfl, rfl, rfl, trivial⟩ rfl
  all_goals first | omega | skip
  · rw [he]; rfl
theorem search_any (m : Nat) (k : Dk) (L : List Spn) (hL : SpB L) (h1 : 1 ≤ L.length) (a : Int) (K : Nat) (hK : K ≤ L.length) (hlo : ∀ x, x < K → upS L (x + 1) ≤ a) (hhi : ∀ x, K ≤ x → x < L.length → a < upS L (x + 1)) :
    CallOK Try.prog 102 [I L.length, .fn (.func 103) [] [.ptr 3 0 0 0, .ptr 4 0 0 0]] [(0, .box (dbox m k)), (1, .ro 1 L.length (rowN encSp 0 L)), (2, .ro 1 L.length (rowG encI (endsL L L.length))), (3, .blk 3 [I a]), (4, .blk 120 [.sl 1 0 1 L.length none, .sl 2 0 1 L.length none])] (I K) [] := by
  refine CallOK.intro Try.call102 Try.func102 rfl rfl ⟨rfl, trivial, rfl, fun _ => rfl, rfl, fun _ => rfl, rfl, rfl, rfl, rfl, trivial⟩ ?_
  have hll := hL.1
  refine Safe.withLoop (loopAt Try.f102 0) [0, 1, 2, 3, 4] 26 (fun g : Nat × Nat => [(1, .fn (.func 103) [] [.ptr 3 0 0 0, .ptr 4 0 0 0]), (5, I g.1), (6, I g.2)]) (fun g => [(0, .box (dbox m k)), (1, .ro 1 L.length (rowN encSp 0 L)), (2, .ro 1 L.length (rowG encI (endsL L L.length))), (3, .blk 3 [I a]), (4, .blk 120 [.sl 1 0 1 L.length none, .sl 2 0 1 L.length none])]) (fun g => g.1 ≤ K ∧ K ≤ g.2 ∧ g.2 ≤ L.length) (fun g => g.2 - g.1) ?_ ?_
  · rintro ⟨i, j⟩ ⟨g1, g2, g3⟩ ih
    dsimp only at g1 g2 g3 ih ⊢
    by_cases hlt : i < j
    · have hlt2 : (i : Int) < (j : Int) := by omega
      obtain ⟨h, hh⟩ : ∃ h : Nat, h = (i + j) / 2 := ⟨_, rfl⟩
      have hm : i ≤ h ∧ h < j := by omega
      have fl := cless_any m k L hL h1 a h (by omega)
      have e3 : ((i : Int) + j) / 2 = (h : Int) := by omega
      by_cases hc : a < upS L (h + 1)
      · have hk : K ≤ h := by
          refine Classical.not_not.1 fun hn => ?_
          have := hlo h (by omega)
          omega
        rw [decide_eq_true hc, ← e3] at fl
        refine Safe.goto mixed 14 [⟨1100, [(2, .tt true)]⟩, ⟨1200, []⟩, ⟨1300, [(2, .call [0, 1, 2, 3, 4] (B true) [])]⟩, ⟨1400, []⟩] [1, 5, 6] [0, 1, 2, 3, 4] (todo' := loopAt Try.f102 0) (sl := slotsOf 26 [(1, .fn (Fn.func (103 : FuncId)) [] [.ptr 3 0 0 0, .ptr 4 0 0 0]), (5, I ((↑i : Int))), (6, I (((↑i : Int) + (↑j : Int)) / (2 : Int)))]) (hp := [(0, .box (dbox m k)), (1, .ro 1 L.length (rowN encSp (0 : Nat) L)), (2, .ro 1 L.length (rowG encI (endsL L L.length))), (3, .blk 3 [I a]), (4, .blk 120 [.sl 1 0 1 L.length none, .sl 2 0 1 L.length none])]) (ob := [decide ((↑i : Int) < (↑j : Int)) = true, inK IntKind.i64 ((↑i : Int) + (↑j : Int)), inK IntKind.u64 ((↑i : Int) + (↑j : Int)), (0 : Int) ≤ (1 : Int) ∧ (1 : Int) ≤ (↑IntKind.u64.bits : Int), inK IntKind.i64 (((↑i : Int) + (↑j : Int)) / (2 : Int)), CallOK Try.prog (103 : FuncId) ([] ++ [AV.val (Value.int IntKind.i64 (((↑i : Int) + (↑j : Int)) / (2 : Int)))] ++ [AV.ptr (3 : Nat) (0 : Nat) (0 : Nat) (0 : Nat), AV.ptr (4 : Nat) (0 : Nat) (0 : Nat) (0 : Nat)]) [((0 : Nat), Ob.box (dbox m k)), ((1 : Nat), Ob.ro (1 : Nat) L.length (rowN encSp (0 : Nat) L)), ((2 : Nat), Ob.ro (1 : Nat) L.length (rowG encI (endsL L L.length))), ((3 : Nat), Ob.blk (3 : Nat) [AV.val (Value.int IntKind.i64 a)]), ((4 : Nat), Ob.blk (120 : Nat) [AV.sl (1 : Nat) (0 : Nat) (1 : Nat) L.length none, AV.sl (2 : Nat) (0 : Nat) (1 : Nat) L.length none])] (AV.val (Value.bool true)) []]) rfl rfl (by kernel_rfl) ⟨(decide_eq_true hlt2), (by simp only [inK]; omega), (by simp only [inK]; omega), (by first | decide | (simp only [Go.IntKind.bits]; omega)), (by simp only [inK]; omega), fl, trivial⟩ rfl ⟨rfl, trivial, rfl, fun _ => rfl, rfl, fun _ => rfl, rfl, rfl, rfl, rfl, trivial⟩ ?_
        · rw [e3]; exact ih (i, h) ⟨by omega, by omega, by omega⟩ (by dsimp only; omega)
      · have hk : h < K := by
          refine Classical.not_not.1 fun hn => ?_
          have := hhi h (by omega) (by omega)
          omega
        rw [decide_eq_false hc, ← e3] at fl
        refine Safe.goto mixed 14 [⟨1100, [(2, .tt true)]⟩, ⟨1200, []⟩, ⟨1300, [(2, .call [0, 1, 2, 3, 4] (B false) [])]⟩, ⟨1400, []⟩] [1, 5, 6] [0, 1, 2, 3, 4] (todo' := loopAt Try.f102 0) (sl := slotsOf 26 [(1, .fn (Fn.func (103 : FuncId)) [] [.ptr 3 0 0 0, .ptr 4 0 0 0]), (5, I (((↑i : Int) + (↑j : Int)) / (2 : Int) + (1 : Int))), (6, I ((↑j : Int)))]) (hp := [(0, .box (dbox m k)), (1, .ro 1 L.length (rowN encSp (0 : Nat) L)), (2, .ro 1 L.length (rowG encI (endsL L L.length))), (3, .blk 3 [I a]), (4, .blk 120 [.sl 1 0 1 L.length none, .sl 2 0 1 L.length none])]) (ob := [decide ((↑i : Int) < (↑j : Int)) = true, inK IntKind.i64 ((↑i : Int) + (↑j : Int)), inK IntKind.u64 ((↑i : Int) + (↑j : Int)), (0 : Int) ≤ (1 : Int) ∧ (1 : Int) ≤ (↑IntKind.u64.bits : Int), inK IntKind.i64 (((↑i : Int) + (↑j : Int)) / (2 : Int)), CallOK Try.prog (103 : FuncId) ([] ++ [AV.val (Value.int IntKind.i64 (((↑i : Int) + (↑j : Int)) / (2 : Int)))] ++ [AV.ptr (3 : Nat) (0 : Nat) (0 : Nat) (0 : Nat), AV.ptr (4 : Nat) (0 : Nat) (0 : Nat) (0 : Nat)]) [((0 : Nat), Ob.box (dbox m k)), ((1 : Nat), Ob.ro (1 : Nat) L.length (rowN encSp (0 : Nat) L)), ((2 : Nat), Ob.ro (1 : Nat) L.length (rowG encI (endsL L L.length))), ((3 : Nat), Ob.blk (3 : Nat) [AV.val (Value.int IntKind.i64 a)]), ((4 : Nat), Ob.blk (120 : Nat) [AV.sl (1 : Nat) (0 : Nat) (1 : Nat) L.length none, AV.sl (2 : Nat) (0 : Nat) (1 : Nat) L.length none])] (AV.val (Value.bool false)) [], inK IntKind.i64 (((↑i : Int) + (↑j : Int)) / (2 : Int) + (1 : Int))]) rfl rfl (by kernel_rfl) ⟨(decide_eq_true hlt2), (by simp only [inK]; omega), (by simp only [inK]; omega), (by first | decide | (simp only [Go.IntKind.bits]; omega)), (by simp only [inK]; omega), fl, (by simp only [inK]; omega), trivial⟩ rfl ⟨rfl, trivial, rfl, fun _ => rfl, rfl, fun _ => rfl, rfl, rfl, rfl, rfl, trivial⟩ ?_
        · rw [e3]; exact ih (h + 1, j) ⟨by omega, by omega, by omega⟩ (by dsimp only; omega)
    · have hn : ¬ ((i : Int) < (j : Int)) := by omega
      obtain rfl : i = K := by omega
      refine Safe.ends mixed Try.func102 7 [⟨1100, [(2, .tt false)]⟩, ⟨1200, []⟩] (r := I ((↑i : Int))) (hp := [(0, .box (dbox m k)), (1, .ro 1 L.length (rowN encSp (0 : Nat) L)), (2, .ro 1 L.length (rowG encI (endsL L L.length))), (3, .blk 3 [I a]), (4, .blk 120 [.sl 1 0 1 L.length none, .sl 2 0 1 L.length none])]) (ob := [decide ((↑i : Int) < (↑j : Int)) = false]) rfl (by kernel_rfl) ⟨(decide_eq_false hn), trivial⟩ rfl ⟨ObLe.refl _, ObLe.refl _, ObLe.refl _, ObLe.refl _, ObLe.refl _, trivial⟩ ⟨rfl, trivial, rfl, fun _ => rfl, rfl, fun _ => rfl, rfl, rfl, rfl, rfl, trivial⟩ rfl
  · intro H
    refine Safe.goto mixed 7 [⟨1100, []⟩, ⟨1200, []⟩] [1, 5, 6] [0, 1, 2, 3, 4] (todo' := loopAt Try.f102 0) (sl := slotsOf 26 [(1, .fn (Fn.func (103 : FuncId)) [] [.ptr 3 0 0 0, .ptr 4 0 0 0]), (5, I 0), (6, I ((↑L.length : Int)))]) (hp := [(0, .box (dbox m k)), (1, .ro 1 L.length (rowN encSp (0 : Nat) L)), (2, .ro 1 L.length (rowG encI (endsL L L.length))), (3, .blk 3 [I a]), (4, .blk 120 [.sl 1 0 1 L.length none, .sl 2 0 1 L.length none])]) (ob := []) rfl rfl (by kernel_rfl) trivial rfl ⟨rfl, trivial, rfl, fun _ => rfl, rfl, fun _ => rfl, rfl, rfl, rfl, rfl, trivial⟩ ?_
    · exact H (0, L.length) ⟨by omega, hK, by omega⟩
/-- which part has a sector -/
structure Prt (L : List Spn) (a : Int) (K : Nat) : Prop where
  lt : K < L.length
  lo : upS L K ≤ a
  hi : a < upS L K + (L.getD K default).n
theorem prt_ex {L : List Spn} (hL : SpB L) (a : Int) (h : 0 ≤ a ∧ a < upS L L.length) : ∃ K, Prt L a K := by
  have key : ∀ j, j ≤ L.length → a < upS L j → ∃ K, Prt L a K := by
    intro j
    induction j with
    | zero => intro _ h2; simp [upS] at h2; omega
    | succ j ih =>
      intro hj h2
      by_cases h3 : a < upS L j
      · exact ih (by omega) h3
      · exact ⟨j, by omega, by omega, by simpa [upS] using h2⟩
  exact key L.length (Nat.le_refl _) h.2
theorem Prt.lo' {L : List Spn} {a : Int} {K : Nat} (h : Prt L a K) (hL : SpB L) (x : Nat) (hx : x < K) : upS L (x + 1) ≤ a := by
  have := upS_mono hL (x + 1) (K - (x + 1)) (by have := h.lt; omega)
  rw [show x + 1 + (K - (x + 1)) = K by omega] at this
  have := h.lo; omega
theorem Prt.hi' {L : List Spn} {a : Int} {K : Nat} (h : Prt L a K) (hL : SpB L) (x : Nat) (hx : K ≤ x) (hx2 : x < L.length) : a < upS L (x + 1) := by
  have := upS_mono hL (K + 1) (x - K) (by omega)
  rw [show K + 1 + (x - K) = x + 1 by omega] at this
  have h2 := h.hi
  have h3 : upS L (K + 1) = upS L K + (L.getD K default).n := rfl
  omega
theorem cfind_any (m : Nat) (k : Dk) (L : List Spn) (hL : SpB L) (h1 : 1 ≤ L.length) (a : Int) (K : Nat) (h : Prt L a K) (ha : a ≤ 1000000) : CallOK Try.prog 101 [.agg [.sl 1 0 1 L.length none, .sl 2 0 1 L.length none], I a] [(0, .box (dbox m k)), (1, .ro 1 L.length (rowN encSp 0 L)), (2, .ro 1 L.length (rowG encI (endsL L L.length)))] (.tup [.ifc 100 (.agg [.ptr 0 0 0 0, I (L.getD K default).d, I (L.getD K default).s, I (L.getD K default).n]), I (a - upS L K)]) [] := by
  refine CallOK.intro Try.call101 Try.func101 rfl rfl ⟨rfl, trivial, rfl, fun _ => rfl, rfl, fun _ => rfl, trivial⟩ ?_
  have hll := hL.1
  have hKl := h.lt
  have sr := search_any m k L hL h1 a K (by omega) (fun x hx => h.lo' hL x hx) (fun x hx hx2 => h.hi' hL x hx hx2)
  have hb := upS_bd hL K (by omega)
  have hlo := h.lo
  by_cases h0 : K = 0
  · subst h0
    have e0 : a - upS L 0 = a := by simp [upS]
    rw [e0]
    refine Safe.ends mixed Try.func101 11 [⟨1100, []⟩, ⟨1200, [(4, .call [0, 1, 2, 1101, 1100] (I ((↑(0 : Nat) : Int))) [])]⟩, ⟨1300, []⟩, ⟨1400, []⟩] (r := .tup [.ifc 100 (.agg [.ptr 0 0 0 0, I ((L.getD (0 : Nat) default).d), I ((L.getD (0 : Nat) default).s), I ((L.getD (0 : Nat) default).n)]), I a]) (hp := [(0, .box (dbox m k)), (1, .ro 1 L.length (rowN encSp (0 : Nat) L)), (2, .ro 1 L.length (rowG encI (endsL L L.length)))]) (ob := [CallOK Try.prog (102 : Nat) ([] ++ [AV.val (Value.int IntKind.i64 (↑L.length : Int)), AV.fn (Fn.func (103 : Nat)) [] [AV.ptr (1101 : Nat) (0 : Nat) (0 : Nat) (0 : Nat), AV.ptr (1100 : Nat) (0 : Nat) (0 : Nat) (0 : Nat)]] ++ []) [((0 : Nat), Ob.box (dbox m k)), ((1 : Nat), Ob.ro (1 : Nat) L.length (rowN encSp (0 : Nat) L)), ((2 : Nat), Ob.ro (1 : Nat) L.length (rowG encI (endsL L L.length))), ((1101 : Nat), Ob.blk (3 : Nat) [AV.val (Value.int IntKind.i64 a)]), ((1100 : Nat), Ob.blk (120 : Nat) [AV.sl (1 : Nat) (0 : Nat) (1 : Nat) L.length none, AV.sl (2 : Nat) (0 : Nat) (1 : Nat) L.length none])] (AV.val (Value.int IntKind.i64 (↑(0 : Nat) : Int))) [], (0 : Int) ≤ (↑(0 : Nat) : Int) ∧ (↑(0 : Nat) : Int) < (↑L.length : Int), (0 : Nat) < L.length]) rfl (by kernel_rfl) ⟨(CallOK.ren sr [(3, 1101), (4, 1100), (1, 1), (2, 2), (0, 0)] [3, 4, 1, 2, 0] rfl rfl rfl rfl ⟨rfl, trivial, rfl, fun _ => rfl, rfl, fun _ => rfl, rfl, rfl, rfl, rfl, trivial⟩ rfl ⟨rfl, trivial, rfl, fun _ => rfl, rfl, fun _ => rfl, rfl, rfl, rfl, rfl, trivial⟩), (by omega), (by omega), trivial⟩ rfl ⟨ObLe.refl _, ObLe.refl _, ObLe.refl _, trivial⟩ ⟨rfl, trivial, rfl, fun _ => rfl, rfl, fun _ => rfl, trivial⟩ rfl
    all_goals first | omega | skip
  · have he := endsL_at L L.length (K - 1) (by omega)
    rw [show K - 1 + 1 = K by omega] at he
    have e2 : ((K : Int) - 1).toNat = K - 1 := by omega
    have hpos : (K : Int) > 0 := by omega
    have hg : (endsL L L.length).getD ((K : Int) - 1).toNat default = upS L K := by rw [e2, he]
    refine Safe.ends mixed Try.func101 11 [⟨1100, []⟩, ⟨1200, [(4, .call [0, 1, 2, 1101, 1100] (I ((↑K : Int))) [])]⟩, ⟨1300, [(1, .tt true)]⟩, ⟨1400, []⟩, ⟨1500, []⟩] (r := .tup [.ifc 100 (.agg [.ptr 0 0 0 0, I ((L.getD K default).d), I ((L.getD K default).s), I ((L.getD K default).n)]), I (a - (endsL L L.length).getD ((↑K : Int) - (1 : Int)).toNat default)]) (hp := [(0, .box (dbox m k)), (1, .ro 1 L.length (rowN encSp (0 : Nat) L)), (2, .ro 1 L.length (rowG encI (endsL L L.length)))]) (ob := [CallOK Try.prog (102 : Nat) ([] ++ [AV.val (Value.int IntKind.i64 (↑L.length : Int)), AV.fn (Fn.func (103 : Nat)) [] [AV.ptr (1101 : Nat) (0 : Nat) (0 : Nat) (0 : Nat), AV.ptr (1100 : Nat) (0 : Nat) (0 : Nat) (0 : Nat)]] ++ []) [((0 : Nat), Ob.box (dbox m k)), ((1 : Nat), Ob.ro (1 : Nat) L.length (rowN encSp (0 : Nat) L)), ((2 : Nat), Ob.ro (1 : Nat) L.length (rowG encI (endsL L L.length))), ((1101 : Nat), Ob.blk (3 : Nat) [AV.val (Value.int IntKind.i64 a)]), ((1100 : Nat), Ob.blk (120 : Nat) [AV.sl (1 : Nat) (0 : Nat) (1 : Nat) L.length none, AV.sl (2 : Nat) (0 : Nat) (1 : Nat) L.length none])] (AV.val (Value.int IntKind.i64 (↑K : Int))) [], decide ((↑K : Int) > (0 : Int)) = true, inK IntKind.i64 ((↑K : Int) - (1 : Int)), (0 : Int) ≤ (↑K : Int) - (1 : Int) ∧ (↑K : Int) - (1 : Int) < (↑L.length : Int), ((↑K : Int) - (1 : Int)).toNat < L.length, inK IntKind.i64 (a - (endsL L L.length).getD ((↑K : Int) - (1 : Int)).toNat default), (0 : Int) ≤ (↑K : Int) ∧ (↑K : Int) < (↑L.length : Int), K < L.length]) rfl (by kernel_rfl) ⟨(CallOK.ren sr [(3, 1101), (4, 1100), (1, 1), (2, 2), (0, 0)] [3, 4, 1, 2, 0] rfl rfl rfl rfl ⟨rfl, trivial, rfl, fun _ => rfl, rfl, fun _ => rfl, rfl, rfl, rfl, rfl, trivial⟩ rfl ⟨rfl, trivial, rfl, fun _ => rfl, rfl, fun _ => rfl, rfl, rfl, rfl, rfl, trivial⟩), (decide_eq_true hpos), (by simp only [inK]; omega), (by omega), (by omega), (by simp only [inK]; omega), (by omega), (by omega), trivial⟩ ?_ ⟨ObLe.refl _, ObLe.refl _, ObLe.refl _, trivial⟩ ⟨rfl, trivial, rfl, fun _ => rfl, rfl, fun _ => rfl, trivial⟩ rfl
    all_goals first | omega | skip
    · rw [hg]; rfl
theorem cread_any (m : Nat) (k : Dk) (L : List Spn) (hL : SpB L) (h1 : 1 ≤ L.length) (a : Int) (K : Nat) (h : Prt L a K) : CallOK Try.prog 98 [.agg [.sl 1 0 1 L.length none, .sl 2 0 1 L.length none], I a] [(0, .box (dbox m k)), (1, .ro 1 L.length (rowN encSp 0 L)), (2, .ro 1 L.length (rowG encI (endsL L L.length)))] (.tup [.val (.int .u64 (rdV k (L.getD K default).d ((L.getD K default).s + (a - upS L K)))), I (chk4 k (L.getD K default).d ((L.getD K default).s + (a - upS L K)))]) [(0, some (.box (dbox m k)))] := by
  refine CallOK.intro Try.call98 Try.func98 rfl rfl ⟨rfl, trivial, rfl, fun _ => rfl, rfl, fun _ => rfl, trivial⟩ ?_
  have hll := hL.1
  have hKl := h.lt
  have hb := upS_bd hL K (by omega)
  have hb2 := upS_bd hL L.length (Nat.le_refl _)
  have hlo := h.lo
  have hhi := h.hi
  have hm := upS_mono hL (K + 1) (L.length - (K + 1)) (by omega)
  rw [show K + 1 + (L.length - (K + 1)) = L.length by omega, upS] at hm
  have hn := hL.2 K hKl
  have fi := cfind_any m k L hL h1 a K h (by omega)
  have rd := spread_ok m k (L.getD K default).d (L.getD K default).s (L.getD K default).n (a - upS L K) ⟨by omega, by omega⟩ ⟨by omega, by omega, by omega⟩
  have hh := chas_any m k L hL h1 a
  rw [decide_eq_true (show 0 ≤ a ∧ a < upS L L.length by omega)] at hh
  refine Safe.ends mixed Try.func98 11 [⟨1100, []⟩, ⟨1200, [(3, .call [0, 1, 2] (B true) [])]⟩, ⟨1300, [(2, .call [0, 1, 2] (.tup [.ifc 100 (.agg [.ptr 0 0 0 0, I ((L.getD K default).d), I ((L.getD K default).s), I ((L.getD K default).n)]), I (a - upS L K)]) [])]⟩, ⟨1400, [(2, .inv 86 (.agg [.ptr 0 0 0 0, I ((L.getD K default).d), I ((L.getD K default).s), I ((L.getD K default).n)]) [0] (.tup [.val (Value.int IntKind.u64 (rdV k (L.getD K default).d ((L.getD K default).s + (a - upS L K)))), I (chk4 k (L.getD K default).d ((L.getD K default).s + (a - upS L K)))]) [(0, some (.box (dbox m k)))])]⟩] (r := .tup [.val (Value.int IntKind.u64 (rdV k (L.getD K default).d ((L.getD K default).s + (a - upS L K)))), I (chk4 k (L.getD K default).d ((L.getD K default).s + (a - upS L K)))]) (hp := [(0, .box (dbox m k)), (1, .ro 1 L.length (rowN encSp (0 : Nat) L)), (2, .ro 1 L.length (rowG encI (endsL L L.length)))]) (ob := [CallOK Try.prog (89 : Nat) ([] ++ [AV.ifc (120 : Nat) (AV.agg [AV.sl (1 : Nat) (0 : Nat) (1 : Nat) L.length none, AV.sl (2 : Nat) (0 : Nat) (1 : Nat) L.length none]), AV.val (Value.int IntKind.i64 a)] ++ []) [((0 : Nat), Ob.box (dbox m k)), ((1 : Nat), Ob.ro (1 : Nat) L.length (rowN encSp (0 : Nat) L)), ((2 : Nat), Ob.ro (1 : Nat) L.length (rowG encI (endsL L L.length)))] (AV.val (Value.bool true)) [], CallOK Try.prog (101 : Nat) ([] ++ [AV.agg [AV.sl (1 : Nat) (0 : Nat) (1 : Nat) L.length none, AV.sl (2 : Nat) (0 : Nat) (1 : Nat) L.length none], AV.val (Value.int IntKind.i64 a)] ++ []) [((0 : Nat), Ob.box (dbox m k)), ((1 : Nat), Ob.ro (1 : Nat) L.length (rowN encSp (0 : Nat) L)), ((2 : Nat), Ob.ro (1 : Nat) L.length (rowG encI (endsL L L.length)))] (AV.tup [AV.ifc (100 : Nat) (AV.agg [AV.ptr (0 : Nat) (0 : Nat) (0 : Nat) (0 : Nat), AV.val (Value.int IntKind.i64 (L.getD K default).d), AV.val (Value.int IntKind.i64 (L.getD K default).s), AV.val (Value.int IntKind.i64 (L.getD K default).n)]), AV.val (Value.int IntKind.i64 (a - upS L K))]) [], MethOK Try.prog "Read" (AV.ifc (100 : Nat) (AV.agg [AV.ptr (0 : Nat) (0 : Nat) (0 : Nat) (0 : Nat), AV.val (Value.int IntKind.i64 (L.getD K default).d), AV.val (Value.int IntKind.i64 (L.getD K default).s), AV.val (Value.int IntKind.i64 (L.getD K default).n)])) (86 : Nat) (AV.agg [AV.ptr (0 : Nat) (0 : Nat) (0 : Nat) (0 : Nat), AV.val (Value.int IntKind.i64 (L.getD K default).d), AV.val (Value.int IntKind.i64 (L.getD K default).s), AV.val (Value.int IntKind.i64 (L.getD K default).n)]), CallOK Try.prog (86 : Nat) [AV.agg [AV.ptr (0 : Nat) (0 : Nat) (0 : Nat) (0 : Nat), AV.val (Value.int IntKind.i64 (L.getD K default).d), AV.val (Value.int IntKind.i64 (L.getD K default).s), AV.val (Value.int IntKind.i64 (L.getD K default).n)], AV.val (Value.int IntKind.i64 (a - upS L K))] [((0 : Nat), Ob.box (dbox m k))] (AV.tup [AV.val (Value.int IntKind.u64 (rdV k (L.getD K default).d ((L.getD K default).s + (a - upS L K)))), AV.val (Value.int IntKind.i64 (chk4 k (L.getD K default).d ((L.getD K default).s + (a - upS L K))))]) [((0 : Nat), some (Ob.box (dbox m k)))]]) rfl (by kernel_rfl) ⟨hh, fi, (MethOK.of (by kernel_rfl)), rd, trivial⟩ rfl ⟨ObLe.refl _, ObLe.refl _, ObLe.refl _, trivial⟩ ⟨rfl, trivial, rfl, fun _ => rfl, rfl, fun _ => rfl, trivial⟩ rfl
theorem cwrite_any (m : Nat) (k : Dk) (L : List Spn) (hL : SpB L) (h1 : 1 ≤ L.length) (a v : Int) (K : Nat) (h : Prt L a K) (hk : Bd k) : CallOK Try.prog 100 [.agg [.sl 1 0 1 L.length none, .sl 2 0 1 L.length none], I a, .val (.int .u64 v)] [(0, .box (dbox m k)), (1, .ro 1 L.length (rowN encSp 0 L)), (2, .ro 1 L.length (rowG encI (endsL L L.length)))] (I (wrE k (L.getD K default).d ((L.getD K default).s + (a - upS L K)))) [(0, some (.box (dbox m (wrK k (L.getD K default).d ((L.getD K default).s + (a - upS L K)) v))))] := by
  refine CallOK.intro Try.call100 Try.func100 rfl rfl ⟨rfl, trivial, rfl, fun _ => rfl, rfl, fun _ => rfl, trivial⟩ ?_
  have hll := hL.1
  have hKl := h.lt
  have hb := upS_bd hL K (by omega)
  have hb2 := upS_bd hL L.length (Nat.le_refl _)
  have hlo := h.lo
  have hhi := h.hi
  have hm := upS_mono hL (K + 1) (L.length - (K + 1)) (by omega)
  rw [show K + 1 + (L.length - (K + 1)) = L.length by omega, upS] at hm
  have hn := hL.2 K hKl
  have fi := cfind_any m k L hL h1 a K h (by omega)
  have rd := spwrite_ok m k (L.getD K default).d (L.getD K default).s (L.getD K default).n (a - upS L K) v ⟨by omega, by omega⟩ ⟨by omega, by omega, by omega⟩ hk
  have hh := chas_any m k L hL h1 a
  rw [decide_eq_true (show 0 ≤ a ∧ a < upS L L.length by omega)] at hh
  refine Safe.ends mixed Try.func100 11 [⟨1100, []⟩, ⟨1200, [(3, .call [0, 1, 2] (B true) [])]⟩, ⟨1300, [(2, .call [0, 1, 2] (.tup [.ifc 100 (.agg [.ptr 0 0 0 0, I ((L.getD K default).d), I ((L.getD K default).s), I ((L.getD K default).n)]), I (a - upS L K)]) [])]⟩, ⟨1400, [(3, .inv 88 (.agg [.ptr 0 0 0 0, I ((L.getD K default).d), I ((L.getD K default).s), I ((L.getD K default).n)]) [0] (I (wrE k (L.getD K default).d ((L.getD K default).s + (a - upS L K)))) [(0, some (.box (dbox m (wrK k (L.getD K default).d ((L.getD K default).s + (a - upS L K)) v))))])]⟩] (r := I (wrE k (L.getD K default).d ((L.getD K default).s + (a - upS L K)))) (hp := [(0, .box (dbox m (wrK k (L.getD K default).d ((L.getD K default).s + (a - upS L K)) v))), (1, .ro 1 L.length (rowN encSp (0 : Nat) L)), (2, .ro 1 L.length (rowG encI (endsL L L.length)))]) (ob := [CallOK Try.prog (89 : Nat) ([] ++ [AV.ifc (120 : Nat) (AV.agg [AV.sl (1 : Nat) (0 : Nat) (1 : Nat) L.length none, AV.sl (2 : Nat) (0 : Nat) (1 : Nat) L.length none]), AV.val (Value.int IntKind.i64 a)] ++ []) [((0 : Nat), Ob.box (dbox m k)), ((1 : Nat), Ob.ro (1 : Nat) L.length (rowN encSp (0 : Nat) L)), ((2 : Nat), Ob.ro (1 : Nat) L.length (rowG encI (endsL L L.length)))] (AV.val (Value.bool true)) [], CallOK Try.prog (101 : Nat) ([] ++ [AV.agg [AV.sl (1 : Nat) (0 : Nat) (1 : Nat) L.length none, AV.sl (2 : Nat) (0 : Nat) (1 : Nat) L.length none], AV.val (Value.int IntKind.i64 a)] ++ []) [((0 : Nat), Ob.box (dbox m k)), ((1 : Nat), Ob.ro (1 : Nat) L.length (rowN encSp (0 : Nat) L)), ((2 : Nat), Ob.ro (1 : Nat) L.length (rowG encI (endsL L L.length)))] (AV.tup [AV.ifc (100 : Nat) (AV.agg [AV.ptr (0 : Nat) (0 : Nat) (0 : Nat) (0 : Nat), AV.val (Value.int IntKind.i64 (L.getD K default).d), AV.val (Value.int IntKind.i64 (L.getD K default).s), AV.val (Value.int IntKind.i64 (L.getD K default).n)]), AV.val (Value.int IntKind.i64 (a - upS L K))]) [], MethOK Try.prog "Write" (AV.ifc (100 : Nat) (AV.agg [AV.ptr (0 : Nat) (0 : Nat) (0 : Nat) (0 : Nat), AV.val (Value.int IntKind.i64 (L.getD K default).d), AV.val (Value.int IntKind.i64 (L.getD K default).s), AV.val (Value.int IntKind.i64 (L.getD K default).n)])) (88 : Nat) (AV.agg [AV.ptr (0 : Nat) (0 : Nat) (0 : Nat) (0 : Nat), AV.val (Value.int IntKind.i64 (L.getD K default).d), AV.val (Value.int IntKind.i64 (L.getD K default).s), AV.val (Value.int IntKind.i64 (L.getD K default).n)]), CallOK Try.prog (88 : Nat) [AV.agg [AV.ptr (0 : Nat) (0 : Nat) (0 : Nat) (0 : Nat), AV.val (Value.int IntKind.i64 (L.getD K default).d), AV.val (Value.int IntKind.i64 (L.getD K default).s), AV.val (Value.int IntKind.i64 (L.getD K default).n)], AV.val (Value.int IntKind.i64 (a - upS L K)), AV.val (Value.int IntKind.u64 v)] [((0 : Nat), Ob.box (dbox m k))] (AV.val (Value.int IntKind.i64 (wrE k (L.getD K default).d ((L.getD K default).s + (a - upS L K))))) [((0 : Nat), some (Ob.box (dbox m (wrK k (L.getD K default).d ((L.getD K default).s + (a - upS L K)) v))))]]) rfl (by kernel_rfl) ⟨hh, fi, (MethOK.of (by kernel_rfl)), rd, trivial⟩ rfl ⟨ObLe.refl _, ObLe.refl _, ObLe.refl _, trivial⟩ ⟨rfl, trivial, rfl, fun _ => rfl, rfl, fun _ => rfl, trivial⟩ rfl
/-- what flushing the first parts leaves; the first error -/
def flL (k : Dk) (L : List Spn) : Nat → Dk
  | 0 => k
  | i + 1 => flK (flL k L i) (L.getD i default).d
def feL (k : Dk) (L : List Spn) : Nat → Int
  | 0 => 0
  | i + 1 => if feL k L i = 0 then chk3 (flL k L i) (L.getD i default).d 0 else feL k L i
theorem flL_F (k : Dk) (L : List Spn) : ∀ i, (flL k L i).F.length ≤ k.F.length
  | 0 => Nat.le_refl _
  | i + 1 => by
    have := flL_F k L i
    simp only [flL, flK]
    split
    · exact Nat.le_trans (List.length_filter_le ..) this
    · exact this
theorem cflush_any (m : Nat) (k : Dk) (L : List Spn) (hL : SpB L) (h1 : 1 ≤ L.length) (hF : k.F.length ≤ 2 ^ 32) : CallOK Try.prog 97 [.agg [.sl 1 0 1 L.length none, .sl 2 0 1 L.length none]] [(0, .box (dbox m k)), (1, .ro 1 L.length (rowN encSp 0 L)), (2, .ro 1 L.length (rowG encI (endsL L L.length)))] (I (feL k L L.length)) [(0, some (.box (dbox m (flL k L L.length))))] := by
  refine CallOK.intro Try.call97 Try.func97 rfl rfl ⟨rfl, trivial, rfl, fun _ => rfl, rfl, fun _ => rfl, trivial⟩ ?_
  have hll := hL.1
  refine Safe.withLoop (loopAt Try.f97 0) [0, 1, 2] 21 (fun i : Nat => [(3, I (feL k L i)), (8, .sl 1 0 1 L.length none), (9, I L.length), (10, I i)]) (fun i => [(0, .box (dbox m (flL k L i))), (1, .ro 1 L.length (rowN encSp 0 L)), (2, .ro 1 L.length (rowG encI (endsL L L.length)))]) (fun i => i ≤ L.length) (fun i => L.length - i) ?_ ?_
  · intro i hi ih
    by_cases hlt : i < L.length
    · have hlt2 : (i : Int) < (L.length : Int) := by omega
      have fF := flL_F k L i
      have fl := spflush_any m (flL k L i) (L.getD i default).d (L.getD i default).s (L.getD i default).n (by omega)
      by_cases h0 : feL k L i = 0
      · have e1 : feL k L (i + 1) = chk3 (flL k L i) (L.getD i default).d 0 := by simp only [feL]; rw [if_pos h0]
        have ih1 := ih (i + 1) (by omega) (by omega)
        rw [e1] at ih1
        refine Safe.goto mixed 18 [⟨1100, [(0, .tt true)]⟩, ⟨1200, []⟩, ⟨1300, [(1, .inv 85 (.agg [.ptr 0 0 0 0, I ((L.getD i default).d), I ((L.getD i default).s), I ((L.getD i default).n)]) [0] (I (chk3 (flL k L i) (L.getD i default).d (0 : Int))) [(0, some (.box (dbox m (flK (flL k L i) (L.getD i default).d))))])]⟩, ⟨1400, [(1, .tt true)]⟩, ⟨1500, []⟩, ⟨1600, []⟩] [3, 8, 9, 10] [0, 1, 2] (todo' := loopAt Try.f97 0) (sl := slotsOf 21 [(3, I (chk3 (flL k L i) (L.getD i default).d (0 : Int))), (8, .sl 1 0 1 L.length none), (9, I ((↑L.length : Int))), (10, I ((↑i : Int) + (1 : Int)))]) (hp := [(0, .box (dbox m (flK (flL k L i) (L.getD i default).d))), (1, .ro 1 L.length (rowN encSp (0 : Nat) L)), (2, .ro 1 L.length (rowG encI (endsL L L.length)))]) (ob := [decide ((↑i : Int) < (↑L.length : Int)) = true, (0 : Int) ≤ (↑i : Int) ∧ (↑i : Int) < (↑L.length : Int), i < L.length, MethOK Try.prog "Flush" (AV.ifc (100 : Nat) (AV.agg [AV.ptr (0 : Nat) (0 : Nat) (0 : Nat) (0 : Nat), AV.val (Value.int IntKind.i64 (L.getD i default).d), AV.val (Value.int IntKind.i64 (L.getD i default).s), AV.val (Value.int IntKind.i64 (L.getD i default).n)])) (85 : Nat) (AV.agg [AV.ptr (0 : Nat) (0 : Nat) (0 : Nat) (0 : Nat), AV.val (Value.int IntKind.i64 (L.getD i default).d), AV.val (Value.int IntKind.i64 (L.getD i default).s), AV.val (Value.int IntKind.i64 (L.getD i default).n)]), CallOK Try.prog (85 : Nat) [AV.agg [AV.ptr (0 : Nat) (0 : Nat) (0 : Nat) (0 : Nat), AV.val (Value.int IntKind.i64 (L.getD i default).d), AV.val (Value.int IntKind.i64 (L.getD i default).s), AV.val (Value.int IntKind.i64 (L.getD i default).n)]] [((0 : Nat), Ob.box (dbox m (flL k L i)))] (AV.val (Value.int IntKind.i64 (chk3 (flL k L i) (L.getD i default).d (0 : Int)))) [((0 : Nat), some (Ob.box (dbox m (flK (flL k L i) (L.getD i default).d))))], decide (feL k L i = (0 : Int)) = true, inK IntKind.i64 ((↑i : Int) + (1 : Int))]) rfl rfl (by kernel_rfl) ⟨(decide_eq_true hlt2), (by omega), (by omega), (MethOK.of (by kernel_rfl)), fl, (decide_eq_true h0), (by simp only [inK]; omega), trivial⟩ rfl ⟨rfl, trivial, rfl, fun _ => rfl, rfl, fun _ => rfl, trivial⟩ ?_
        · exact ih1
      · have e1 : feL k L (i + 1) = feL k L i := by simp only [feL]; rw [if_neg h0]
        have ih1 := ih (i + 1) (by omega) (by omega)
        rw [e1] at ih1
        refine Safe.goto mixed 18 [⟨1100, [(0, .tt true)]⟩, ⟨1200, []⟩, ⟨1300, [(1, .inv 85 (.agg [.ptr 0 0 0 0, I ((L.getD i default).d), I ((L.getD i default).s), I ((L.getD i default).n)]) [0] (I (chk3 (flL k L i) (L.getD i default).d (0 : Int))) [(0, some (.box (dbox m (flK (flL k L i) (L.getD i default).d))))])]⟩, ⟨1400, [(1, .tt false)]⟩, ⟨1500, []⟩] [3, 8, 9, 10] [0, 1, 2] (todo' := loopAt Try.f97 0) (sl := slotsOf 21 [(3, I (feL k L i)), (8, .sl 1 0 1 L.length none), (9, I ((↑L.length : Int))), (10, I ((↑i : Int) + (1 : Int)))]) (hp := [(0, .box (dbox m (flK (flL k L i) (L.getD i default).d))), (1, .ro 1 L.length (rowN encSp (0 : Nat) L)), (2, .ro 1 L.length (rowG encI (endsL L L.length)))]) (ob := [decide ((↑i : Int) < (↑L.length : Int)) = true, (0 : Int) ≤ (↑i : Int) ∧ (↑i : Int) < (↑L.length : Int), i < L.length, MethOK Try.prog "Flush" (AV.ifc (100 : Nat) (AV.agg [AV.ptr (0 : Nat) (0 : Nat) (0 : Nat) (0 : Nat), AV.val (Value.int IntKind.i64 (L.getD i default).d), AV.val (Value.int IntKind.i64 (L.getD i default).s), AV.val (Value.int IntKind.i64 (L.getD i default).n)])) (85 : Nat) (AV.agg [AV.ptr (0 : Nat) (0 : Nat) (0 : Nat) (0 : Nat), AV.val (Value.int IntKind.i64 (L.getD i default).d), AV.val (Value.int IntKind.i64 (L.getD i default).s), AV.val (Value.int IntKind.i64 (L.getD i default).n)]), CallOK Try.prog (85 : Nat) [AV.agg [AV.ptr (0 : Nat) (0 : Nat) (0 : Nat) (0 : Nat), AV.val (Value.int IntKind.i64 (L.getD i default).d), AV.val (Value.int IntKind.i64 (L.getD i default).s), AV.val (Value.int IntKind.i64 (L.getD i default).n)]] [((0 : Nat), Ob.box (dbox m (flL k L i)))] (AV.val (Value.int IntKind.i64 (chk3 (flL k L i) (L.getD i default).d (0 : Int)))) [((0 : Nat), some (Ob.box (dbox m (flK (flL k L i) (L.getD i default).d))))], decide (feL k L i = (0 : Int)) = false, inK IntKind.i64 ((↑i : Int) + (1 : Int))]) rfl rfl (by kernel_rfl) ⟨(decide_eq_true hlt2), (by omega), (by omega), (MethOK.of (by kernel_rfl)), fl, (decide_eq_false h0), (by simp only [inK]; omega), trivial⟩ rfl ⟨rfl, trivial, rfl, fun _ => rfl, rfl, fun _ => rfl, trivial⟩ ?_
        · exact ih1
    · have hn : ¬ ((i : Int) < (L.length : Int)) := by omega
      obtain rfl : i = L.length := by omega
      refine Safe.ends mixed Try.func97 7 [⟨1100, [(0, .tt false)]⟩, ⟨1200, []⟩] (r := I (feL k L L.length)) (hp := [(0, .box (dbox m (flL k L L.length))), (1, .ro 1 L.length (rowN encSp (0 : Nat) L)), (2, .ro 1 L.length (rowG encI (endsL L L.length)))]) (ob := [decide ((↑L.length : Int) < (↑L.length : Int)) = false]) rfl (by kernel_rfl) ⟨(decide_eq_false hn), trivial⟩ rfl ⟨ObLe.refl _, ObLe.refl _, ObLe.refl _, trivial⟩ ⟨rfl, trivial, rfl, fun _ => rfl, rfl, fun _ => rfl, trivial⟩ rfl
  · intro H
    refine Safe.goto mixed 9 [⟨1100, []⟩, ⟨1200, []⟩, ⟨1300, []⟩] [3, 8, 9, 10] [0, 1, 2] (todo' := loopAt Try.f97 0) (sl := slotsOf 21 [(3, I 0), (8, .sl 1 0 1 L.length none), (9, I ((↑L.length : Int))), (10, I 0)]) (hp := [(0, .box (dbox m k)), (1, .ro 1 L.length (rowN encSp (0 : Nat) L)), (2, .ro 1 L.length (rowG encI (endsL L L.length)))]) (ob := []) rfl rfl (by kernel_rfl) trivial rfl ⟨rfl, trivial, rfl, fun _ => rfl, rfl, fun _ => rfl, trivial⟩ ?_
    · exact H 0 (Nat.zero_le _)
end Go.Proofs.Ytcoilldcghamdaa
