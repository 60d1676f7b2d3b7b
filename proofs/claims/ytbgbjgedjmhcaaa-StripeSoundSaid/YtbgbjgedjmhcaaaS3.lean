/- Striped devices: sizes. No conditions but those of each theorem. -/
import Derived.Test.YtbgbjgedjmhcaaaSyZ
import Derived.KernelRfl
import Derived.Test.YtbgbjgedjmhcaaaS2
namespace Go.Proofs.Ytbgbjgedjmhcaaa
open Go.RowKit
set_option linter.unusedVariables false
set_option linter.unnecessarySimpa false
set_option linter.unusedSimpArgs false
set_option maxRecDepth 10000
/-- the least of the first numbers -/
def mnF (L : List Int) : Nat → Int
  | 0 => L.getD 0 default
  | k + 1 => min (mnF L k) (L.getD (k + 1) default)
theorem mnF_bd {L : List Int} {b : Int} (h : ∀ j, j < L.length → 0 ≤ L.getD j default ∧ L.getD j default ≤ b) : ∀ k, k < L.length → 0 ≤ mnF L k ∧ mnF L k ≤ b ∧ ∀ j, j ≤ k → mnF L k ≤ L.getD j default
  | 0, hk => ⟨(h 0 hk).1, (h 0 hk).2, fun j hj => by
    obtain rfl : j = 0 := by omega
    exact Int.le_refl _⟩
  | k + 1, hk => by
    obtain ⟨a, b, c⟩ := mnF_bd h k (by omega)
    have := h (k + 1) hk
    refine ⟨by simp only [mnF]; omega, by simp only [mnF]; omega, fun j hj => ?_⟩
    by_cases e : j = k + 1
    · subst e; simp only [mnF]; omega
    · have := c j (by omega); simp only [mnF]; omega
theorem min_any (L : List Int) (h1 : 1 ≤ L.length) (hl : L.length ≤ 100) : CallOK Try.prog 106 [.sl 1 0 1 L.length none] [(1, .ro 1 L.length (rowG encI L))] (I (mnF L (L.length - 1))) [] := by
  refine CallOK.intro Try.call106 Try.func106 rfl rfl ⟨rfl, fun _ => rfl, trivial⟩ ?_
  refine Safe.withLoop (loopAt Try.f106 0) [1] 25 (fun i : Nat => [(0, .sl 1 0 1 L.length none), (3, I (mnF L i)), (4, I (i + 1 : Nat))]) (fun i => [(1, .ro 1 L.length (rowG encI L))]) (fun i => i < L.length) (fun i => L.length - i) ?_ ?_
  · intro i hi ih
    by_cases hlt : i + 1 < L.length
    · have hlt2 : ((i + 1 : Nat) : Int) < (L.length : Int) := by omega
      have e1 : min (mnF L i) (L.getD (i + 1) default) = mnF L (i + 1) := rfl
      refine Safe.goto mixed 11 [⟨1100, [(3, .tt true)]⟩, ⟨1200, []⟩, ⟨1300, []⟩] [0, 3, 4] [1] (todo' := loopAt Try.f106 0) (sl := slotsOf 25 [(0, .sl 1 0 1 L.length none), (3, I (min (mnF L i) (L.getD (i + (1 : Nat)) default))), (4, I ((↑(i + (1 : Nat)) : Int) + (1 : Int)))]) (hp := [(1, .ro 1 L.length (rowG encI L))]) (ob := [decide ((↑(i + (1 : Nat)) : Int) < (↑L.length : Int)) = true, (0 : Int) ≤ (↑(i + (1 : Nat)) : Int) ∧ (↑(i + (1 : Nat)) : Int) < (↑L.length : Int), i + (1 : Nat) < L.length, inK IntKind.i64 ((↑(i + (1 : Nat)) : Int) + (1 : Int))]) rfl rfl (by kernel_rfl) ⟨(decide_eq_true hlt2), (by omega), (by omega), (by simp only [inK]; omega), trivial⟩ rfl ⟨rfl, fun _ => rfl, trivial⟩ ?_
      · exact ih (i + 1) (by omega) (by omega)
    · have hn : ¬ (((i + 1 : Nat) : Int) < (L.length : Int)) := by omega
      obtain rfl : i = L.length - 1 := by omega
      refine Safe.ends mixed Try.func106 7 [⟨1100, [(3, .tt false)]⟩, ⟨1200, []⟩] (r := I (mnF L (L.length - (1 : Nat)))) (hp := [(1, .ro 1 L.length (rowG encI L))]) (ob := [decide ((↑(L.length - (1 : Nat) + (1 : Nat)) : Int) < (↑L.length : Int)) = false]) rfl (by kernel_rfl) ⟨(decide_eq_false hn), trivial⟩ rfl ⟨ObLe.refl _, trivial⟩ ⟨rfl, fun _ => rfl, trivial⟩ rfl
  · intro H
    have h2 : ¬ (L.length : Int) < 1 := by omega
    refine Safe.goto mixed 14 [⟨1100, []⟩, ⟨1200, [(2, .tt false)]⟩, ⟨1300, []⟩, ⟨1400, []⟩] [0, 3, 4] [1] (todo' := loopAt Try.f106 0) (sl := slotsOf 25 [(0, .sl 1 0 1 L.length none), (3, I (L.getD (0 : Nat) default)), (4, I 1)]) (hp := [(1, .ro 1 L.length (rowG encI L))]) (ob := [decide ((↑L.length : Int) < (1 : Int)) = false, (0 : Int) ≤ (0 : Int) ∧ (0 : Int) < (↑L.length : Int), (0 : Nat) < L.length]) rfl rfl (by kernel_rfl) ⟨(decide_eq_false h2), (by omega), (by omega), trivial⟩ rfl ⟨rfl, fun _ => rfl, trivial⟩ ?_
    · exact H 0 (by omega)
theorem stsize_ok (c : Int) (L : List Int) (hc1 : c ≥ 1) (hc2 : c ≤ 65536) (h1 : 1 ≤ L.length) (h6 : L.length ≤ 6) (hL : ∀ j, j < L.length → 0 ≤ L.getD j default ∧ L.getD j default ≤ 1073741824) :
    CallOK Try.prog 72 [I c, .sl 1 0 1 L.length none] [(1, .ro 1 L.length (rowG encI L))] (.tup [I (mnF L (L.length - 1) / c * c * L.length), I 0]) [] := by
  refine CallOK.intro Try.call72 Try.func72 rfl rfl ⟨rfl, fun _ => rfl, trivial⟩ ?_
  have vo := valid_ok c L.length hc1 hc2 (by omega) (by omega)
  refine Safe.withLoop (loopAt Try.f72 0) [1, 20] 35 (fun i : Nat => [(0, I c), (1, .sl 1 0 1 L.length none), (6, .ptr 20 0 0 0), (16, .sl 1 0 1 L.length none), (17, I L.length), (18, I i)]) (fun i => [(1, .ro 1 L.length (rowG encI L)), (20, .blk 125 [I c, I L.length])]) (fun i => i ≤ L.length) (fun i => L.length - i) ?_ ?_
  · intro i hi ih
    by_cases hlt : i < L.length
    · have hlt2 : (i : Int) < (L.length : Int) := by omega
      have wi := within_any (L.getD i default) 1073741824
      rw [decide_eq_true (hL i hlt)] at wi
      refine Safe.goto mixed 16 [⟨1100, [(0, .tt true)]⟩, ⟨1200, []⟩, ⟨1300, [(1, .call [] (B true) [])]⟩, ⟨1400, []⟩] [0, 1, 6, 16, 17, 18] [1, 20] (todo' := loopAt Try.f72 0) (sl := slotsOf 35 [(0, I c), (1, .sl 1 0 1 L.length none), (6, .ptr 20 0 0 0), (16, .sl 1 0 1 L.length none), (17, I ((↑L.length : Int))), (18, I ((↑i : Int) + (1 : Int)))]) (hp := [(1, .ro 1 L.length (rowG encI L)), (20, .blk 125 [I c, I ((↑L.length : Int))])]) (ob := [decide ((↑i : Int) < (↑L.length : Int)) = true, (0 : Int) ≤ (↑i : Int) ∧ (↑i : Int) < (↑L.length : Int), i < L.length, CallOK Try.prog (104 : Nat) ([] ++ [AV.val (Value.int IntKind.i64 (L.getD i default)), ofV (Value.int IntKind.i64 (1073741824 : Int))] ++ []) [] (AV.val (Value.bool true)) [], inK IntKind.i64 ((↑i : Int) + (1 : Int))]) rfl rfl (by kernel_rfl) ⟨(decide_eq_true hlt2), (by omega), (by omega), wi, (by simp only [inK]; omega), trivial⟩ rfl ⟨rfl, fun _ => rfl, rfl, rfl, trivial⟩ ?_
      · exact ih (i + 1) (by omega) (by omega)
    · have hn : ¬ ((i : Int) < (L.length : Int)) := by omega
      obtain rfl : i = L.length := by omega
      have mi := min_any L h1 (by omega)
      obtain ⟨m1, m2, _⟩ := mnF_bd hL (L.length - 1) (by omega)
      generalize mnF L (L.length - 1) = M at mi m1 m2
      have d1 : 0 ≤ M / c ∧ M / c ≤ M := ⟨Int.ediv_nonneg m1 (by omega), Int.ediv_le_self _ m1⟩
      have d2 : 0 ≤ M / c * c ∧ M / c * c ≤ M := ⟨Int.mul_nonneg d1.1 (by omega), Int.ediv_mul_le _ (by omega)⟩
      have d3 : 0 ≤ M / c * c * (L.length : Int) ∧ M / c * c * (L.length : Int) ≤ 1073741824 * 6 := ⟨Int.mul_nonneg d2.1 (by omega), Int.mul_le_mul (by omega) (by omega) (by omega) (by omega)⟩
      refine Safe.ends mixed Try.func72 7 [⟨1100, [(0, .tt false)]⟩, ⟨1200, [(1, .call [1] (I M) [])]⟩] (r := .tup [I (M / c * c * (↑L.length : Int)), I 0]) (hp := [(1, .ro 1 L.length (rowG encI L))]) (ob := [decide ((↑L.length : Int) < (↑L.length : Int)) = false, CallOK Try.prog (106 : Nat) ([] ++ [AV.sl (1 : Nat) (0 : Nat) (1 : Nat) L.length none] ++ []) [((1 : Nat), Ob.ro (1 : Nat) L.length (rowG encI L))] (AV.val (Value.int IntKind.i64 M)) [], (0 : Int) ≤ M ∧ (0 : Int) < c, inK IntKind.i64 (M / c), inK IntKind.i64 (M / c * c), inK IntKind.i64 (M / c * c * (↑L.length : Int))]) rfl (by kernel_rfl) ⟨(decide_eq_false hn), mi, (by omega), (by simp only [inK]; omega), (by simp only [inK]; omega), (by simp only [inK]; omega), trivial⟩ rfl ⟨ObLe.refl _, trivial⟩ ⟨rfl, fun _ => rfl, trivial⟩ rfl
  · intro H
    refine Safe.goto mixed 14 [⟨1100, []⟩, ⟨1200, []⟩, ⟨1300, [(1, .call [] (B true) [])]⟩, ⟨1400, []⟩] [0, 1, 6, 16, 17, 18] [1, 1204] (todo' := loopAt Try.f72 0) (sl := slotsOf 35 [(0, I c), (1, .sl 1 0 1 L.length none), (6, .ptr 1204 0 0 0), (16, .sl 1 0 1 L.length none), (17, I ((↑L.length : Int))), (18, I 0)]) (hp := [(1, .ro 1 L.length (rowG encI L)), (1204, .blk 125 [I c, I ((↑L.length : Int))])]) (ob := [CallOK Try.prog (103 : Nat) ([] ++ [AV.agg [AV.val (Value.int IntKind.i64 c), AV.val (Value.int IntKind.i64 (↑L.length : Int))]] ++ []) [] (AV.val (Value.bool true)) []]) rfl rfl (by kernel_rfl) ⟨vo, trivial⟩ rfl ⟨rfl, fun _ => rfl, rfl, rfl, trivial⟩ ?_
    refine Safe.ren [(1204, 20)] rfl rfl rfl rfl ⟨rfl, fun _ => rfl, rfl, rfl, trivial⟩ ?_
    · exact H 0 (by omega)
theorem stsize_no (c : Int) (hc1 : c ≥ 1) (hc2 : c ≤ 65536) :
    CallOK Try.prog 72 [I c, .val (.slice none 0 0)] [] (.tup [I 0, I 1]) [] := by
  refine CallOK.intro Try.call72 Try.func72 rfl rfl trivial ?_
  have vo := valid_no c 0 hc1 hc2 (by omega)
  refine Safe.ends mixed Try.func72 10 [⟨100, []⟩, ⟨200, []⟩, ⟨300, [(1, .call [] (B false) [])]⟩, ⟨400, []⟩] (r := .tup [I 0, I 1]) (hp := []) (ob := [CallOK Try.prog (103 : Nat) ([] ++ [AV.agg [AV.val (Value.int IntKind.i64 c), AV.val (Value.int IntKind.i64 (↑(0 : Nat) : Int))]] ++ []) [] (AV.val (Value.bool false)) []]) rfl (by kernel_rfl) ⟨vo, trivial⟩ rfl trivial trivial rfl
end Go.Proofs.Ytbgbjgedjmhcaaa
