/- Striped devices: the reference; the sanity check. No conditions but those of each theorem. -/
import Derived.Test.YtbgbjgedjmhcaaaSyZ
import Derived.KernelRfl
import Derived.Test.YtbgbjgedjmhcaaaS6
namespace Go.Proofs.Ytbgbjgedjmhcaaa
open Go.RowKit
set_option linter.unusedVariables false
set_option linter.unnecessarySimpa false
set_option linter.unusedSimpArgs false
set_option maxRecDepth 10000
def lsF (L : List Int) : Nat → Int
  | 0 => 1073741824
  | k + 1 => min (lsF L k) (L.getD k default)
theorem lsF_mn {L : List Int} (h : ∀ j, j < L.length → 0 ≤ L.getD j default ∧ L.getD j default ≤ 1073741824) : ∀ k, k < L.length → lsF L (k + 1) = mnF L k
  | 0, hk => by
    have := h 0 hk
    simp only [lsF, mnF]; omega
  | k + 1, hk => by
    have := lsF_mn h k (by omega)
    rw [lsF, this, mnF]
theorem rsize_ok (c : Int) (L : List Int) (hc1 : c ≥ 1) (hc2 : c ≤ 65536) (h1 : 1 ≤ L.length) (h6 : L.length ≤ 6) (hL : ∀ j, j < L.length → 0 ≤ L.getD j default ∧ L.getD j default ≤ 1073741824) :
    CallOK Try.prog 37 [I c, .sl 1 0 1 L.length none] [(1, .ro 1 L.length (rowG encI L))] (.tup [I (mnF L (L.length - 1) / c * c * L.length), I 0]) [] := by
  refine CallOK.intro Try.call37 Try.func37 rfl rfl ⟨rfl, fun _ => rfl, trivial⟩ ?_
  refine Safe.withLoop (loopAt Try.f37 0) [1] 56 (fun i : Nat => [(0, I c), (1, .sl 1 0 1 L.length none), (6, I (lsF L i)), (7, I i)]) (fun i => [(1, .ro 1 L.length (rowG encI L))]) (fun i => i ≤ L.length) (fun i => L.length - i) ?_ ?_
  · intro i hi ih
    by_cases hlt : i < L.length
    · have hlt2 : (i : Int) < (L.length : Int) := by omega
      have hb := hL i hlt
      have e1 : min (lsF L i) (L.getD i default) = lsF L (i + 1) := rfl
      have q1 : ¬ L.getD i default < 0 := by omega
      have q2 : ¬ L.getD i default > 1073741824 := by omega
      refine Safe.goto mixed 16 [⟨1100, [(3, .tt true)]⟩, ⟨1200, [(4, .tt false), (10, .tt false)]⟩, ⟨1300, []⟩, ⟨1400, []⟩] [0, 1, 6, 7] [1] (todo' := loopAt Try.f37 0) (sl := slotsOf 56 [(0, I c), (1, .sl 1 0 1 L.length none), (6, I (min (lsF L i) (L.getD i default))), (7, I ((↑i : Int) + (1 : Int)))]) (hp := [(1, .ro 1 L.length (rowG encI L))]) (ob := [decide ((↑i : Int) < (↑L.length : Int)) = true, (0 : Int) ≤ (↑i : Int) ∧ (↑i : Int) < (↑L.length : Int), i < L.length, decide (L.getD i default < (0 : Int)) = false, (0 : Int) ≤ (↑i : Int) ∧ (↑i : Int) < (↑L.length : Int), i < L.length, decide (L.getD i default > (1073741824 : Int)) = false, (0 : Int) ≤ (↑i : Int) ∧ (↑i : Int) < (↑L.length : Int), i < L.length, inK IntKind.i64 ((↑i : Int) + (1 : Int))]) rfl rfl (by kernel_rfl) ⟨(decide_eq_true hlt2), (by omega), (by omega), (decide_eq_false q1), (by omega), (by omega), (decide_eq_false q2), (by omega), (by omega), (by simp only [inK]; omega), trivial⟩ rfl ⟨rfl, fun _ => rfl, trivial⟩ ?_
      · exact ih (i + 1) (by omega) (by omega)
    · have hn : ¬ ((i : Int) < (L.length : Int)) := by omega
      obtain rfl : i = L.length := by omega
      have e2 : lsF L L.length = mnF L (L.length - 1) := by
        have := lsF_mn hL (L.length - 1) (by omega)
        rwa [show L.length - 1 + 1 = L.length by omega] at this
      obtain ⟨m1, m2, _⟩ := mnF_bd hL (L.length - 1) (by omega)
      rw [e2]
      clear e2
      generalize mnF L (L.length - 1) = M at m1 m2
      have d1 : 0 ≤ M / c ∧ M / c ≤ M := ⟨Int.ediv_nonneg m1 (by omega), Int.ediv_le_self _ m1⟩
      have d2 : 0 ≤ M / c * c ∧ M / c * c ≤ M := ⟨Int.mul_nonneg d1.1 (by omega), Int.ediv_mul_le _ (by omega)⟩
      have e3 : M / c * c * (L.length : Int) = (L.length : Int) * (M / c * c) := Int.mul_comm ..
      have d3 : 0 ≤ (L.length : Int) * (M / c * c) ∧ (L.length : Int) * (M / c * c) ≤ 1073741824 * 6 := by
        rw [← e3]
        exact ⟨Int.mul_nonneg d2.1 (by omega), Int.mul_le_mul (by omega) (by omega) (by omega) (by omega)⟩
      rw [e3]
      refine Safe.ends mixed Try.func37 7 [⟨1100, [(3, .tt false)]⟩, ⟨1200, []⟩] (r := .tup [I ((↑L.length : Int) * (M / c * c)), I 0]) (hp := [(1, .ro 1 L.length (rowG encI L))]) (ob := [decide ((↑L.length : Int) < (↑L.length : Int)) = false, (0 : Int) ≤ M ∧ (0 : Int) < c, inK IntKind.i64 (M / c), inK IntKind.i64 (M / c * c), inK IntKind.i64 ((↑L.length : Int) * (M / c * c))]) rfl (by kernel_rfl) ⟨(decide_eq_false hn), (by omega), (by simp only [inK]; omega), (by simp only [inK]; omega), (by simp only [inK]; omega), trivial⟩ rfl ⟨ObLe.refl _, trivial⟩ ⟨rfl, fun _ => rfl, trivial⟩ rfl
  · intro H
    have h3 : ¬ c < 1 := by omega
    have h4 : ¬ c > 65536 := by omega
    have h5 : ¬ (L.length : Int) < 1 := by omega
    have h7 : ¬ (L.length : Int) > 6 := by omega
    refine Safe.goto mixed 14 [⟨1100, []⟩, ⟨1200, [(1, .tt false), (4, .tt false), (9, .tt false), (14, .tt false)]⟩, ⟨1300, []⟩, ⟨1400, []⟩] [0, 1, 6, 7] [1] (todo' := loopAt Try.f37 0) (sl := slotsOf 56 [(0, I c), (1, .sl 1 0 1 L.length none), (6, I 1073741824), (7, I 0)]) (hp := [(1, .ro 1 L.length (rowG encI L))]) (ob := [decide (c < (1 : Int)) = false, decide (c > (65536 : Int)) = false, decide ((↑L.length : Int) < (1 : Int)) = false, decide ((↑L.length : Int) > (6 : Int)) = false]) rfl rfl (by kernel_rfl) ⟨(decide_eq_false h3), (decide_eq_false h4), (decide_eq_false h5), (decide_eq_false h7), trivial⟩ rfl ⟨rfl, fun _ => rfl, trivial⟩ ?_
    · exact H 0 (by omega)
theorem rsize_no (c : Int) (hc1 : c ≥ 1) (hc2 : c ≤ 65536) : CallOK Try.prog 37 [I c, .val (.slice none 0 0)] [] (.tup [I 0, I 1]) [] := by
  refine CallOK.intro Try.call37 Try.func37 rfl rfl trivial ?_
  have h3 : ¬ c < 1 := by omega
  have h4 : ¬ c > 65536 := by omega
  refine Safe.ends mixed Try.func37 8 [⟨100, []⟩, ⟨200, [(1, .tt false), (4, .tt false)]⟩, ⟨300, []⟩] (r := .tup [I 0, I 1]) (hp := []) (ob := [decide (c < (1 : Int)) = false, decide (c > (65536 : Int)) = false]) rfl (by kernel_rfl) ⟨(decide_eq_false h3), (decide_eq_false h4), trivial⟩ rfl trivial trivial rfl
theorem rplace_any (c K i lg o : Nat) (hc : 1 ≤ c ∧ c ≤ 65536) (hK : 1 ≤ K ∧ K ≤ 6) (hi : i ≤ 1073741824) (g1 : (plS c K i).1 = lg) (g2 : (plS c K i).2 = o) : CallOK Try.prog 38 [I c, I K, I i] [] (.tup [I (lg : Nat), I (o : Nat), I 0]) [] := by
  refine CallOK.intro Try.call38 Try.func38 rfl rfl trivial ?_
  obtain ⟨f1, f2, f3, f4, f5, f6, f7, f8, f9, fa⟩ := pl_facts c K i hc.1 hK.1
  have n1 : (lg : Int) = ((i : Int) / c) % K := by rw [f1, f3, ← g1]; rfl
  have n2 : (o : Int) = ((i : Int) / c) / K * c + (i : Int) % c := by rw [f1, f4, f5, f2, ← g2]; rfl
  have b1 : 0 ≤ (i : Int) / c ∧ (i : Int) / c ≤ i := by rw [f1]; exact ⟨Int.natCast_nonneg _, Int.ofNat_le.2 f6⟩
  have b2 : 0 ≤ (i : Int) % c ∧ (i : Int) % c < c := by rw [f2]; exact ⟨Int.natCast_nonneg _, Int.ofNat_lt.2 f7⟩
  have b3 : 0 ≤ ((i : Int) / c) % K ∧ ((i : Int) / c) % K < K := by rw [f1, f3]; exact ⟨Int.natCast_nonneg _, Int.ofNat_lt.2 f8⟩
  have b4 : 0 ≤ ((i : Int) / c) / K ∧ ((i : Int) / c) / K ≤ i := by rw [f1, f4]; exact ⟨Int.natCast_nonneg _, Int.ofNat_le.2 (Nat.le_trans (Nat.div_le_self _ _) f6)⟩
  have b5 : 0 ≤ ((i : Int) / c) / K * c ∧ ((i : Int) / c) / K * c ≤ i := by rw [f1, f4, f5]; exact ⟨Int.natCast_nonneg _, Int.ofNat_le.2 f9⟩
  have b6 : ((i : Int) / c) / K * c + (i : Int) % c ≤ i := by rw [f1, f4, f5, f2, ← Int.natCast_add]; exact Int.ofNat_le.2 fa
  have q1 : ¬ (c : Int) < 1 := by omega
  have q2 : ¬ (c : Int) > 65536 := by omega
  have q3 : ¬ (K : Int) < 1 := by omega
  have q4 : ¬ (K : Int) > 6 := by omega
  have q5 : ¬ (i : Int) < 0 := by omega
  have q6 : ¬ (i : Int) > 1073741824 := by omega
  rw [n1, n2]
  clear f1 f2 f3 f4 f5 n1 n2
  refine Safe.ends mixed Try.func38 11 [⟨100, []⟩, ⟨200, [(1, .tt false), (4, .tt false), (8, .tt false), (12, .tt false), (20, .tt false)]⟩, ⟨300, []⟩, ⟨400, []⟩] (r := .tup [I ((↑i : Int) / (↑c : Int) % (↑K : Int)), I ((↑i : Int) / (↑c : Int) / (↑K : Int) * (↑c : Int) + (↑i : Int) % (↑c : Int)), I 0]) (hp := []) (ob := [decide ((↑c : Int) < (1 : Int)) = false, decide ((↑c : Int) > (65536 : Int)) = false, decide ((↑K : Int) < (1 : Int)) = false, decide ((↑K : Int) > (6 : Int)) = false, decide ((↑i : Int) > (1073741824 : Int)) = false, (0 : Int) ≤ (↑i : Int) ∧ (0 : Int) < (↑c : Int), inK IntKind.i64 ((↑i : Int) / (↑c : Int)), (0 : Int) ≤ (↑i : Int) / (↑c : Int) ∧ (0 : Int) < (↑K : Int), (0 : Int) ≤ (↑i : Int) / (↑c : Int) ∧ (0 : Int) < (↑K : Int), inK IntKind.i64 ((↑i : Int) / (↑c : Int) / (↑K : Int)), inK IntKind.i64 ((↑i : Int) / (↑c : Int) / (↑K : Int) * (↑c : Int)), (0 : Int) ≤ (↑i : Int) ∧ (0 : Int) < (↑c : Int), inK IntKind.i64 ((↑i : Int) / (↑c : Int) / (↑K : Int) * (↑c : Int) + (↑i : Int) % (↑c : Int))]) rfl (by kernel_rfl) ⟨(decide_eq_false q1), (decide_eq_false q2), (decide_eq_false q3), (decide_eq_false q4), (decide_eq_false q6), (by omega), (by simp only [inK]; omega), (by omega), (by omega), (by simp only [inK]; omega), (by simp only [inK]; omega), (by omega), (by simp only [inK]; omega), trivial⟩ rfl trivial trivial rfl
theorem spl429 : CallOK Try.prog 71 [I 4, I 2, I 9] [] (.tup [I 0, I 5, I 0]) [] := by
  refine CallOK.intro Try.call71 Try.func71 rfl rfl trivial ?_
  have vo := valid_ok 4 2 (by omega) (by omega) (by omega) (by omega)
  have wi := within_any 9 1073741824
  rw [decide_eq_true (show (0 : Int) ≤ 9 ∧ (9 : Int) ≤ 1073741824 by omega)] at wi
  have lp : CallOK Try.prog 105 [.agg [I 4, I 2], I 9] [] (.tup [I 0, I 5]) [] := lplace_any 4 2 9 (by omega) (by omega) (by omega)
  refine Safe.ends mixed Try.func71 13 [⟨100, []⟩, ⟨200, []⟩, ⟨300, [(1, .call [] (B true) []), (5, .call [] (B true) [])]⟩, ⟨400, [(2, .call [] (.tup [I 0, I 5]) [])]⟩, ⟨500, []⟩] (r := .tup [I 0, I 5, I 0]) (hp := []) (ob := [CallOK Try.prog (103 : Nat) ([] ++ [AV.agg [AV.val (Value.int IntKind.i64 (4 : Int)), AV.val (Value.int IntKind.i64 (2 : Int))]] ++ []) [] (AV.val (Value.bool true)) [], CallOK Try.prog (104 : Nat) ([] ++ [AV.val (Value.int IntKind.i64 (9 : Int)), ofV (Value.int IntKind.i64 (1073741824 : Int))] ++ []) [] (AV.val (Value.bool true)) [], CallOK Try.prog (105 : Nat) ([] ++ [AV.agg [AV.val (Value.int IntKind.i64 (4 : Int)), AV.val (Value.int IntKind.i64 (2 : Int))], AV.val (Value.int IntKind.i64 (9 : Int))] ++ []) [] (AV.tup [AV.val (Value.int IntKind.i64 (0 : Int)), AV.val (Value.int IntKind.i64 (5 : Int))]) []]) rfl (by kernel_rfl) ⟨vo, wi, lp, trivial⟩ rfl trivial trivial rfl
theorem sawake_any : CallOK Try.prog 34 [] [] (B true) [] := by
  refine CallOK.intro Try.call34 Try.func34 rfl rfl trivial ?_
  have so : CallOK Try.prog 72 [I 4, .sl 1 0 1 2 none] [(1, .ro 1 2 (rowG encI [10, 8]))] (.tup [I 16, I 0]) [] := stsize_ok 4 [10, 8] (by omega) (by omega) (by decide) (by decide) (fun j hj => by
    have : j = 0 ∨ j = 1 := by simp at hj; omega
    rcases this with rfl | rfl <;> decide)
  have so : CallOK Try.prog 72 [I 4, .sl 1 0 1 2 none] [(1, .ro 1 2 (rowsOf [I 10, I 8] 1))] (.tup [I 16, I 0]) [] := so.sim fun id => by
    simp only [find]
    split
    · exact ⟨⟨rfl, rfl, fun q hq => match q, hq with | 0, _ | 1, _ => rfl⟩, ⟨rfl, rfl, fun q hq => match q, hq with | 0, _ | 1, _ => rfl⟩⟩
    · exact OSim.refl _
  refine Safe.ends mixed Try.func34 8 [⟨100, []⟩, ⟨200, [(0, .call [] (.tup [I 0, I 5, I 0]) [])]⟩, ⟨300, [(1, .call [300] (.tup [I 16, I 0]) [])]⟩, ⟨400, []⟩] (r := B true) (hp := []) (ob := [CallOK Try.prog (71 : Nat) ([] ++ [ofV (Value.int IntKind.i64 (4 : Int)), ofV (Value.int IntKind.i64 (2 : Int)), ofV (Value.int IntKind.i64 (9 : Int))] ++ []) [] (AV.tup [AV.val (Value.int IntKind.i64 (0 : Int)), AV.val (Value.int IntKind.i64 (5 : Int)), AV.val (Value.int IntKind.i64 (0 : Int))]) [], CallOK Try.prog (72 : Nat) ([] ++ [ofV (Value.int IntKind.i64 (4 : Int)), AV.sl (300 : Nat) (0 : Nat) (1 : Nat) (2 : Nat) none] ++ []) [((300 : Nat), Ob.vec (3 : Nat) (1 : Nat) (2 : Nat) (rowsOf [AV.val (Value.int IntKind.i64 (10 : Int)), AV.val (Value.int IntKind.i64 (8 : Int))] (1 : Nat)))] (AV.tup [AV.val (Value.int IntKind.i64 (16 : Int)), AV.val (Value.int IntKind.i64 (0 : Int))]) []]) rfl (by kernel_rfl) ⟨spl429, (CallOK.simR (CallOK.ren (CallOK.own 3 1 (es := (1 : Nat)) (n := (2 : Nat)) (row := rowsOf [I (10 : Int), I (8 : Int)] (1 : Nat)) rfl rfl rfl so) [(1, 300)] [1] rfl rfl rfl rfl ⟨rfl, closed_rows rfl, trivial⟩ rfl ⟨rfl, closed_rows rfl, trivial⟩) (HpSim.cons rfl (OSim.rowsV rfl) HpSim.nil)), trivial⟩ rfl trivial trivial rfl
end Go.Proofs.Ytbgbjgedjmhcaaa
