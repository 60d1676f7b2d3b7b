/- Striped devices: places, sizes, New. No conditions but those of each theorem. -/
import Derived.Test.YtbgbjgedjmhcaaaSyZ
import Derived.KernelRfl
import Derived.Test.YtbgbjgedjmhcaaaD3
namespace Go.Proofs.Ytbgbjgedjmhcaaa
def plS (c K : Nat) (i : Nat) : Nat × Nat := (i / c % K, i / c / K * c + i % c)
/-- the arithmetic of places -/
theorem pl_facts (c K i : Nat) (hc : 1 ≤ c) (hK : 1 ≤ K) : (i : Int) / (c : Int) = ((i / c : Nat) : Int) ∧ (i : Int) % (c : Int) = ((i % c : Nat) : Int) ∧ ((i / c : Nat) : Int) % (K : Int) = ((i / c % K : Nat) : Int) ∧ ((i / c : Nat) : Int) / (K : Int) = ((i / c / K : Nat) : Int) ∧ ((i / c / K : Nat) : Int) * (c : Int) = ((i / c / K * c : Nat) : Int) ∧
    i / c ≤ i ∧ i % c < c ∧ i / c % K < K ∧ i / c / K * c ≤ i ∧ i / c / K * c + i % c ≤ i := by
  have h1 := Nat.div_le_self i c
  have h2 := Nat.mod_lt i hc
  have h3 : i / c / K * c ≤ i / c * c := Nat.mul_le_mul_right c (Nat.div_le_self _ _)
  have h4 := Nat.div_add_mod i c
  rw [Nat.mul_comm] at h4
  exact ⟨(Int.natCast_ediv ..).symm, (Int.natCast_emod ..).symm, (Int.natCast_emod ..).symm, (Int.natCast_ediv ..).symm, (Int.natCast_mul ..).symm, h1, h2, Nat.mod_lt _ hK, by omega, by omega⟩
end Go.Proofs.Ytbgbjgedjmhcaaa
namespace Go.Proofs.Ytbgbjgedjmhcaaa
open Go.RowKit
set_option linter.unusedVariables false
set_option linter.unnecessarySimpa false
set_option linter.unusedSimpArgs false
set_option maxRecDepth 10000
theorem within_any (a b : Int) : CallOK Try.prog 104 [I a, I b] [] (B (decide (0 ≤ a ∧ a ≤ b))) [] := by
  refine CallOK.intro Try.call104 Try.func104 rfl rfl trivial ?_
  refine (Classical.em (a ≥ (0 : Int))).elim (fun hc1 => ?ga0) (fun hc1 => ?gb0)
  case' gb0 =>
    refine Safe.ends mixed Try.func104 4 [⟨100, []⟩, ⟨200, [(1, .tt false)]⟩] (r := B false) (hp := []) (ob := [decide (a ≥ (0 : Int)) = false]) rfl (by kernel_rfl) ⟨(decide_eq_false hc1), trivial⟩ ?_ trivial trivial rfl
  case' ga0 =>
    refine Safe.ends mixed Try.func104 4 [⟨100, []⟩, ⟨200, [(1, .tt true)]⟩] (r := B (decide (a ≤ b))) (hp := []) (ob := [decide (a ≥ (0 : Int)) = true]) rfl (by kernel_rfl) ⟨(decide_eq_true hc1), trivial⟩ ?_ trivial trivial rfl
  · rw [show decide (a ≤ b) = decide (0 ≤ a ∧ a ≤ b) from decide_eq_decide.2 (by omega)]; rfl
  · rw [decide_eq_false (show ¬ (0 ≤ a ∧ a ≤ b) by omega)]; rfl
theorem valid_ok (c K : Int) (h1 : c ≥ 1) (h2 : c ≤ 65536) (h3 : K ≥ 1) (h4 : K ≤ 6) : CallOK Try.prog 103 [.agg [I c, I K]] [] (B true) [] := by
  refine CallOK.intro Try.call103 Try.func103 rfl rfl trivial ?_
  refine Safe.ends mixed Try.func103 4 [⟨100, []⟩, ⟨200, [(2, .tt true), (6, .tt true), (11, .tt true)]⟩] (r := B (decide (K ≤ (6 : Int)))) (hp := []) (ob := [decide (c ≥ (1 : Int)) = true, decide (c ≤ (65536 : Int)) = true, decide (K ≥ (1 : Int)) = true]) rfl (by kernel_rfl) ⟨(decide_eq_true h1), (decide_eq_true h2), (decide_eq_true h3), trivial⟩ ?_ trivial trivial rfl
  · rw [decide_eq_true h4]; rfl
theorem valid_no (c K : Int) (h1 : c ≥ 1) (h2 : c ≤ 65536) (h3 : ¬ K ≥ 1) : CallOK Try.prog 103 [.agg [I c, I K]] [] (B false) [] := by
  refine CallOK.intro Try.call103 Try.func103 rfl rfl trivial ?_
  refine Safe.ends mixed Try.func103 4 [⟨100, []⟩, ⟨200, [(2, .tt true), (6, .tt true), (11, .tt false)]⟩] (r := B false) (hp := []) (ob := [decide (c ≥ (1 : Int)) = true, decide (c ≤ (65536 : Int)) = true, decide (K ≥ (1 : Int)) = false]) rfl (by kernel_rfl) ⟨(decide_eq_true h1), (decide_eq_true h2), (decide_eq_false h3), trivial⟩ rfl trivial trivial rfl
theorem lplace_any (c K i : Nat) (hc : 1 ≤ c ∧ c ≤ 65536) (hK : 1 ≤ K ∧ K ≤ 6) (hi : i ≤ 1073741824) : CallOK Try.prog 105 [.agg [I c, I K], I i] [] (.tup [I ((plS c K i).1 : Nat), I ((plS c K i).2 : Nat)]) [] := by
  refine CallOK.intro Try.call105 Try.func105 rfl rfl trivial ?_
  obtain ⟨f1, f2, f3, f4, f5, f6, f7, f8, f9, fa⟩ := pl_facts c K i hc.1 hK.1
  have n1 : ((plS c K i).1 : Int) = ((i : Int) / c) % K := by rw [f1, f3]; rfl
  have n2 : ((plS c K i).2 : Int) = ((i : Int) / c) / K * c + (i : Int) % c := by rw [f1, f4, f5, f2]; rfl
  have b1 : 0 ≤ (i : Int) / c ∧ (i : Int) / c ≤ i := by rw [f1]; exact ⟨Int.natCast_nonneg _, Int.ofNat_le.2 f6⟩
  have b2 : 0 ≤ (i : Int) % c ∧ (i : Int) % c < c := by rw [f2]; exact ⟨Int.natCast_nonneg _, Int.ofNat_lt.2 f7⟩
  have b3 : 0 ≤ ((i : Int) / c) % K ∧ ((i : Int) / c) % K < K := by rw [f1, f3]; exact ⟨Int.natCast_nonneg _, Int.ofNat_lt.2 f8⟩
  have b4 : 0 ≤ ((i : Int) / c) / K ∧ ((i : Int) / c) / K ≤ i := by rw [f1, f4]; exact ⟨Int.natCast_nonneg _, Int.ofNat_le.2 (Nat.le_trans (Nat.div_le_self _ _) f6)⟩
  have b5 : 0 ≤ ((i : Int) / c) / K * c ∧ ((i : Int) / c) / K * c ≤ i := by rw [f1, f4, f5]; exact ⟨Int.natCast_nonneg _, Int.ofNat_le.2 f9⟩
  have b6 : ((i : Int) / c) / K * c + (i : Int) % c ≤ i := by rw [f1, f4, f5, f2, ← Int.natCast_add]; exact Int.ofNat_le.2 fa
  rw [n1, n2]
  clear f1 f2 f3 f4 f5 n1 n2
  refine Safe.ends mixed Try.func105 6 [⟨100, []⟩, ⟨200, []⟩, ⟨300, []⟩] (r := .tup [I ((↑i : Int) / (↑c : Int) % (↑K : Int)), I ((↑i : Int) / (↑c : Int) / (↑K : Int) * (↑c : Int) + (↑i : Int) % (↑c : Int))]) (hp := []) (ob := [(0 : Int) ≤ (↑i : Int) ∧ (0 : Int) < (↑c : Int), inK IntKind.i64 ((↑i : Int) / (↑c : Int)), (0 : Int) ≤ (↑i : Int) / (↑c : Int) ∧ (0 : Int) < (↑K : Int), (0 : Int) ≤ (↑i : Int) / (↑c : Int) ∧ (0 : Int) < (↑K : Int), inK IntKind.i64 ((↑i : Int) / (↑c : Int) / (↑K : Int)), inK IntKind.i64 ((↑i : Int) / (↑c : Int) / (↑K : Int) * (↑c : Int)), (0 : Int) ≤ (↑i : Int) ∧ (0 : Int) < (↑c : Int), inK IntKind.i64 ((↑i : Int) / (↑c : Int) / (↑K : Int) * (↑c : Int) + (↑i : Int) % (↑c : Int))]) rfl (by kernel_rfl) ⟨(by omega), (by simp only [inK]; omega), (by omega), (by omega), (by simp only [inK]; omega), (by simp only [inK]; omega), (by omega), (by simp only [inK]; omega), trivial⟩ rfl trivial trivial rfl
end Go.Proofs.Ytbgbjgedjmhcaaa
