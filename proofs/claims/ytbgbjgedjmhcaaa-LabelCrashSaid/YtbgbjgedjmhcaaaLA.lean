/- Labels: which numbers fit. No conditions but those of each theorem. -/
import Derived.Test.YtbgbjgedjmhcaaaSyZ
import Derived.KernelRfl
import Derived.Test.YtbgbjgedjmhcaaaD3
namespace Go.Proofs.Ytbgbjgedjmhcaaa
open Go.RowKit
set_option linter.unusedVariables false
set_option linter.unnecessarySimpa false
set_option linter.unusedSimpArgs false
set_option maxRecDepth 10000
/-- the numbers of a label fit -/
def lbOK (s t a : Int) : Prop := 1 ≤ s ∧ s ≤ 65536 ∧ 8 ≤ t ∧ 4 ≤ a ∧ t ≤ s ∧ a ≤ s - t
instance (s t a : Int) : Decidable (lbOK s t a) := by unfold lbOK; infer_instance
def chkF (s t a : Int) : Int := if lbOK s t a then 0 else 1
theorem chk_any (i s t a g : Int) : CallOK Try.prog 17 [.agg [U i, I s, I t, I a, U g]] [] (I (chkF s t a)) [] := by
  refine CallOK.intro Try.call17 Try.func17 rfl rfl trivial ?_
  have k1 : ∀ h : lbOK s t a, chkF s t a = 0 := fun h => if_pos h
  have k2 : ∀ h : ¬ lbOK s t a, chkF s t a = 1 := fun h => if_neg h
  unfold lbOK at k1 k2
  refine (Classical.em (s < (1 : Int))).elim (fun hc1 => ?ga0) (fun hc1 => ?gb0)
  case' gb0 =>
    refine (Classical.em (s > (65536 : Int))).elim (fun hc2 => ?ga1) (fun hc2 => ?gb1)
    case' gb1 =>
      refine (Classical.em (t < (8 : Int))).elim (fun hc3 => ?ga2) (fun hc3 => ?gb2)
      case' gb2 =>
        refine (Classical.em (a < (4 : Int))).elim (fun hc4 => ?ga3) (fun hc4 => ?gb3)
        case' gb3 =>
          refine (Classical.em (t > s)).elim (fun hc5 => ?ga4) (fun hc5 => ?gb4)
          case' gb4 =>
            refine (Classical.em (a > s - t)).elim (fun hc6 => ?ga5) (fun hc6 => ?gb5)
            case' gb5 =>
              refine Safe.ends mixed Try.func17 9 [⟨100, []⟩, ⟨200, [(2, .tt false), (6, .tt false), (11, .tt false), (16, .tt false), (23, .tt false), (33, .tt false)]⟩, ⟨300, []⟩] (r := I 0) (hp := []) (ob := [decide (s < (1 : Int)) = false, decide (s > (65536 : Int)) = false, decide (t < (8 : Int)) = false, decide (a < (4 : Int)) = false, decide (t > s) = false, inK IntKind.i64 (s - t), decide (a > s - t) = false]) rfl (by kernel_rfl) ⟨(decide_eq_false hc1), (decide_eq_false hc2), (decide_eq_false hc3), (decide_eq_false hc4), (decide_eq_false hc5), (by simp only [inK]; omega), (decide_eq_false hc6), trivial⟩ ?_ trivial trivial rfl
            case' ga5 =>
              refine Safe.ends mixed Try.func17 8 [⟨100, []⟩, ⟨200, [(2, .tt false), (6, .tt false), (11, .tt false), (16, .tt false), (23, .tt false), (33, .tt true)]⟩, ⟨300, []⟩] (r := I 1) (hp := []) (ob := [decide (s < (1 : Int)) = false, decide (s > (65536 : Int)) = false, decide (t < (8 : Int)) = false, decide (a < (4 : Int)) = false, decide (t > s) = false, inK IntKind.i64 (s - t), decide (a > s - t) = true]) rfl (by kernel_rfl) ⟨(decide_eq_false hc1), (decide_eq_false hc2), (decide_eq_false hc3), (decide_eq_false hc4), (decide_eq_false hc5), (by simp only [inK]; omega), (decide_eq_true hc6), trivial⟩ ?_ trivial trivial rfl
          case' ga4 =>
            refine Safe.ends mixed Try.func17 8 [⟨100, []⟩, ⟨200, [(2, .tt false), (6, .tt false), (11, .tt false), (16, .tt false), (23, .tt true)]⟩, ⟨300, []⟩] (r := I 1) (hp := []) (ob := [decide (s < (1 : Int)) = false, decide (s > (65536 : Int)) = false, decide (t < (8 : Int)) = false, decide (a < (4 : Int)) = false, decide (t > s) = true]) rfl (by kernel_rfl) ⟨(decide_eq_false hc1), (decide_eq_false hc2), (decide_eq_false hc3), (decide_eq_false hc4), (decide_eq_true hc5), trivial⟩ ?_ trivial trivial rfl
        case' ga3 =>
          refine Safe.ends mixed Try.func17 8 [⟨100, []⟩, ⟨200, [(2, .tt false), (6, .tt false), (11, .tt false), (16, .tt true)]⟩, ⟨300, []⟩] (r := I 1) (hp := []) (ob := [decide (s < (1 : Int)) = false, decide (s > (65536 : Int)) = false, decide (t < (8 : Int)) = false, decide (a < (4 : Int)) = true]) rfl (by kernel_rfl) ⟨(decide_eq_false hc1), (decide_eq_false hc2), (decide_eq_false hc3), (decide_eq_true hc4), trivial⟩ ?_ trivial trivial rfl
      case' ga2 =>
        refine Safe.ends mixed Try.func17 8 [⟨100, []⟩, ⟨200, [(2, .tt false), (6, .tt false), (11, .tt true)]⟩, ⟨300, []⟩] (r := I 1) (hp := []) (ob := [decide (s < (1 : Int)) = false, decide (s > (65536 : Int)) = false, decide (t < (8 : Int)) = true]) rfl (by kernel_rfl) ⟨(decide_eq_false hc1), (decide_eq_false hc2), (decide_eq_true hc3), trivial⟩ ?_ trivial trivial rfl
    case' ga1 =>
      refine Safe.ends mixed Try.func17 8 [⟨100, []⟩, ⟨200, [(2, .tt false), (6, .tt true)]⟩, ⟨300, []⟩] (r := I 1) (hp := []) (ob := [decide (s < (1 : Int)) = false, decide (s > (65536 : Int)) = true]) rfl (by kernel_rfl) ⟨(decide_eq_false hc1), (decide_eq_true hc2), trivial⟩ ?_ trivial trivial rfl
  case' ga0 =>
    refine Safe.ends mixed Try.func17 8 [⟨100, []⟩, ⟨200, [(2, .tt true)]⟩, ⟨300, []⟩] (r := I 1) (hp := []) (ob := [decide (s < (1 : Int)) = true]) rfl (by kernel_rfl) ⟨(decide_eq_true hc1), trivial⟩ ?_ trivial trivial rfl
  all_goals first | (rw [k2 (by omega)]; rfl) | (rw [k1 (by omega)]; rfl)
theorem rchk_any (i s t a g : Int) : CallOK Try.prog 18 [.agg [U i, I s, I t, I a, U g]] [] (I (chkF s t a)) [] := by
  refine CallOK.intro Try.call18 Try.func18 rfl rfl trivial ?_
  have k1 : ∀ h : lbOK s t a, chkF s t a = 0 := fun h => if_pos h
  have k2 : ∀ h : ¬ lbOK s t a, chkF s t a = 1 := fun h => if_neg h
  unfold lbOK at k1 k2
  refine (Classical.em (s < (1 : Int))).elim (fun hc1 => ?ga6) (fun hc1 => ?gb6)
  case' gb6 =>
    refine (Classical.em (s > (65536 : Int))).elim (fun hc2 => ?ga7) (fun hc2 => ?gb7)
    case' gb7 =>
      refine (Classical.em (t < (8 : Int))).elim (fun hc3 => ?ga8) (fun hc3 => ?gb8)
      case' gb8 =>
        refine (Classical.em (a < (4 : Int))).elim (fun hc4 => ?ga9) (fun hc4 => ?gb9)
        case' gb9 =>
          refine (Classical.em (t > s)).elim (fun hc5 => ?ga10) (fun hc5 => ?gb10)
          case' gb10 =>
            refine (Classical.em (a > s - t)).elim (fun hc6 => ?ga11) (fun hc6 => ?gb11)
            case' gb11 =>
              refine Safe.ends mixed Try.func18 9 [⟨100, []⟩, ⟨200, [(2, .tt false), (6, .tt false), (11, .tt false), (16, .tt false), (23, .tt false), (33, .tt false)]⟩, ⟨300, []⟩] (r := I 0) (hp := []) (ob := [decide (s < (1 : Int)) = false, decide (s > (65536 : Int)) = false, decide (t < (8 : Int)) = false, decide (a < (4 : Int)) = false, decide (t > s) = false, inK IntKind.i64 (s - t), decide (a > s - t) = false]) rfl (by kernel_rfl) ⟨(decide_eq_false hc1), (decide_eq_false hc2), (decide_eq_false hc3), (decide_eq_false hc4), (decide_eq_false hc5), (by simp only [inK]; omega), (decide_eq_false hc6), trivial⟩ ?_ trivial trivial rfl
            case' ga11 =>
              refine Safe.ends mixed Try.func18 8 [⟨100, []⟩, ⟨200, [(2, .tt false), (6, .tt false), (11, .tt false), (16, .tt false), (23, .tt false), (33, .tt true)]⟩, ⟨300, []⟩] (r := I 1) (hp := []) (ob := [decide (s < (1 : Int)) = false, decide (s > (65536 : Int)) = false, decide (t < (8 : Int)) = false, decide (a < (4 : Int)) = false, decide (t > s) = false, inK IntKind.i64 (s - t), decide (a > s - t) = true]) rfl (by kernel_rfl) ⟨(decide_eq_false hc1), (decide_eq_false hc2), (decide_eq_false hc3), (decide_eq_false hc4), (decide_eq_false hc5), (by simp only [inK]; omega), (decide_eq_true hc6), trivial⟩ ?_ trivial trivial rfl
          case' ga10 =>
            refine Safe.ends mixed Try.func18 8 [⟨100, []⟩, ⟨200, [(2, .tt false), (6, .tt false), (11, .tt false), (16, .tt false), (23, .tt true)]⟩, ⟨300, []⟩] (r := I 1) (hp := []) (ob := [decide (s < (1 : Int)) = false, decide (s > (65536 : Int)) = false, decide (t < (8 : Int)) = false, decide (a < (4 : Int)) = false, decide (t > s) = true]) rfl (by kernel_rfl) ⟨(decide_eq_false hc1), (decide_eq_false hc2), (decide_eq_false hc3), (decide_eq_false hc4), (decide_eq_true hc5), trivial⟩ ?_ trivial trivial rfl
        case' ga9 =>
          refine Safe.ends mixed Try.func18 8 [⟨100, []⟩, ⟨200, [(2, .tt false), (6, .tt false), (11, .tt false), (16, .tt true)]⟩, ⟨300, []⟩] (r := I 1) (hp := []) (ob := [decide (s < (1 : Int)) = false, decide (s > (65536 : Int)) = false, decide (t < (8 : Int)) = false, decide (a < (4 : Int)) = true]) rfl (by kernel_rfl) ⟨(decide_eq_false hc1), (decide_eq_false hc2), (decide_eq_false hc3), (decide_eq_true hc4), trivial⟩ ?_ trivial trivial rfl
      case' ga8 =>
        refine Safe.ends mixed Try.func18 8 [⟨100, []⟩, ⟨200, [(2, .tt false), (6, .tt false), (11, .tt true)]⟩, ⟨300, []⟩] (r := I 1) (hp := []) (ob := [decide (s < (1 : Int)) = false, decide (s > (65536 : Int)) = false, decide (t < (8 : Int)) = true]) rfl (by kernel_rfl) ⟨(decide_eq_false hc1), (decide_eq_false hc2), (decide_eq_true hc3), trivial⟩ ?_ trivial trivial rfl
    case' ga7 =>
      refine Safe.ends mixed Try.func18 8 [⟨100, []⟩, ⟨200, [(2, .tt false), (6, .tt true)]⟩, ⟨300, []⟩] (r := I 1) (hp := []) (ob := [decide (s < (1 : Int)) = false, decide (s > (65536 : Int)) = true]) rfl (by kernel_rfl) ⟨(decide_eq_false hc1), (decide_eq_true hc2), trivial⟩ ?_ trivial trivial rfl
  case' ga6 =>
    refine Safe.ends mixed Try.func18 8 [⟨100, []⟩, ⟨200, [(2, .tt true)]⟩, ⟨300, []⟩] (r := I 1) (hp := []) (ob := [decide (s < (1 : Int)) = true]) rfl (by kernel_rfl) ⟨(decide_eq_true hc1), trivial⟩ ?_ trivial trivial rfl
  all_goals first | (rw [k2 (by omega)]; rfl) | (rw [k1 (by omega)]; rfl)
end Go.Proofs.Ytbgbjgedjmhcaaa
