/- checkTarget and Check. -/
import Derived.Test.YtcomimabihbfgaaSyU
import Derived.KernelRfl
import Derived.Test.YtcomimabihbfgaaTa
namespace Go.Proofs.Ytcomimabihbfgaa
open Go.RowKit
set_option linter.unusedVariables false
def ck1 (t : Tg) (s : Int) : Int := if t.start ≠ s then 2 else if t.length < 1 ∨ t.length > 16777216 then 1 else if (t.fail = true ∧ t.on ≠ { data := #[] }) ∨ (t.on = { data := #[] } ∧ t.offset ≠ 0) then 2 else if t.offset < 0 ∨ t.offset > 16777216 - t.length then 1 else 0
set_option maxRecDepth 10000 in
set_option maxHeartbeats 4000000 in
theorem ct_any (a b d s : Int) (c : ByteArray) (e : Bool) : CallOK Try.prog 42 [.agg [I a, I b, S c, I d, B e], I s] [] (I (ck1 ⟨a, b, c, d, e⟩ s)) [] := by
  refine CallOK.intro Try.call42 Try.func42 rfl rfl trivial ?_
  refine (Classical.em (¬a = s)).elim (fun hc1 => ?ga0) (fun hc1 => ?gb0)
  case' gb0 =>
    refine (Classical.em (b < (1 : Int))).elim (fun hc2 => ?ga1) (fun hc2 => ?gb1)
    case' gb1 =>
      refine (Classical.em (b > (16777216 : Int))).elim (fun hc3 => ?ga2) (fun hc3 => ?gb2)
      case' gb2 =>
        refine (Classical.em ((e) = true)).elim (fun hc4 => ?ga3) (fun hc4 => ?gb3)
        case' gb3 =>
          refine (Classical.em (c = { data := #[] })).elim (fun hc5 => ?ga11) (fun hc5 => ?gb11)
          case' gb11 =>
            refine (Classical.em (d < (0 : Int))).elim (fun hc6 => ?ga15) (fun hc6 => ?gb15)
            case' gb15 =>
              refine (Classical.em (d > (16777216 : Int) - b)).elim (fun hc7 => ?ga16) (fun hc7 => ?gb16)
              case' gb16 =>
                refine Safe.ends mixed Go.Proofs.Try.func42 20 [⟨100, []⟩, ⟨200, [(3, .tt false)]⟩, ⟨300, [(2, .tt false), (6, .tt false)]⟩, ⟨400, [(1, .tt false), (10, .tt false)]⟩, ⟨500, [(2, .tt false), (9, .tt false)]⟩, ⟨600, []⟩] (r := I ((0 : Int))) (hp := []) (ob := [(decide ¬a = s) = false, decide (b < (1 : Int)) = false, decide (b > (16777216 : Int)) = false, e = false, decide (c = { data := #[] }) = false, decide (d < (0 : Int)) = false, inK IntKind.i64 ((16777216 : Int) - b), decide (d > (16777216 : Int) - b) = false]) rfl (by kernel_rfl) ⟨(decide_eq_false hc1), (decide_eq_false hc2), (decide_eq_false hc3), (by simpa using hc4), (decide_eq_false hc5), (decide_eq_false hc6), (by simp only [inK]; omega), (decide_eq_false hc7), trivial⟩ ?_ trivial trivial rfl
              case' ga16 =>
                refine Safe.ends mixed Go.Proofs.Try.func42 18 [⟨100, []⟩, ⟨200, [(3, .tt false)]⟩, ⟨300, [(2, .tt false), (6, .tt false)]⟩, ⟨400, [(1, .tt false), (10, .tt false)]⟩, ⟨500, [(2, .tt false), (9, .tt true)]⟩, ⟨600, []⟩] (r := I ((1 : Int))) (hp := []) (ob := [(decide ¬a = s) = false, decide (b < (1 : Int)) = false, decide (b > (16777216 : Int)) = false, e = false, decide (c = { data := #[] }) = false, decide (d < (0 : Int)) = false, inK IntKind.i64 ((16777216 : Int) - b), decide (d > (16777216 : Int) - b) = true]) rfl (by kernel_rfl) ⟨(decide_eq_false hc1), (decide_eq_false hc2), (decide_eq_false hc3), (by simpa using hc4), (decide_eq_false hc5), (decide_eq_false hc6), (by simp only [inK]; omega), (decide_eq_true hc7), trivial⟩ ?_ trivial trivial rfl
            case' ga15 =>
              refine Safe.ends mixed Go.Proofs.Try.func42 18 [⟨100, []⟩, ⟨200, [(3, .tt false)]⟩, ⟨300, [(2, .tt false), (6, .tt false)]⟩, ⟨400, [(1, .tt false), (10, .tt false)]⟩, ⟨500, [(2, .tt true)]⟩, ⟨600, []⟩] (r := I ((1 : Int))) (hp := []) (ob := [(decide ¬a = s) = false, decide (b < (1 : Int)) = false, decide (b > (16777216 : Int)) = false, e = false, decide (c = { data := #[] }) = false, decide (d < (0 : Int)) = true]) rfl (by kernel_rfl) ⟨(decide_eq_false hc1), (decide_eq_false hc2), (decide_eq_false hc3), (by simpa using hc4), (decide_eq_false hc5), (decide_eq_true hc6), trivial⟩ ?_ trivial trivial rfl
          case' ga11 =>
            refine (Classical.em (¬d = (0 : Int))).elim (fun hc6 => ?ga12) (fun hc6 => ?gb12)
            case' gb12 =>
              refine (Classical.em (d < (0 : Int))).elim (fun hc7 => ?ga13) (fun hc7 => ?gb13)
              case' gb13 =>
                refine (Classical.em (d > (16777216 : Int) - b)).elim (fun hc8 => ?ga14) (fun hc8 => ?gb14)
                case' gb14 =>
                  refine Safe.ends mixed Go.Proofs.Try.func42 20 [⟨100, []⟩, ⟨200, [(3, .tt false)]⟩, ⟨300, [(2, .tt false), (6, .tt false)]⟩, ⟨400, [(1, .tt false), (10, .tt true), (14, .tt false)]⟩, ⟨500, [(2, .tt false), (9, .tt false)]⟩, ⟨600, []⟩] (r := I ((0 : Int))) (hp := []) (ob := [(decide ¬a = s) = false, decide (b < (1 : Int)) = false, decide (b > (16777216 : Int)) = false, e = false, decide (c = { data := #[] }) = true, (decide ¬d = (0 : Int)) = false, decide (d < (0 : Int)) = false, inK IntKind.i64 ((16777216 : Int) - b), decide (d > (16777216 : Int) - b) = false]) rfl (by kernel_rfl) ⟨(decide_eq_false hc1), (decide_eq_false hc2), (decide_eq_false hc3), (by simpa using hc4), (decide_eq_true hc5), (decide_eq_false hc6), (decide_eq_false hc7), (by simp only [inK]; omega), (decide_eq_false hc8), trivial⟩ ?_ trivial trivial rfl
                case' ga14 =>
                  refine Safe.ends mixed Go.Proofs.Try.func42 18 [⟨100, []⟩, ⟨200, [(3, .tt false)]⟩, ⟨300, [(2, .tt false), (6, .tt false)]⟩, ⟨400, [(1, .tt false), (10, .tt true), (14, .tt false)]⟩, ⟨500, [(2, .tt false), (9, .tt true)]⟩, ⟨600, []⟩] (r := I ((1 : Int))) (hp := []) (ob := [(decide ¬a = s) = false, decide (b < (1 : Int)) = false, decide (b > (16777216 : Int)) = false, e = false, decide (c = { data := #[] }) = true, (decide ¬d = (0 : Int)) = false, decide (d < (0 : Int)) = false, inK IntKind.i64 ((16777216 : Int) - b), decide (d > (16777216 : Int) - b) = true]) rfl (by kernel_rfl) ⟨(decide_eq_false hc1), (decide_eq_false hc2), (decide_eq_false hc3), (by simpa using hc4), (decide_eq_true hc5), (decide_eq_false hc6), (decide_eq_false hc7), (by simp only [inK]; omega), (decide_eq_true hc8), trivial⟩ ?_ trivial trivial rfl
              case' ga13 =>
                refine Safe.ends mixed Go.Proofs.Try.func42 18 [⟨100, []⟩, ⟨200, [(3, .tt false)]⟩, ⟨300, [(2, .tt false), (6, .tt false)]⟩, ⟨400, [(1, .tt false), (10, .tt true), (14, .tt false)]⟩, ⟨500, [(2, .tt true)]⟩, ⟨600, []⟩] (r := I ((1 : Int))) (hp := []) (ob := [(decide ¬a = s) = false, decide (b < (1 : Int)) = false, decide (b > (16777216 : Int)) = false, e = false, decide (c = { data := #[] }) = true, (decide ¬d = (0 : Int)) = false, decide (d < (0 : Int)) = true]) rfl (by kernel_rfl) ⟨(decide_eq_false hc1), (decide_eq_false hc2), (decide_eq_false hc3), (by simpa using hc4), (decide_eq_true hc5), (decide_eq_false hc6), (decide_eq_true hc7), trivial⟩ ?_ trivial trivial rfl
            case' ga12 =>
              refine Safe.ends mixed Go.Proofs.Try.func42 15 [⟨100, []⟩, ⟨200, [(3, .tt false)]⟩, ⟨300, [(2, .tt false), (6, .tt false)]⟩, ⟨400, [(1, .tt false), (10, .tt true), (14, .tt true)]⟩, ⟨500, []⟩] (r := I ((2 : Int))) (hp := []) (ob := [(decide ¬a = s) = false, decide (b < (1 : Int)) = false, decide (b > (16777216 : Int)) = false, e = false, decide (c = { data := #[] }) = true, (decide ¬d = (0 : Int)) = true]) rfl (by kernel_rfl) ⟨(decide_eq_false hc1), (decide_eq_false hc2), (decide_eq_false hc3), (by simpa using hc4), (decide_eq_true hc5), (decide_eq_true hc6), trivial⟩ ?_ trivial trivial rfl
        case' ga3 =>
          refine (Classical.em (¬c = { data := #[] })).elim (fun hc5 => ?ga4) (fun hc5 => ?gb4)
          case' gb4 =>
            refine (Classical.em (c = { data := #[] })).elim (fun hc6 => ?ga5) (fun hc6 => ?gb5)
            case' gb5 =>
              refine (Classical.em (d < (0 : Int))).elim (fun hc7 => ?ga9) (fun hc7 => ?gb9)
              case' gb9 =>
                refine (Classical.em (d > (16777216 : Int) - b)).elim (fun hc8 => ?ga10) (fun hc8 => ?gb10)
                case' gb10 =>
                  refine Safe.ends mixed Go.Proofs.Try.func42 20 [⟨100, []⟩, ⟨200, [(3, .tt false)]⟩, ⟨300, [(2, .tt false), (6, .tt false)]⟩, ⟨400, [(1, .tt true), (5, .tt false), (10, .tt false)]⟩, ⟨500, [(2, .tt false), (9, .tt false)]⟩, ⟨600, []⟩] (r := I ((0 : Int))) (hp := []) (ob := [(decide ¬a = s) = false, decide (b < (1 : Int)) = false, decide (b > (16777216 : Int)) = false, e = true, (decide ¬c = { data := #[] }) = false, decide (c = { data := #[] }) = false, decide (d < (0 : Int)) = false, inK IntKind.i64 ((16777216 : Int) - b), decide (d > (16777216 : Int) - b) = false]) rfl (by kernel_rfl) ⟨(decide_eq_false hc1), (decide_eq_false hc2), (decide_eq_false hc3), hc4, (decide_eq_false hc5), (decide_eq_false hc6), (decide_eq_false hc7), (by simp only [inK]; omega), (decide_eq_false hc8), trivial⟩ ?_ trivial trivial rfl
                case' ga10 =>
                  refine Safe.ends mixed Go.Proofs.Try.func42 18 [⟨100, []⟩, ⟨200, [(3, .tt false)]⟩, ⟨300, [(2, .tt false), (6, .tt false)]⟩, ⟨400, [(1, .tt true), (5, .tt false), (10, .tt false)]⟩, ⟨500, [(2, .tt false), (9, .tt true)]⟩, ⟨600, []⟩] (r := I ((1 : Int))) (hp := []) (ob := [(decide ¬a = s) = false, decide (b < (1 : Int)) = false, decide (b > (16777216 : Int)) = false, e = true, (decide ¬c = { data := #[] }) = false, decide (c = { data := #[] }) = false, decide (d < (0 : Int)) = false, inK IntKind.i64 ((16777216 : Int) - b), decide (d > (16777216 : Int) - b) = true]) rfl (by kernel_rfl) ⟨(decide_eq_false hc1), (decide_eq_false hc2), (decide_eq_false hc3), hc4, (decide_eq_false hc5), (decide_eq_false hc6), (decide_eq_false hc7), (by simp only [inK]; omega), (decide_eq_true hc8), trivial⟩ ?_ trivial trivial rfl
              case' ga9 =>
                refine Safe.ends mixed Go.Proofs.Try.func42 18 [⟨100, []⟩, ⟨200, [(3, .tt false)]⟩, ⟨300, [(2, .tt false), (6, .tt false)]⟩, ⟨400, [(1, .tt true), (5, .tt false), (10, .tt false)]⟩, ⟨500, [(2, .tt true)]⟩, ⟨600, []⟩] (r := I ((1 : Int))) (hp := []) (ob := [(decide ¬a = s) = false, decide (b < (1 : Int)) = false, decide (b > (16777216 : Int)) = false, e = true, (decide ¬c = { data := #[] }) = false, decide (c = { data := #[] }) = false, decide (d < (0 : Int)) = true]) rfl (by kernel_rfl) ⟨(decide_eq_false hc1), (decide_eq_false hc2), (decide_eq_false hc3), hc4, (decide_eq_false hc5), (decide_eq_false hc6), (decide_eq_true hc7), trivial⟩ ?_ trivial trivial rfl
            case' ga5 =>
              refine (Classical.em (¬d = (0 : Int))).elim (fun hc7 => ?ga6) (fun hc7 => ?gb6)
              case' gb6 =>
                refine (Classical.em (d < (0 : Int))).elim (fun hc8 => ?ga7) (fun hc8 => ?gb7)
                case' gb7 =>
                  refine (Classical.em (d > (16777216 : Int) - b)).elim (fun hc9 => ?ga8) (fun hc9 => ?gb8)
                  case' gb8 =>
                    refine Safe.ends mixed Go.Proofs.Try.func42 20 [⟨100, []⟩, ⟨200, [(3, .tt false)]⟩, ⟨300, [(2, .tt false), (6, .tt false)]⟩, ⟨400, [(1, .tt true), (5, .tt false), (10, .tt true), (14, .tt false)]⟩, ⟨500, [(2, .tt false), (9, .tt false)]⟩, ⟨600, []⟩] (r := I ((0 : Int))) (hp := []) (ob := [(decide ¬a = s) = false, decide (b < (1 : Int)) = false, decide (b > (16777216 : Int)) = false, e = true, (decide ¬c = { data := #[] }) = false, decide (c = { data := #[] }) = true, (decide ¬d = (0 : Int)) = false, decide (d < (0 : Int)) = false, inK IntKind.i64 ((16777216 : Int) - b), decide (d > (16777216 : Int) - b) = false]) rfl (by kernel_rfl) ⟨(decide_eq_false hc1), (decide_eq_false hc2), (decide_eq_false hc3), hc4, (decide_eq_false hc5), (decide_eq_true hc6), (decide_eq_false hc7), (decide_eq_false hc8), (by simp only [inK]; omega), (decide_eq_false hc9), trivial⟩ ?_ trivial trivial rfl
                  case' ga8 =>
                    refine Safe.ends mixed Go.Proofs.Try.func42 18 [⟨100, []⟩, ⟨200, [(3, .tt false)]⟩, ⟨300, [(2, .tt false), (6, .tt false)]⟩, ⟨400, [(1, .tt true), (5, .tt false), (10, .tt true), (14, .tt false)]⟩, ⟨500, [(2, .tt false), (9, .tt true)]⟩, ⟨600, []⟩] (r := I ((1 : Int))) (hp := []) (ob := [(decide ¬a = s) = false, decide (b < (1 : Int)) = false, decide (b > (16777216 : Int)) = false, e = true, (decide ¬c = { data := #[] }) = false, decide (c = { data := #[] }) = true, (decide ¬d = (0 : Int)) = false, decide (d < (0 : Int)) = false, inK IntKind.i64 ((16777216 : Int) - b), decide (d > (16777216 : Int) - b) = true]) rfl (by kernel_rfl) ⟨(decide_eq_false hc1), (decide_eq_false hc2), (decide_eq_false hc3), hc4, (decide_eq_false hc5), (decide_eq_true hc6), (decide_eq_false hc7), (decide_eq_false hc8), (by simp only [inK]; omega), (decide_eq_true hc9), trivial⟩ ?_ trivial trivial rfl
                case' ga7 =>
                  refine Safe.ends mixed Go.Proofs.Try.func42 18 [⟨100, []⟩, ⟨200, [(3, .tt false)]⟩, ⟨300, [(2, .tt false), (6, .tt false)]⟩, ⟨400, [(1, .tt true), (5, .tt false), (10, .tt true), (14, .tt false)]⟩, ⟨500, [(2, .tt true)]⟩, ⟨600, []⟩] (r := I ((1 : Int))) (hp := []) (ob := [(decide ¬a = s) = false, decide (b < (1 : Int)) = false, decide (b > (16777216 : Int)) = false, e = true, (decide ¬c = { data := #[] }) = false, decide (c = { data := #[] }) = true, (decide ¬d = (0 : Int)) = false, decide (d < (0 : Int)) = true]) rfl (by kernel_rfl) ⟨(decide_eq_false hc1), (decide_eq_false hc2), (decide_eq_false hc3), hc4, (decide_eq_false hc5), (decide_eq_true hc6), (decide_eq_false hc7), (decide_eq_true hc8), trivial⟩ ?_ trivial trivial rfl
              case' ga6 =>
                refine Safe.ends mixed Go.Proofs.Try.func42 15 [⟨100, []⟩, ⟨200, [(3, .tt false)]⟩, ⟨300, [(2, .tt false), (6, .tt false)]⟩, ⟨400, [(1, .tt true), (5, .tt false), (10, .tt true), (14, .tt true)]⟩, ⟨500, []⟩] (r := I ((2 : Int))) (hp := []) (ob := [(decide ¬a = s) = false, decide (b < (1 : Int)) = false, decide (b > (16777216 : Int)) = false, e = true, (decide ¬c = { data := #[] }) = false, decide (c = { data := #[] }) = true, (decide ¬d = (0 : Int)) = true]) rfl (by kernel_rfl) ⟨(decide_eq_false hc1), (decide_eq_false hc2), (decide_eq_false hc3), hc4, (decide_eq_false hc5), (decide_eq_true hc6), (decide_eq_true hc7), trivial⟩ ?_ trivial trivial rfl
          case' ga4 =>
            refine Safe.ends mixed Go.Proofs.Try.func42 15 [⟨100, []⟩, ⟨200, [(3, .tt false)]⟩, ⟨300, [(2, .tt false), (6, .tt false)]⟩, ⟨400, [(1, .tt true), (5, .tt true)]⟩, ⟨500, []⟩] (r := I ((2 : Int))) (hp := []) (ob := [(decide ¬a = s) = false, decide (b < (1 : Int)) = false, decide (b > (16777216 : Int)) = false, e = true, (decide ¬c = { data := #[] }) = true]) rfl (by kernel_rfl) ⟨(decide_eq_false hc1), (decide_eq_false hc2), (decide_eq_false hc3), hc4, (decide_eq_true hc5), trivial⟩ ?_ trivial trivial rfl
      case' ga2 =>
        refine Safe.ends mixed Go.Proofs.Try.func42 12 [⟨100, []⟩, ⟨200, [(3, .tt false)]⟩, ⟨300, [(2, .tt false), (6, .tt true)]⟩, ⟨400, []⟩] (r := I ((1 : Int))) (hp := []) (ob := [(decide ¬a = s) = false, decide (b < (1 : Int)) = false, decide (b > (16777216 : Int)) = true]) rfl (by kernel_rfl) ⟨(decide_eq_false hc1), (decide_eq_false hc2), (decide_eq_true hc3), trivial⟩ ?_ trivial trivial rfl
    case' ga1 =>
      refine Safe.ends mixed Go.Proofs.Try.func42 12 [⟨100, []⟩, ⟨200, [(3, .tt false)]⟩, ⟨300, [(2, .tt true)]⟩, ⟨400, []⟩] (r := I ((1 : Int))) (hp := []) (ob := [(decide ¬a = s) = false, decide (b < (1 : Int)) = true]) rfl (by kernel_rfl) ⟨(decide_eq_false hc1), (decide_eq_true hc2), trivial⟩ ?_ trivial trivial rfl
  case' ga0 =>
    refine Safe.ends mixed Go.Proofs.Try.func42 9 [⟨100, []⟩, ⟨200, [(3, .tt true)]⟩, ⟨300, []⟩] (r := I ((2 : Int))) (hp := []) (ob := [(decide ¬a = s) = true]) rfl (by kernel_rfl) ⟨(decide_eq_true hc1), trivial⟩ ?_ trivial trivial rfl
  all_goals (show I _ = I _; unfold ck1; simp_all; try omega)
end Go.Proofs.Ytcomimabihbfgaa
