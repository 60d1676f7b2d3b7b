/- Ranges: one, valid, Valid, Has (both). No conditions but those of each theorem. -/
import Derived.Test.YtgfdmeaganhpiaaSyZ
import Derived.KernelRfl
import Derived.Test.YtgfdmeaganhpiaaM
import Derived.Test.YtgfdmeaganhpiaaD
namespace Go.Proofs.Ytgfdmeaganhpiaa
open Go.RowKit
set_option linter.unusedVariables false
set_option linter.unnecessarySimpa false
theorem mixed : Try.prog.follows .mixedOrders = true := by kernel_rfl
abbrev Rn := Int × Int
def encR (r : Rn) : List AV := [I r.1, I r.2]
def vldB (r : Rn) : Bool := decide (Old.Vld r)
theorem vld_iff (r : Rn) : Old.Vld r ↔ 0 ≤ r.1 ∧ 0 ≤ r.2 ∧ r.1 ≤ 1073741824 ∧ r.2 ≤ 1073741824 - r.1 := by unfold Old.Vld; omega
set_option maxRecDepth 10000 in
set_option maxHeartbeats 4000000 in
theorem one_any (a b : Int) : CallOK Try.prog 31 [.agg [I a, I b]] [] (B (decide (Old.Vld (a, b)))) [] := by
  refine CallOK.intro Try.call31 Try.func31 rfl rfl trivial ?_
  have hv := vld_iff (a, b)
  dsimp only at hv
  refine (Classical.em (a ≥ (0 : Int))).elim (fun hc1 => ?ga0) (fun hc1 => ?gb0)
  case' gb0 =>
    refine Safe.ends mixed Go.Proofs.Try.func31 4 [⟨100, []⟩, ⟨200, [(2, .tt false)]⟩] (r := B (false)) (hp := []) (ob := [decide (a ≥ (0 : Int)) = false]) rfl (by kernel_rfl) ⟨(decide_eq_false hc1), trivial⟩ ?_ trivial trivial rfl
  case' ga0 =>
    refine (Classical.em (b ≥ (0 : Int))).elim (fun hc2 => ?ga1) (fun hc2 => ?gb1)
    case' gb1 =>
      refine Safe.ends mixed Go.Proofs.Try.func31 4 [⟨100, []⟩, ⟨200, [(2, .tt true), (6, .tt false)]⟩] (r := B (false)) (hp := []) (ob := [decide (a ≥ (0 : Int)) = true, decide (b ≥ (0 : Int)) = false]) rfl (by kernel_rfl) ⟨(decide_eq_true hc1), (decide_eq_false hc2), trivial⟩ ?_ trivial trivial rfl
    case' ga1 =>
      refine (Classical.em (a ≤ (1073741824 : Int))).elim (fun hc3 => ?ga2) (fun hc3 => ?gb2)
      case' gb2 =>
        refine Safe.ends mixed Go.Proofs.Try.func31 4 [⟨100, []⟩, ⟨200, [(2, .tt true), (6, .tt true), (11, .tt false)]⟩] (r := B (false)) (hp := []) (ob := [decide (a ≥ (0 : Int)) = true, decide (b ≥ (0 : Int)) = true, decide (a ≤ (1073741824 : Int)) = false]) rfl (by kernel_rfl) ⟨(decide_eq_true hc1), (decide_eq_true hc2), (decide_eq_false hc3), trivial⟩ ?_ trivial trivial rfl
      case' ga2 =>
        refine Safe.ends mixed Go.Proofs.Try.func31 4 [⟨100, []⟩, ⟨200, [(2, .tt true), (6, .tt true), (11, .tt true)]⟩] (r := B (decide (b ≤ (1073741824 : Int) - a))) (hp := []) (ob := [decide (a ≥ (0 : Int)) = true, decide (b ≥ (0 : Int)) = true, decide (a ≤ (1073741824 : Int)) = true, inK IntKind.i64 ((1073741824 : Int) - a)]) rfl (by kernel_rfl) ⟨(decide_eq_true hc1), (decide_eq_true hc2), (decide_eq_true hc3), (by simp only [inK]; omega), trivial⟩ ?_ trivial trivial rfl
  all_goals show B _ = B _
  all_goals first | rw [decide_eq_true (hv.2 ⟨by omega, by omega, by omega, by omega⟩)] | rw [decide_eq_false (fun h => by have := hv.1 h; omega)] | exact congrArg B (decide_eq_decide.2 ⟨fun h => hv.2 ⟨by omega, by omega, by omega, by omega⟩, fun h => (hv.1 h).2.2.2⟩)
set_option maxRecDepth 10000 in
set_option maxHeartbeats 4000000 in
theorem valid_any (a b : Int) : CallOK Try.prog 30 [.agg [I a, I b]] [] (B (decide (Old.Vld (a, b)))) [] := by
  refine CallOK.intro Try.call30 Try.func30 rfl rfl trivial ?_
  have hv := vld_iff (a, b)
  dsimp only at hv
  refine (Classical.em (a ≥ (0 : Int))).elim (fun hc1 => ?ga3) (fun hc1 => ?gb3)
  case' gb3 =>
    refine Safe.ends mixed Go.Proofs.Try.func30 4 [⟨100, []⟩, ⟨200, [(2, .tt false)]⟩] (r := B (false)) (hp := []) (ob := [decide (a ≥ (0 : Int)) = false]) rfl (by kernel_rfl) ⟨(decide_eq_false hc1), trivial⟩ ?_ trivial trivial rfl
  case' ga3 =>
    refine (Classical.em (b ≥ (0 : Int))).elim (fun hc2 => ?ga4) (fun hc2 => ?gb4)
    case' gb4 =>
      refine Safe.ends mixed Go.Proofs.Try.func30 4 [⟨100, []⟩, ⟨200, [(2, .tt true), (6, .tt false)]⟩] (r := B (false)) (hp := []) (ob := [decide (a ≥ (0 : Int)) = true, decide (b ≥ (0 : Int)) = false]) rfl (by kernel_rfl) ⟨(decide_eq_true hc1), (decide_eq_false hc2), trivial⟩ ?_ trivial trivial rfl
    case' ga4 =>
      refine (Classical.em (a ≤ (1073741824 : Int))).elim (fun hc3 => ?ga5) (fun hc3 => ?gb5)
      case' gb5 =>
        refine Safe.ends mixed Go.Proofs.Try.func30 4 [⟨100, []⟩, ⟨200, [(2, .tt true), (6, .tt true), (11, .tt false)]⟩] (r := B (false)) (hp := []) (ob := [decide (a ≥ (0 : Int)) = true, decide (b ≥ (0 : Int)) = true, decide (a ≤ (1073741824 : Int)) = false]) rfl (by kernel_rfl) ⟨(decide_eq_true hc1), (decide_eq_true hc2), (decide_eq_false hc3), trivial⟩ ?_ trivial trivial rfl
      case' ga5 =>
        refine Safe.ends mixed Go.Proofs.Try.func30 4 [⟨100, []⟩, ⟨200, [(2, .tt true), (6, .tt true), (11, .tt true)]⟩] (r := B (decide (b ≤ (1073741824 : Int) - a))) (hp := []) (ob := [decide (a ≥ (0 : Int)) = true, decide (b ≥ (0 : Int)) = true, decide (a ≤ (1073741824 : Int)) = true, inK IntKind.i64 ((1073741824 : Int) - a)]) rfl (by kernel_rfl) ⟨(decide_eq_true hc1), (decide_eq_true hc2), (decide_eq_true hc3), (by simp only [inK]; omega), trivial⟩ ?_ trivial trivial rfl
  all_goals show B _ = B _
  all_goals first | rw [decide_eq_true (hv.2 ⟨by omega, by omega, by omega, by omega⟩)] | rw [decide_eq_false (fun h => by have := hv.1 h; omega)] | exact congrArg B (decide_eq_decide.2 ⟨fun h => hv.2 ⟨by omega, by omega, by omega, by omega⟩, fun h => (hv.1 h).2.2.2⟩)

/-- a number in a valid range -/
def inB (r : Rn) (n : Int) : Bool := decide (Old.Vld r) && (decide (r.1 ≤ n) && decide (n < r.1 + r.2))
def hasB (l : List Rn) (n : Int) : Bool := l.any fun r => inB r n
def vsB (l : List Rn) : Bool := l.all fun r => decide (Old.Vld r)
theorem getD_at (l : List Rn) (k : Nat) (hk : k < l.length) : l.getD k default = l[k] := by rw [List.getD_eq_getElem?_getD, List.getElem?_eq_getElem hk]; rfl
theorem hasB_succ (l : List Rn) (n : Int) (k : Nat) (hk : k < l.length) : hasB (l.take (k + 1)) n = (hasB (l.take k) n || inB (l.getD k default) n) := by
  rw [List.take_succ_eq_append_getElem hk, hasB, List.any_append, getD_at l k hk]; simp [hasB]
theorem vsB_succ (l : List Rn) (k : Nat) (hk : k < l.length) : vsB (l.take (k + 1)) = (vsB (l.take k) && decide (Old.Vld (l.getD k default))) := by
  rw [List.take_succ_eq_append_getElem hk, vsB, List.all_append, getD_at l k hk]; simp [vsB]
theorem has_hit (l : List Rn) (n : Int) (k : Nat) (hk : k < l.length) (h : inB (l.getD k default) n = true) : hasB l n = true := by
  rw [hasB, List.any_eq_true]
  exact ⟨l[k], List.getElem_mem hk, by rw [← getD_at l k hk]; exact h⟩
theorem vs_hit (l : List Rn) (k : Nat) (hk : k < l.length) (h : ¬ Old.Vld (l.getD k default)) : vsB l = false := by
  rw [Bool.eq_false_iff]
  intro hh
  rw [vsB, List.all_eq_true] at hh
  exact h (by rw [getD_at l k hk]; exact of_decide_eq_true (hh _ (List.getElem_mem hk)))
set_option maxRecDepth 10000 in
set_option maxHeartbeats 4000000 in
theorem rvs_any (L : List Rn) (hl : L.length ≤ 1000000) : CallOK Try.prog 16 [.sl 0 0 2 L.length none] [(0, .ro 2 L.length (rowG encR L))] (B (vsB L)) [] := by
  refine CallOK.intro Try.call16 Try.func16 rfl rfl ⟨rfl, fun _ => rfl, trivial⟩ ?_
  refine Safe.withLoop (loopAt Try.f16 0) [0] 16 (fun g : Nat => [(0, .sl 0 0 2 L.length none), (3, I g)]) (fun _ => [(0, .ro 2 L.length (rowG encR L))]) (fun g => g ≤ L.length ∧ vsB (L.take g) = true) (fun g => L.length - g) ?_ ?_
  · rintro k ⟨hk, hn⟩ ih
    have hs := vsB_succ L k
    have hh := vs_hit L k
    refine (Classical.em ((↑k : Int) < (↑L.length : Int))).elim (fun hc1 => ?ga6) (fun hc1 => ?gb6)
    case' gb6 =>
      refine Safe.ends mixed Go.Proofs.Try.func16 7 [⟨1100, [(3, .tt false)]⟩, ⟨1200, []⟩] (r := B (true)) (hp := [(0, .ro ((2 : Nat)) (L.length) (rowG encR L))]) (ob := [decide ((↑k : Int) < (↑L.length : Int)) = false]) rfl (by kernel_rfl) ⟨(decide_eq_false hc1), trivial⟩ ?_ ⟨ObLe.refl _, trivial⟩ ⟨rfl, fun _ => rfl, trivial⟩ rfl
    case' ga6 =>
      refine (Classical.em (Old.Vld ((L.getD k default).fst, (L.getD k default).snd))).elim (fun hc2 => ?ga7) (fun hc2 => ?gb7)
      case' gb7 =>
        refine Safe.ends mixed Go.Proofs.Try.func16 12 [⟨1100, [(3, .tt true)]⟩, ⟨1200, [(4, .call [] (B false) [])]⟩, ⟨1300, []⟩] (r := B (false)) (hp := [(0, .ro ((2 : Nat)) (L.length) (rowG encR L))]) (ob := [decide ((↑k : Int) < (↑L.length : Int)) = true, (0 : Int) ≤ (↑k : Int) ∧ (↑k : Int) < (↑L.length : Int), k < L.length, CallOK Try.prog (31 : Nat) ([] ++ [AV.agg [AV.val (Value.int IntKind.i64 (L.getD k default).fst), AV.val (Value.int IntKind.i64 (L.getD k default).snd)]] ++ []) [] (AV.val (Value.bool false)) []]) rfl (by kernel_rfl) ⟨(decide_eq_true hc1), (by omega), (by omega), (CallOK.isB (one_any ((L.getD k default).fst) ((L.getD k default).snd)) (decide_eq_false hc2)), trivial⟩ ?_ ⟨ObLe.refl _, trivial⟩ ⟨rfl, fun _ => rfl, trivial⟩ rfl
      case' ga7 =>
        refine Safe.goto mixed 14 [⟨1100, [(3, .tt true)]⟩, ⟨1200, [(4, .call [] (B true) [])]⟩, ⟨1300, []⟩] [0, 3] [0] (todo' := loopAt Go.Proofs.Try.f16 0) (sl := slotsOf 16 [(0, .sl ((0 : Nat)) ((0 : Nat)) ((2 : Nat)) (L.length) (none)), (3, I ((↑k : Int) + (1 : Int)))]) (hp := [(0, .ro ((2 : Nat)) (L.length) (rowG encR L))]) (ob := [decide ((↑k : Int) < (↑L.length : Int)) = true, (0 : Int) ≤ (↑k : Int) ∧ (↑k : Int) < (↑L.length : Int), k < L.length, CallOK Try.prog (31 : Nat) ([] ++ [AV.agg [AV.val (Value.int IntKind.i64 (L.getD k default).fst), AV.val (Value.int IntKind.i64 (L.getD k default).snd)]] ++ []) [] (AV.val (Value.bool true)) [], inK IntKind.i64 ((↑k : Int) + (1 : Int))]) rfl rfl (by kernel_rfl) ⟨(decide_eq_true hc1), (by omega), (by omega), (CallOK.isB (one_any ((L.getD k default).fst) ((L.getD k default).snd)) (decide_eq_true hc2)), (by simp only [inK]; omega), trivial⟩ rfl ⟨rfl, fun _ => rfl, trivial⟩ ?_
    · refine ih (k + 1) ⟨by omega, ?_⟩ (by omega)
      rw [hs (by omega), hn, decide_eq_true hc2]; rfl
    · show B _ = B _
      rw [hh (by omega) hc2]
    · show B _ = B _
      rw [List.take_of_length_le (by omega)] at hn
      rw [hn]
  · intro H
    refine Safe.goto mixed 7 [⟨1100, []⟩, ⟨1200, []⟩] [0, 3] [0] (todo' := loopAt Go.Proofs.Try.f16 0) (sl := slotsOf 16 [(0, .sl ((0 : Nat)) ((0 : Nat)) ((2 : Nat)) (L.length) (none)), (3, I ((0 : Int)))]) (hp := [(0, .ro ((2 : Nat)) (L.length) (rowG encR L))]) (ob := []) rfl rfl (by kernel_rfl) trivial rfl ⟨rfl, fun _ => rfl, trivial⟩ ?_
    exact H 0 ⟨Nat.zero_le _, rfl⟩
set_option maxRecDepth 10000 in
set_option maxHeartbeats 4000000 in
theorem rhas_any (L : List Rn) (n : Int) (hl : L.length ≤ 1000000) (hn : n ≤ 9223372036854775807) : CallOK Try.prog 15 [.sl 0 0 2 L.length none, I n] [(0, .ro 2 L.length (rowG encR L))] (B (hasB L n)) [] := by
  refine CallOK.intro Try.call15 Try.func15 rfl rfl ⟨rfl, fun _ => rfl, trivial⟩ ?_
  refine Safe.withLoop (loopAt Try.f15 0) [0] 41 (fun g : Nat => [(0, .sl 0 0 2 L.length none), (1, I n), (5, I g)]) (fun _ => [(0, .ro 2 L.length (rowG encR L))]) (fun g => g ≤ L.length ∧ hasB (L.take g) n = false) (fun g => L.length - g) ?_ ?_
  · rintro k ⟨hk, hf⟩ ih
    have hs := hasB_succ L n k
    have hh := has_hit L n k
    refine (Classical.em ((↑k : Int) < (↑L.length : Int))).elim (fun hc1 => ?ga8) (fun hc1 => ?gb8)
    case' gb8 =>
      refine Safe.ends mixed Go.Proofs.Try.func15 7 [⟨1100, [(3, .tt false)]⟩, ⟨1200, []⟩] (r := B (false)) (hp := [(0, .ro ((2 : Nat)) (L.length) (rowG encR L))]) (ob := [decide ((↑k : Int) < (↑L.length : Int)) = false]) rfl (by kernel_rfl) ⟨(decide_eq_false hc1), trivial⟩ ?_ ⟨ObLe.refl _, trivial⟩ ⟨rfl, fun _ => rfl, trivial⟩ rfl
    case' ga8 =>
      refine (Classical.em (Old.Vld ((L.getD k default).fst, (L.getD k default).snd))).elim (fun hc2 => ?ga9) (fun hc2 => ?gb9)
      case' gb9 =>
        refine Safe.goto mixed 14 [⟨1100, [(3, .tt true)]⟩, ⟨1200, [(4, .call [] (B false) [])]⟩, ⟨1300, []⟩] [0, 1, 5] [0] (todo' := loopAt Go.Proofs.Try.f15 0) (sl := slotsOf 41 [(0, .sl ((0 : Nat)) ((0 : Nat)) ((2 : Nat)) (L.length) (none)), (1, I (n)), (5, I ((↑k : Int) + (1 : Int)))]) (hp := [(0, .ro ((2 : Nat)) (L.length) (rowG encR L))]) (ob := [decide ((↑k : Int) < (↑L.length : Int)) = true, (0 : Int) ≤ (↑k : Int) ∧ (↑k : Int) < (↑L.length : Int), k < L.length, CallOK Try.prog (31 : Nat) ([] ++ [AV.agg [AV.val (Value.int IntKind.i64 (L.getD k default).fst), AV.val (Value.int IntKind.i64 (L.getD k default).snd)]] ++ []) [] (AV.val (Value.bool false)) [], inK IntKind.i64 ((↑k : Int) + (1 : Int))]) rfl rfl (by kernel_rfl) ⟨(decide_eq_true hc1), (by first | omega | (have hw := (vld_iff _).1 hc2; dsimp only at hw; omega)), (by first | omega | (have hw := (vld_iff _).1 hc2; dsimp only at hw; omega)), (CallOK.isB (one_any ((L.getD k default).fst) ((L.getD k default).snd)) (decide_eq_false hc2)), (by simp only [inK]; first | omega | (have hw := (vld_iff _).1 hc2; dsimp only at hw; omega)), trivial⟩ rfl ⟨rfl, fun _ => rfl, trivial⟩ ?_
      case' ga9 =>
        refine (Classical.em (n ≥ (L.getD k default).fst)).elim (fun hc3 => ?ga10) (fun hc3 => ?gb10)
        case' gb10 =>
          refine Safe.goto mixed 14 [⟨1100, [(3, .tt true)]⟩, ⟨1200, [(4, .call [] (B true) []), (12, .tt false)]⟩, ⟨1300, []⟩] [0, 1, 5] [0] (todo' := loopAt Go.Proofs.Try.f15 0) (sl := slotsOf 41 [(0, .sl ((0 : Nat)) ((0 : Nat)) ((2 : Nat)) (L.length) (none)), (1, I (n)), (5, I ((↑k : Int) + (1 : Int)))]) (hp := [(0, .ro ((2 : Nat)) (L.length) (rowG encR L))]) (ob := [decide ((↑k : Int) < (↑L.length : Int)) = true, (0 : Int) ≤ (↑k : Int) ∧ (↑k : Int) < (↑L.length : Int), k < L.length, CallOK Try.prog (31 : Nat) ([] ++ [AV.agg [AV.val (Value.int IntKind.i64 (L.getD k default).fst), AV.val (Value.int IntKind.i64 (L.getD k default).snd)]] ++ []) [] (AV.val (Value.bool true)) [], (0 : Int) ≤ (↑k : Int) ∧ (↑k : Int) < (↑L.length : Int), k < L.length, decide (n ≥ (L.getD k default).fst) = false, inK IntKind.i64 ((↑k : Int) + (1 : Int))]) rfl rfl (by kernel_rfl) ⟨(decide_eq_true hc1), (by first | omega | (have hw := (vld_iff _).1 hc2; dsimp only at hw; omega)), (by first | omega | (have hw := (vld_iff _).1 hc2; dsimp only at hw; omega)), (CallOK.isB (one_any ((L.getD k default).fst) ((L.getD k default).snd)) (decide_eq_true hc2)), (by first | omega | (have hw := (vld_iff _).1 hc2; dsimp only at hw; omega)), (by first | omega | (have hw := (vld_iff _).1 hc2; dsimp only at hw; omega)), (decide_eq_false hc3), (by simp only [inK]; first | omega | (have hw := (vld_iff _).1 hc2; dsimp only at hw; omega)), trivial⟩ rfl ⟨rfl, fun _ => rfl, trivial⟩ ?_
        case' ga10 =>
          refine (Classical.em (n - (L.getD k default).fst < (L.getD k default).snd)).elim (fun hc4 => ?ga11) (fun hc4 => ?gb11)
          case' gb11 =>
            refine Safe.goto mixed 14 [⟨1100, [(3, .tt true)]⟩, ⟨1200, [(4, .call [] (B true) []), (12, .tt true), (27, .tt false)]⟩, ⟨1300, []⟩] [0, 1, 5] [0] (todo' := loopAt Go.Proofs.Try.f15 0) (sl := slotsOf 41 [(0, .sl ((0 : Nat)) ((0 : Nat)) ((2 : Nat)) (L.length) (none)), (1, I (n)), (5, I ((↑k : Int) + (1 : Int)))]) (hp := [(0, .ro ((2 : Nat)) (L.length) (rowG encR L))]) (ob := [decide ((↑k : Int) < (↑L.length : Int)) = true, (0 : Int) ≤ (↑k : Int) ∧ (↑k : Int) < (↑L.length : Int), k < L.length, CallOK Try.prog (31 : Nat) ([] ++ [AV.agg [AV.val (Value.int IntKind.i64 (L.getD k default).fst), AV.val (Value.int IntKind.i64 (L.getD k default).snd)]] ++ []) [] (AV.val (Value.bool true)) [], (0 : Int) ≤ (↑k : Int) ∧ (↑k : Int) < (↑L.length : Int), k < L.length, decide (n ≥ (L.getD k default).fst) = true, (0 : Int) ≤ (↑k : Int) ∧ (↑k : Int) < (↑L.length : Int), k < L.length, inK IntKind.i64 (n - (L.getD k default).fst), (0 : Int) ≤ (↑k : Int) ∧ (↑k : Int) < (↑L.length : Int), k < L.length, decide (n - (L.getD k default).fst < (L.getD k default).snd) = false, inK IntKind.i64 ((↑k : Int) + (1 : Int))]) rfl rfl (by kernel_rfl) ⟨(decide_eq_true hc1), (by first | omega | (have hw := (vld_iff _).1 hc2; dsimp only at hw; omega)), (by first | omega | (have hw := (vld_iff _).1 hc2; dsimp only at hw; omega)), (CallOK.isB (one_any ((L.getD k default).fst) ((L.getD k default).snd)) (decide_eq_true hc2)), (by first | omega | (have hw := (vld_iff _).1 hc2; dsimp only at hw; omega)), (by first | omega | (have hw := (vld_iff _).1 hc2; dsimp only at hw; omega)), (decide_eq_true hc3), (by first | omega | (have hw := (vld_iff _).1 hc2; dsimp only at hw; omega)), (by first | omega | (have hw := (vld_iff _).1 hc2; dsimp only at hw; omega)), (by simp only [inK]; first | omega | (have hw := (vld_iff _).1 hc2; dsimp only at hw; omega)), (by first | omega | (have hw := (vld_iff _).1 hc2; dsimp only at hw; omega)), (by first | omega | (have hw := (vld_iff _).1 hc2; dsimp only at hw; omega)), (decide_eq_false hc4), (by simp only [inK]; first | omega | (have hw := (vld_iff _).1 hc2; dsimp only at hw; omega)), trivial⟩ rfl ⟨rfl, fun _ => rfl, trivial⟩ ?_
          case' ga11 =>
            refine Safe.ends mixed Go.Proofs.Try.func15 12 [⟨1100, [(3, .tt true)]⟩, ⟨1200, [(4, .call [] (B true) []), (12, .tt true), (27, .tt true)]⟩, ⟨1300, []⟩] (r := B (true)) (hp := [(0, .ro ((2 : Nat)) (L.length) (rowG encR L))]) (ob := [decide ((↑k : Int) < (↑L.length : Int)) = true, (0 : Int) ≤ (↑k : Int) ∧ (↑k : Int) < (↑L.length : Int), k < L.length, CallOK Try.prog (31 : Nat) ([] ++ [AV.agg [AV.val (Value.int IntKind.i64 (L.getD k default).fst), AV.val (Value.int IntKind.i64 (L.getD k default).snd)]] ++ []) [] (AV.val (Value.bool true)) [], (0 : Int) ≤ (↑k : Int) ∧ (↑k : Int) < (↑L.length : Int), k < L.length, decide (n ≥ (L.getD k default).fst) = true, (0 : Int) ≤ (↑k : Int) ∧ (↑k : Int) < (↑L.length : Int), k < L.length, inK IntKind.i64 (n - (L.getD k default).fst), (0 : Int) ≤ (↑k : Int) ∧ (↑k : Int) < (↑L.length : Int), k < L.length, decide (n - (L.getD k default).fst < (L.getD k default).snd) = true]) rfl (by kernel_rfl) ⟨(decide_eq_true hc1), (by first | omega | (have hw := (vld_iff _).1 hc2; dsimp only at hw; omega)), (by first | omega | (have hw := (vld_iff _).1 hc2; dsimp only at hw; omega)), (CallOK.isB (one_any ((L.getD k default).fst) ((L.getD k default).snd)) (decide_eq_true hc2)), (by first | omega | (have hw := (vld_iff _).1 hc2; dsimp only at hw; omega)), (by first | omega | (have hw := (vld_iff _).1 hc2; dsimp only at hw; omega)), (decide_eq_true hc3), (by first | omega | (have hw := (vld_iff _).1 hc2; dsimp only at hw; omega)), (by first | omega | (have hw := (vld_iff _).1 hc2; dsimp only at hw; omega)), (by simp only [inK]; first | omega | (have hw := (vld_iff _).1 hc2; dsimp only at hw; omega)), (by first | omega | (have hw := (vld_iff _).1 hc2; dsimp only at hw; omega)), (by first | omega | (have hw := (vld_iff _).1 hc2; dsimp only at hw; omega)), (decide_eq_true hc4), trivial⟩ ?_ ⟨ObLe.refl _, trivial⟩ ⟨rfl, fun _ => rfl, trivial⟩ rfl
    · show B _ = B _
      have hw := (vld_iff _).1 hc2
      dsimp only at hw
      rw [hh (by omega) (by rw [inB, decide_eq_true hc2, decide_eq_true (by omega), decide_eq_true (by omega)]; rfl)]
    · have hw := (vld_iff _).1 hc2
      dsimp only at hw
      refine ih (k + 1) ⟨by omega, ?_⟩ (by omega)
      rw [hs (by omega), hf, inB, decide_eq_false (show ¬ n < _ by omega)]; simp
    · refine ih (k + 1) ⟨by omega, ?_⟩ (by omega)
      rw [hs (by omega), hf, inB, decide_eq_false (show ¬ _ ≤ n from hc3)]; simp
    · refine ih (k + 1) ⟨by omega, ?_⟩ (by omega)
      rw [hs (by omega), hf, inB, decide_eq_false hc2]; rfl
    · show B _ = B _
      rw [List.take_of_length_le (by omega)] at hf
      rw [hf]
  · intro H
    refine Safe.goto mixed 7 [⟨1100, []⟩, ⟨1200, []⟩] [0, 1, 5] [0] (todo' := loopAt Go.Proofs.Try.f15 0) (sl := slotsOf 41 [(0, .sl ((0 : Nat)) ((0 : Nat)) ((2 : Nat)) (L.length) (none)), (1, I (n)), (5, I ((0 : Int)))]) (hp := [(0, .ro ((2 : Nat)) (L.length) (rowG encR L))]) (ob := []) rfl rfl (by kernel_rfl) trivial rfl ⟨rfl, fun _ => rfl, trivial⟩ ?_
    exact H 0 ⟨Nat.zero_le _, rfl⟩
set_option maxRecDepth 10000 in
set_option maxHeartbeats 4000000 in
theorem has_any (L : List Rn) (n : Int) (hl : L.length ≤ 1000000) (hn : n ≤ 9223372036854775807) : CallOK Try.prog 14 [.sl 0 0 2 L.length none, I n] [(0, .ro 2 L.length (rowG encR L))] (B (hasB L n)) [] := by
  refine CallOK.intro Try.call14 Try.func14 rfl rfl ⟨rfl, fun _ => rfl, trivial⟩ ?_
  refine Safe.withLoop (loopAt Try.f14 0) [0] 31 (fun g : Nat => [(1, I n), (7, .sl 0 0 2 L.length none), (8, I L.length), (9, I g)]) (fun _ => [(0, .ro 2 L.length (rowG encR L))]) (fun g => g ≤ L.length ∧ hasB (L.take g) n = false) (fun g => L.length - g) ?_ ?_
  · rintro k ⟨hk, hf⟩ ih
    have hs := hasB_succ L n k
    have hh := has_hit L n k
    refine (Classical.em ((↑k : Int) < (↑L.length : Int))).elim (fun hc1 => ?ga12) (fun hc1 => ?gb12)
    case' gb12 =>
      refine Safe.ends mixed Go.Proofs.Try.func14 7 [⟨1100, [(0, .tt false)]⟩, ⟨1200, []⟩] (r := B (false)) (hp := [(0, .ro ((2 : Nat)) (L.length) (rowG encR L))]) (ob := [decide ((↑k : Int) < (↑L.length : Int)) = false]) rfl (by kernel_rfl) ⟨(decide_eq_false hc1), trivial⟩ ?_ ⟨ObLe.refl _, trivial⟩ ⟨rfl, fun _ => rfl, trivial⟩ rfl
    case' ga12 =>
      refine (Classical.em (Old.Vld ((L.getD k default).fst, (L.getD k default).snd))).elim (fun hc2 => ?ga13) (fun hc2 => ?gb13)
      case' gb13 =>
        refine Safe.goto mixed 16 [⟨1100, [(0, .tt true)]⟩, ⟨1200, []⟩, ⟨1300, [(1, .call [] (B false) [])]⟩, ⟨1400, []⟩] [1, 7, 8, 9] [0] (todo' := loopAt Go.Proofs.Try.f14 0) (sl := slotsOf 31 [(1, I (n)), (7, .sl ((0 : Nat)) ((0 : Nat)) ((2 : Nat)) (L.length) (none)), (8, I ((↑L.length : Int))), (9, I ((↑k : Int) + (1 : Int)))]) (hp := [(0, .ro ((2 : Nat)) (L.length) (rowG encR L))]) (ob := [decide ((↑k : Int) < (↑L.length : Int)) = true, (0 : Int) ≤ (↑k : Int) ∧ (↑k : Int) < (↑L.length : Int), k < L.length, CallOK Try.prog (30 : Nat) ([] ++ [AV.agg [AV.val (Value.int IntKind.i64 (L.getD k default).fst), AV.val (Value.int IntKind.i64 (L.getD k default).snd)]] ++ []) [] (AV.val (Value.bool false)) [], inK IntKind.i64 ((↑k : Int) + (1 : Int))]) rfl rfl (by kernel_rfl) ⟨(decide_eq_true hc1), (by first | omega | (have hw := (vld_iff _).1 hc2; dsimp only at hw; omega)), (by first | omega | (have hw := (vld_iff _).1 hc2; dsimp only at hw; omega)), (CallOK.isB (valid_any ((L.getD k default).fst) ((L.getD k default).snd)) (decide_eq_false hc2)), (by simp only [inK]; first | omega | (have hw := (vld_iff _).1 hc2; dsimp only at hw; omega)), trivial⟩ rfl ⟨rfl, fun _ => rfl, trivial⟩ ?_
      case' ga13 =>
        refine (Classical.em (n ≥ (L.getD k default).fst)).elim (fun hc3 => ?ga14) (fun hc3 => ?gb14)
        case' gb14 =>
          refine Safe.goto mixed 16 [⟨1100, [(0, .tt true)]⟩, ⟨1200, []⟩, ⟨1300, [(1, .call [] (B true) []), (6, .tt false)]⟩, ⟨1400, []⟩] [1, 7, 8, 9] [0] (todo' := loopAt Go.Proofs.Try.f14 0) (sl := slotsOf 31 [(1, I (n)), (7, .sl ((0 : Nat)) ((0 : Nat)) ((2 : Nat)) (L.length) (none)), (8, I ((↑L.length : Int))), (9, I ((↑k : Int) + (1 : Int)))]) (hp := [(0, .ro ((2 : Nat)) (L.length) (rowG encR L))]) (ob := [decide ((↑k : Int) < (↑L.length : Int)) = true, (0 : Int) ≤ (↑k : Int) ∧ (↑k : Int) < (↑L.length : Int), k < L.length, CallOK Try.prog (30 : Nat) ([] ++ [AV.agg [AV.val (Value.int IntKind.i64 (L.getD k default).fst), AV.val (Value.int IntKind.i64 (L.getD k default).snd)]] ++ []) [] (AV.val (Value.bool true)) [], decide (n ≥ (L.getD k default).fst) = false, inK IntKind.i64 ((↑k : Int) + (1 : Int))]) rfl rfl (by kernel_rfl) ⟨(decide_eq_true hc1), (by first | omega | (have hw := (vld_iff _).1 hc2; dsimp only at hw; omega)), (by first | omega | (have hw := (vld_iff _).1 hc2; dsimp only at hw; omega)), (CallOK.isB (valid_any ((L.getD k default).fst) ((L.getD k default).snd)) (decide_eq_true hc2)), (decide_eq_false hc3), (by simp only [inK]; first | omega | (have hw := (vld_iff _).1 hc2; dsimp only at hw; omega)), trivial⟩ rfl ⟨rfl, fun _ => rfl, trivial⟩ ?_
        case' ga14 =>
          refine (Classical.em (n < (L.getD k default).fst + (L.getD k default).snd)).elim (fun hc4 => ?ga15) (fun hc4 => ?gb15)
          case' gb15 =>
            refine Safe.goto mixed 16 [⟨1100, [(0, .tt true)]⟩, ⟨1200, []⟩, ⟨1300, [(1, .call [] (B true) []), (6, .tt true), (15, .tt false)]⟩, ⟨1400, []⟩] [1, 7, 8, 9] [0] (todo' := loopAt Go.Proofs.Try.f14 0) (sl := slotsOf 31 [(1, I (n)), (7, .sl ((0 : Nat)) ((0 : Nat)) ((2 : Nat)) (L.length) (none)), (8, I ((↑L.length : Int))), (9, I ((↑k : Int) + (1 : Int)))]) (hp := [(0, .ro ((2 : Nat)) (L.length) (rowG encR L))]) (ob := [decide ((↑k : Int) < (↑L.length : Int)) = true, (0 : Int) ≤ (↑k : Int) ∧ (↑k : Int) < (↑L.length : Int), k < L.length, CallOK Try.prog (30 : Nat) ([] ++ [AV.agg [AV.val (Value.int IntKind.i64 (L.getD k default).fst), AV.val (Value.int IntKind.i64 (L.getD k default).snd)]] ++ []) [] (AV.val (Value.bool true)) [], decide (n ≥ (L.getD k default).fst) = true, inK IntKind.i64 ((L.getD k default).fst + (L.getD k default).snd), decide (n < (L.getD k default).fst + (L.getD k default).snd) = false, inK IntKind.i64 ((↑k : Int) + (1 : Int))]) rfl rfl (by kernel_rfl) ⟨(decide_eq_true hc1), (by first | omega | (have hw := (vld_iff _).1 hc2; dsimp only at hw; omega)), (by first | omega | (have hw := (vld_iff _).1 hc2; dsimp only at hw; omega)), (CallOK.isB (valid_any ((L.getD k default).fst) ((L.getD k default).snd)) (decide_eq_true hc2)), (decide_eq_true hc3), (by simp only [inK]; first | omega | (have hw := (vld_iff _).1 hc2; dsimp only at hw; omega)), (decide_eq_false hc4), (by simp only [inK]; first | omega | (have hw := (vld_iff _).1 hc2; dsimp only at hw; omega)), trivial⟩ rfl ⟨rfl, fun _ => rfl, trivial⟩ ?_
          case' ga15 =>
            refine Safe.ends mixed Go.Proofs.Try.func14 14 [⟨1100, [(0, .tt true)]⟩, ⟨1200, []⟩, ⟨1300, [(1, .call [] (B true) []), (6, .tt true), (15, .tt true)]⟩, ⟨1400, []⟩] (r := B (true)) (hp := [(0, .ro ((2 : Nat)) (L.length) (rowG encR L))]) (ob := [decide ((↑k : Int) < (↑L.length : Int)) = true, (0 : Int) ≤ (↑k : Int) ∧ (↑k : Int) < (↑L.length : Int), k < L.length, CallOK Try.prog (30 : Nat) ([] ++ [AV.agg [AV.val (Value.int IntKind.i64 (L.getD k default).fst), AV.val (Value.int IntKind.i64 (L.getD k default).snd)]] ++ []) [] (AV.val (Value.bool true)) [], decide (n ≥ (L.getD k default).fst) = true, inK IntKind.i64 ((L.getD k default).fst + (L.getD k default).snd), decide (n < (L.getD k default).fst + (L.getD k default).snd) = true]) rfl (by kernel_rfl) ⟨(decide_eq_true hc1), (by first | omega | (have hw := (vld_iff _).1 hc2; dsimp only at hw; omega)), (by first | omega | (have hw := (vld_iff _).1 hc2; dsimp only at hw; omega)), (CallOK.isB (valid_any ((L.getD k default).fst) ((L.getD k default).snd)) (decide_eq_true hc2)), (decide_eq_true hc3), (by simp only [inK]; first | omega | (have hw := (vld_iff _).1 hc2; dsimp only at hw; omega)), (decide_eq_true hc4), trivial⟩ ?_ ⟨ObLe.refl _, trivial⟩ ⟨rfl, fun _ => rfl, trivial⟩ rfl
    · show B _ = B _
      have hw := (vld_iff _).1 hc2
      dsimp only at hw
      rw [hh (by omega) (by rw [inB, decide_eq_true hc2, decide_eq_true (by omega), decide_eq_true (by omega)]; rfl)]
    · have hw := (vld_iff _).1 hc2
      dsimp only at hw
      refine ih (k + 1) ⟨by omega, ?_⟩ (by omega)
      rw [hs (by omega), hf, inB, decide_eq_false (show ¬ n < _ by omega)]; simp
    · refine ih (k + 1) ⟨by omega, ?_⟩ (by omega)
      rw [hs (by omega), hf, inB, decide_eq_false (show ¬ _ ≤ n from hc3)]; simp
    · refine ih (k + 1) ⟨by omega, ?_⟩ (by omega)
      rw [hs (by omega), hf, inB, decide_eq_false hc2]; rfl
    · show B _ = B _
      rw [List.take_of_length_le (by omega)] at hf
      rw [hf]
  · intro H
    refine Safe.goto mixed 7 [⟨1100, []⟩, ⟨1200, []⟩] [1, 7, 8, 9] [0] (todo' := loopAt Go.Proofs.Try.f14 0) (sl := slotsOf 31 [(1, I (n)), (7, .sl ((0 : Nat)) ((0 : Nat)) ((2 : Nat)) (L.length) (none)), (8, I ((↑L.length : Int))), (9, I ((0 : Int)))]) (hp := [(0, .ro ((2 : Nat)) (L.length) (rowG encR L))]) (ob := []) rfl rfl (by kernel_rfl) trivial rfl ⟨rfl, fun _ => rfl, trivial⟩ ?_
    exact H 0 ⟨Nat.zero_le _, rfl⟩
end Go.Proofs.Ytgfdmeaganhpiaa
