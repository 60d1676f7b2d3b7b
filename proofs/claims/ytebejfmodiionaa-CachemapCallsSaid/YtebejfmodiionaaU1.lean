/- The reference's lists: has, block, without, copied, New. -/
import Derived.Test.YtebejfmodiionaaSyX
import Derived.KernelRfl
import Derived.Test.YtebejfmodiionaaU0
namespace Go.Proofs.Ytebejfmodiionaa
open Go.RowKit
set_option linter.unusedVariables false
set_option linter.unnecessarySimpa false
theorem ob_app {α : Type} [Inhabited α] {σ : List (Nat × Nat)} {ty es : Nat} (enc : α → List AV) (L L' : List α) (x : α) (r2 : Nat → List AV) (hL : L' = L ++ [x]) (n : Nat) (hn : n = L.length + 1) (h2 : ∀ x, renL σ (enc x) = enc x) (h : renL σ (r2 0) = enc x) : ObLe (.vec ty es n (fun q => renL σ (catR L.length (rowG enc L) r2 q))) (.vec ty es L'.length (rowG enc L')) := by
  subst hL
  exact ob_ren_one enc L x r2 hn h2 h
structure Sl where
  valid : Bool
  dirty : Bool
  block : Int
  stamp : Int
instance : Inhabited Sl := ⟨⟨false, false, 0, 0⟩⟩
def encC (x : Sl) : List AV := [B x.valid, B x.dirty, I x.block, I x.stamp]
def blkB (b : Int) : Bool := decide (0 ≤ b) && decide (b ≤ 16777215)
set_option maxRecDepth 10000 in
set_option maxHeartbeats 4000000 in
theorem rblock_any (b : Int) : CallOK Try.prog 37 [I b] [] (B (blkB b)) [] := by
  refine CallOK.intro Try.call37 Try.func37 rfl rfl trivial ?_
  refine (Classical.em (b ≥ (0 : Int))).elim (fun hc1 => ?ga0) (fun hc1 => ?gb0)
  case' gb0 =>
    refine Safe.ends mixed Go.Proofs.Try.func37 4 [⟨100, []⟩, ⟨200, [(1, .tt false)]⟩] (r := B (false)) (hp := []) (ob := [decide (b ≥ (0 : Int)) = false]) rfl (by kernel_rfl) ⟨(decide_eq_false hc1), trivial⟩ ?_ trivial trivial rfl
  case' ga0 =>
    refine Safe.ends mixed Go.Proofs.Try.func37 4 [⟨100, []⟩, ⟨200, [(1, .tt true)]⟩] (r := B (decide (b ≤ (16777215 : Int)))) (hp := []) (ob := [decide (b ≥ (0 : Int)) = true]) rfl (by kernel_rfl) ⟨(decide_eq_true hc1), trivial⟩ ?_ trivial trivial rfl
  · show B _ = B _
    rw [blkB, decide_eq_true (show 0 ≤ b from hc1), Bool.true_and]
  · show B _ = B _
    rw [blkB, decide_eq_false (show ¬ 0 ≤ b from hc1), Bool.false_and]
set_option maxRecDepth 10000 in
set_option maxHeartbeats 4000000 in
theorem isBlock_any (b : Int) : CallOK Try.prog 36 [I b] [] (B (blkB b)) [] := by
  refine CallOK.intro Try.call36 Try.func36 rfl rfl trivial ?_
  refine (Classical.em (b ≥ (0 : Int))).elim (fun hc1 => ?ga1) (fun hc1 => ?gb1)
  case' gb1 =>
    refine Safe.ends mixed Go.Proofs.Try.func36 4 [⟨100, []⟩, ⟨200, [(1, .tt false)]⟩] (r := B (false)) (hp := []) (ob := [decide (b ≥ (0 : Int)) = false]) rfl (by kernel_rfl) ⟨(decide_eq_false hc1), trivial⟩ ?_ trivial trivial rfl
  case' ga1 =>
    refine Safe.ends mixed Go.Proofs.Try.func36 4 [⟨100, []⟩, ⟨200, [(1, .tt true)]⟩] (r := B (decide (b ≤ (16777215 : Int)))) (hp := []) (ob := [decide (b ≥ (0 : Int)) = true]) rfl (by kernel_rfl) ⟨(decide_eq_true hc1), trivial⟩ ?_ trivial trivial rfl
  · show B _ = B _
    rw [blkB, decide_eq_true (show 0 ≤ b from hc1), Bool.true_and]
  · show B _ = B _
    rw [blkB, decide_eq_false (show ¬ 0 ≤ b from hc1), Bool.false_and]
theorem mem_take_succ (l : List Int) (n : Int) (k : Nat) (hk : k < l.length) : n ∈ l.take (k + 1) ↔ n ∈ l.take k ∨ l.getD k default = n := by
  rw [List.take_succ_eq_append_getElem hk, List.mem_append, List.mem_singleton, List.getD_eq_getElem?_getD, List.getElem?_eq_getElem hk]
  exact or_congr_right eq_comm
set_option maxRecDepth 10000 in
set_option maxHeartbeats 4000000 in
theorem has_any (l : List Int) (n : Int) (hl : l.length ≤ 1000000) : CallOK Try.prog 38 [.sl 0 0 1 l.length none, I n] [(0, .ro 1 l.length (rowG encI l))] (B (decide (n ∈ l))) [] := by
  refine CallOK.intro Try.call38 Try.func38 rfl rfl ⟨rfl, fun _ => rfl, trivial⟩ ?_
  refine Safe.withLoop (loopAt Try.f38 0) [0] 18 (fun g : Nat => [(0, .sl 0 0 1 l.length none), (1, I n), (5, I g)]) (fun _ => [(0, .ro 1 l.length (rowG encI l))]) (fun g => g ≤ l.length ∧ n ∉ l.take g) (fun g => l.length - g) ?_ ?_
  · rintro k ⟨hk, hn⟩ ih
    have hs := mem_take_succ l n k
    refine (Classical.em ((↑k : Int) < (↑l.length : Int))).elim (fun hc1 => ?ga2) (fun hc1 => ?gb2)
    case' gb2 =>
      refine Safe.ends mixed Go.Proofs.Try.func38 7 [⟨1100, [(3, .tt false)]⟩, ⟨1200, []⟩] (r := B (false)) (hp := [(0, .ro ((1 : Nat)) (l.length) (rowG encI l))]) (ob := [decide ((↑k : Int) < (↑l.length : Int)) = false]) rfl (by kernel_rfl) ⟨(decide_eq_false hc1), trivial⟩ ?_ ⟨ObLe.refl _, trivial⟩ ⟨rfl, fun _ => rfl, trivial⟩ rfl
    case' ga2 =>
      refine (Classical.em (l.getD k default = n)).elim (fun hc2 => ?ga3) (fun hc2 => ?gb3)
      case' gb3 =>
        refine Safe.goto mixed 14 [⟨1100, [(3, .tt true)]⟩, ⟨1200, [(5, .tt false)]⟩, ⟨1300, []⟩] [0, 1, 5] [0] (todo' := loopAt Go.Proofs.Try.f38 0) (sl := slotsOf 18 [(0, .sl ((0 : Nat)) ((0 : Nat)) ((1 : Nat)) (l.length) (none)), (1, I (n)), (5, I ((↑k : Int) + (1 : Int)))]) (hp := [(0, .ro ((1 : Nat)) (l.length) (rowG encI l))]) (ob := [decide ((↑k : Int) < (↑l.length : Int)) = true, (0 : Int) ≤ (↑k : Int) ∧ (↑k : Int) < (↑l.length : Int), k < l.length, decide (l.getD k default = n) = false, inK IntKind.i64 ((↑k : Int) + (1 : Int))]) rfl rfl (by kernel_rfl) ⟨(decide_eq_true hc1), (by omega), (by omega), (decide_eq_false hc2), (by simp only [inK]; omega), trivial⟩ rfl ⟨rfl, fun _ => rfl, trivial⟩ ?_
      case' ga3 =>
        refine Safe.ends mixed Go.Proofs.Try.func38 12 [⟨1100, [(3, .tt true)]⟩, ⟨1200, [(5, .tt true)]⟩, ⟨1300, []⟩] (r := B (true)) (hp := [(0, .ro ((1 : Nat)) (l.length) (rowG encI l))]) (ob := [decide ((↑k : Int) < (↑l.length : Int)) = true, (0 : Int) ≤ (↑k : Int) ∧ (↑k : Int) < (↑l.length : Int), k < l.length, decide (l.getD k default = n) = true]) rfl (by kernel_rfl) ⟨(decide_eq_true hc1), (by omega), (by omega), (decide_eq_true hc2), trivial⟩ ?_ ⟨ObLe.refl _, trivial⟩ ⟨rfl, fun _ => rfl, trivial⟩ rfl
    · show B _ = B _
      rw [decide_eq_true (List.mem_of_mem_take ((hs (by omega)).2 (.inr hc2)))]
    · refine ih (k + 1) ⟨by omega, fun h => ?_⟩ (by omega)
      exact ((hs (by omega)).1 h).elim hn hc2
    · show B _ = B _
      rw [List.take_of_length_le (by omega)] at hn
      rw [decide_eq_false hn]
  · intro H
    refine Safe.goto mixed 7 [⟨1100, []⟩, ⟨1200, []⟩] [0, 1, 5] [0] (todo' := loopAt Go.Proofs.Try.f38 0) (sl := slotsOf 18 [(0, .sl ((0 : Nat)) ((0 : Nat)) ((1 : Nat)) (l.length) (none)), (1, I (n)), (5, I ((0 : Int)))]) (hp := [(0, .ro ((1 : Nat)) (l.length) (rowG encI l))]) (ob := []) rfl rfl (by kernel_rfl) trivial rfl ⟨rfl, fun _ => rfl, trivial⟩ ?_
    exact H 0 ⟨Nat.zero_le _, by simp⟩
def wo (l : List Int) (n : Int) : List Int := l.filter fun x => decide (x ≠ n)
theorem wo_succ (l : List Int) (n : Int) (k : Nat) (hk : k < l.length) : wo (l.take (k + 1)) n = wo (l.take k) n ++ if l.getD k default = n then [] else [l.getD k default] := by
  have e : l.getD k default = l[k] := by rw [List.getD_eq_getElem?_getD, List.getElem?_eq_getElem hk]; rfl
  rw [List.take_succ_eq_append_getElem hk, wo, List.filter_append, e]
  unfold wo
  congr 1
  by_cases h : l[k] = n <;> simp [h]
theorem wo_len (l : List Int) (n : Int) : (wo l n).length ≤ l.length := List.length_filter_le _ _
set_option maxRecDepth 10000 in
set_option maxHeartbeats 4000000 in
theorem without_any (l : List Int) (n : Int) (hl : l.length ≤ 1000000) : CallOK Try.prog 50 [.sl 0 0 1 l.length none, I n] [(0, .ro 1 l.length (rowG encI l))] (.sl 10 0 1 (wo l n).length none) [(10, some (.vec 3 1 (wo l n).length (rowG encI (wo l n))))] := by
  refine CallOK.intro Try.call50 Try.func50 rfl rfl ⟨rfl, fun _ => rfl, trivial⟩ ?_
  refine Safe.withLoop (loopAt Try.f50 0) [0, 10] 27 (fun g : Nat => [(0, .sl 0 0 1 l.length none), (1, I n), (5, .sl 10 0 1 (wo (l.take g) n).length none), (6, I g)]) (fun g => [(0, .ro 1 l.length (rowG encI l)), (10, .vec 3 1 (wo (l.take g) n).length (rowG encI (wo (l.take g) n)))]) (fun g => g ≤ l.length) (fun g => l.length - g) ?_ ?_
  · rintro k hk ih
    have hs := wo_succ l n k
    have hw := wo_len (l.take k) n
    have hw2 : (l.take k).length ≤ k := by simp; omega
    refine (Classical.em ((↑k : Int) < (↑l.length : Int))).elim (fun hc1 => ?ga4) (fun hc1 => ?gb4)
    case' gb4 =>
      refine Safe.ends mixed Go.Proofs.Try.func50 7 [⟨1100, [(3, .tt false)]⟩, ⟨1200, []⟩] (r := .sl ((10 : Nat)) ((0 : Nat)) ((1 : Nat)) ((wo (List.take k l) n).length) (none)) (hp := [(0, .ro ((1 : Nat)) (l.length) (rowG encI l)), (10, .vec ((3 : Nat)) ((1 : Nat)) ((wo (List.take k l) n).length) (rowG encI (wo (List.take k l) n)))]) (ob := [decide ((↑k : Int) < (↑l.length : Int)) = false]) rfl (by kernel_rfl) ⟨(decide_eq_false hc1), trivial⟩ ?_ ⟨ObLe.refl _, ?_, trivial⟩ ⟨rfl, fun _ => rfl, rfl, fun _ => rfl, trivial⟩ rfl
    case' ga4 =>
      refine (Classical.em (¬l.getD k default = n)).elim (fun hc2 => ?ga5) (fun hc2 => ?gb5)
      case' gb5 =>
        refine Safe.goto mixed 14 [⟨1100, [(3, .tt true)]⟩, ⟨1200, [(5, .tt false)]⟩, ⟨1300, []⟩] [0, 1, 5, 6] [0, 10] (todo' := loopAt Go.Proofs.Try.f50 0) (sl := slotsOf 27 [(0, .sl ((0 : Nat)) ((0 : Nat)) ((1 : Nat)) (l.length) (none)), (1, I (n)), (5, .sl ((10 : Nat)) ((0 : Nat)) ((1 : Nat)) ((wo (List.take k l) n).length) (none)), (6, I ((↑k : Int) + (1 : Int)))]) (hp := [(0, .ro ((1 : Nat)) (l.length) (rowG encI l)), (10, .vec ((3 : Nat)) ((1 : Nat)) ((wo (List.take k l) n).length) (rowG encI (wo (List.take k l) n)))]) (ob := [decide ((↑k : Int) < (↑l.length : Int)) = true, (0 : Int) ≤ (↑k : Int) ∧ (↑k : Int) < (↑l.length : Int), k < l.length, (decide ¬l.getD k default = n) = false, inK IntKind.i64 ((↑k : Int) + (1 : Int))]) rfl rfl (by kernel_rfl) ⟨(decide_eq_true hc1), (by omega), (by omega), (decide_eq_false hc2), (by simp only [inK]; omega), trivial⟩ rfl ⟨rfl, fun _ => rfl, rfl, fun _ => rfl, trivial⟩ ?_
      case' ga5 =>
        refine Safe.goto mixed 14 [⟨1100, [(3, .tt true)]⟩, ⟨1200, [(5, .tt true)]⟩, ⟨1300, []⟩, ⟨1400, []⟩] [0, 1, 5, 6] [0, 1306] (todo' := loopAt Go.Proofs.Try.f50 0) (sl := slotsOf 27 [(0, .sl ((0 : Nat)) ((0 : Nat)) ((1 : Nat)) (l.length) (none)), (1, I (n)), (5, .sl ((1306 : Nat)) ((0 : Nat)) ((1 : Nat)) (addN (wo (List.take k l) n).length (1 : Nat)) (none)), (6, I ((↑k : Int) + (1 : Int)))]) (hp := [(0, .ro ((1 : Nat)) (l.length) (rowG encI l)), (1306, .vec ((3 : Nat)) ((1 : Nat)) (addN (wo (List.take k l) n).length (1 : Nat)) (catR (wo (List.take k l) n).length (rowG encI (wo (List.take k l) n)) (rowsOf [AV.val (Value.int IntKind.i64 (l.getD k default))] (1 : Nat))))]) (ob := [decide ((↑k : Int) < (↑l.length : Int)) = true, (0 : Int) ≤ (↑k : Int) ∧ (↑k : Int) < (↑l.length : Int), k < l.length, (decide ¬l.getD k default = n) = true, (0 : Int) ≤ (↑k : Int) ∧ (↑k : Int) < (↑l.length : Int), k < l.length, (0 : Nat) + (1 : Nat) ≤ (1 : Nat), (wo (List.take k l) n).length = (wo (List.take k l) n).length, (wo (List.take k l) n).length + (1 : Nat) ≤ (1099511627776 : Nat), inK IntKind.i64 ((↑k : Int) + (1 : Int))]) rfl rfl (by kernel_rfl) ⟨(decide_eq_true hc1), (by omega), (by omega), (decide_eq_true hc2), (by omega), (by omega), (by omega), (by omega), (by omega), (by simp only [inK]; omega), trivial⟩ rfl ⟨rfl, fun _ => rfl, rfl, closed_cat (fun _ => rfl) (closed_rows rfl), trivial⟩ ?_
        refine Safe.ren [(1306, 10)] rfl rfl rfl rfl ⟨rfl, fun _ => rfl, rfl, closed_cat (fun _ => rfl) (closed_rows rfl), trivial⟩ ?_
    · have e1 := hs (by omega)
      rw [if_neg hc2] at e1
      have e2 : addN (wo (l.take k) n).length 1 = (wo (l.take (k + 1)) n).length := by rw [addN_eq, e1, List.length_append]; rfl
      rw [e2]
      refine Safe.leH (ih (k + 1) (by omega) (by omega)) rfl (SlLe.refl _) ⟨ObLe.refl _, ?_, trivial⟩ rfl ⟨rfl, fun _ => rfl, rfl, fun _ => rfl, trivial⟩
      exact ob_app encI _ _ _ _ e1 _ (by rw [e1, List.length_append]; rfl) (fun _ => rfl) rfl
    · have e1 := hs (by omega)
      rw [if_pos (Classical.not_not.1 hc2), List.append_nil] at e1
      have hh := ih (k + 1) (by omega) (by omega)
      rw [e1] at hh
      exact hh
    · rw [List.take_of_length_le (show l.length ≤ k by omega)]; rfl
    · rw [List.take_of_length_le (show l.length ≤ k by omega)]; exact ObLe.refl _
  · intro H
    refine Safe.goto mixed 9 [⟨1100, []⟩, ⟨1200, []⟩, ⟨1300, []⟩] [0, 1, 5, 6] [0] (todo' := loopAt Go.Proofs.Try.f50 0) (sl := slotsOf 27 [(0, .sl ((0 : Nat)) ((0 : Nat)) ((1 : Nat)) (l.length) (none)), (1, I (n)), (5, .val (Value.slice none (0 : Nat) (0 : Nat))), (6, I ((0 : Int)))]) (hp := [(0, .ro ((1 : Nat)) (l.length) (rowG encI l))]) (ob := []) rfl rfl (by kernel_rfl) trivial rfl ⟨rfl, fun _ => rfl, trivial⟩ ?_
    refine Safe.nil 5 10 3 1 (rowG encI []) rfl rfl ⟨rfl, fun _ => rfl, trivial⟩ ?_ rfl
    exact Safe.leH (H 0 (Nat.zero_le _)) rfl (SlLe.refl _) ⟨ObLe.refl _, ObLe.refl _, trivial⟩ rfl ⟨rfl, fun _ => rfl, rfl, fun _ => rfl, trivial⟩
set_option maxRecDepth 10000 in
set_option maxHeartbeats 4000000 in
theorem copied_any (S : List Sl) (c : Int) (M : List Int) (hS : S.length ≤ 1000000) (hM : M.length ≤ 1000000) : CallOK Try.prog 48 [.agg [.sl 1 0 4 S.length none, I c, .sl 2 0 1 M.length none]] [(1, .ro 4 S.length (rowG encC S)), (2, .ro 1 M.length (rowG encI M))] (.agg [.sl 10 0 4 S.length none, I c, .sl 11 0 1 M.length none]) [(10, some (.vec 51 4 S.length (rowG encC S))), (11, some (.vec 3 1 M.length (rowG encI M)))] := by
  refine CallOK.intro Try.call48 Try.func48 rfl rfl ⟨rfl, fun _ => rfl, rfl, fun _ => rfl, trivial⟩ ?_
  refine Safe.gotoE mixed 4 [⟨1100, []⟩, ⟨1200, []⟩] [2] [1, 2, 1202, 1207, 1101] (sl := slotsOf 12 [(2, .ptr ((1101 : Nat)) ((0 : Nat)) ((0 : Nat)) ((0 : Nat)))]) (hp := [(1, .ro ((4 : Nat)) (S.length) (rowG encC S)), (2, .ro ((1 : Nat)) (M.length) (rowG encI M)), (1202, .vec ((51 : Nat)) ((4 : Nat)) (S.length) (rowG encC S)), (1207, .vec ((3 : Nat)) ((1 : Nat)) (M.length) (rowG encI M)), (1101, .blk ((25 : Nat)) [.sl ((1202 : Nat)) ((0 : Nat)) ((4 : Nat)) (S.length) (none), I (c), .sl ((1207 : Nat)) ((0 : Nat)) ((1 : Nat)) (M.length) (none)])]) (ob := [(0 : Nat) + S.length ≤ S.length, S.length ≤ (1099511627776 : Nat), (0 : Nat) + M.length ≤ M.length, M.length ≤ (1099511627776 : Nat)]) rfl rfl (by kernel_rfl) ⟨(by omega), (by omega), (by omega), (by omega), trivial⟩ rfl ⟨rfl, fun _ => rfl, rfl, fun _ => rfl, rfl, fun _ => rfl, rfl, fun _ => rfl, rfl, rfl, trivial⟩ fun td htd => ?_
  refine Safe.ren [(1202, 10), (1207, 11)] rfl rfl rfl rfl ⟨rfl, fun _ => rfl, rfl, fun _ => rfl, rfl, fun _ => rfl, rfl, fun _ => rfl, rfl, rfl, trivial⟩ ?_
  refine Safe.endsT Go.Proofs.Try.func48 htd (r := .agg [.sl ((10 : Nat)) ((0 : Nat)) ((4 : Nat)) (S.length) (none), I (c), .sl ((11 : Nat)) ((0 : Nat)) ((1 : Nat)) (M.length) (none)]) (hp := [(1, .ro ((4 : Nat)) (S.length) (fun q => renL [((1202 : Nat), (10 : Nat)), ((1207 : Nat), (11 : Nat))] (rowG encC S q))), (2, .ro ((1 : Nat)) (M.length) (fun q => renL [((1202 : Nat), (10 : Nat)), ((1207 : Nat), (11 : Nat))] (rowG encI M q))), (10, .vec ((51 : Nat)) ((4 : Nat)) (S.length) (fun q => renL [((1202 : Nat), (10 : Nat)), ((1207 : Nat), (11 : Nat))] (rowG encC S q))), (11, .vec ((3 : Nat)) ((1 : Nat)) (M.length) (fun q => renL [((1202 : Nat), (10 : Nat)), ((1207 : Nat), (11 : Nat))] (rowG encI M q)))]) (ob := []) rfl (by kernel_rfl) trivial rfl ⟨⟨rfl, rfl, fun _ _ => rfl⟩, ⟨rfl, rfl, fun _ _ => rfl⟩, ⟨rfl, rfl, rfl, fun _ _ => rfl⟩, ⟨rfl, rfl, rfl, fun _ _ => rfl⟩, trivial⟩ ⟨rfl, fun _ => rfl, rfl, fun _ => rfl, rfl, fun _ => rfl, rfl, fun _ => rfl, trivial⟩ rfl
end Go.Proofs.Ytebejfmodiionaa
