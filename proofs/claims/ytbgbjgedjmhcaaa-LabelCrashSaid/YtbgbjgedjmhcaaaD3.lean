/- Words: a list of words that are made from a number. No conditions but those of each theorem. -/
import Derived.Test.YtbgbjgedjmhcaaaSyZ
import Derived.KernelRfl
import Derived.Test.YtbgbjgedjmhcaaaProg
namespace Go.Proofs.Ytbgbjgedjmhcaaa
open Go.RowKit
set_option linter.unusedVariables false
set_option linter.unusedSimpArgs false
theorem mixed : Try.prog.follows .mixedOrders = true := by kernel_rfl
def U (z : Int) : AV := .val (.int .u64 z)
def encU (z : Int) : List AV := [U z]
def wrd (s : Int) (i : Nat) : Int := IntKind.u64.wrap (s + IntKind.u64.wrap ((i : Int) * 11400714819323198485))
def wordsL (s : Int) (n : Nat) : List Int := (List.range n).map (wrd s)
theorem wordsL_len (s : Int) (n : Nat) : (wordsL s n).length = n := by simp [wordsL]
theorem wordsL_succ (s : Int) (n : Nat) : wordsL s (n + 1) = wordsL s n ++ [wrd s n] := by simp [wordsL, List.range_succ]
theorem fits_any (s a n : Int) (hs : 0 ≤ s ∧ s ≤ 9223372036854775807) : CallOK Try.prog 102 [I s, I a, I n] [] (B (decide (0 ≤ a ∧ a ≤ s ∧ 0 ≤ n ∧ n ≤ s - a))) [] := by
  refine CallOK.intro Try.call102 Try.func102 rfl rfl trivial ?_
  refine (Classical.em (a ≥ (0 : Int))).elim (fun hc1 => ?ga0) (fun hc1 => ?gb0)
  case' gb0 =>
    refine Safe.ends mixed Try.func102 4 [⟨100, []⟩, ⟨200, [(1, .tt false)]⟩] (r := B false) (hp := []) (ob := [decide (a ≥ (0 : Int)) = false]) rfl (by kernel_rfl) ⟨(decide_eq_false hc1), trivial⟩ ?_ trivial trivial rfl
  case' ga0 =>
    refine (Classical.em (a ≤ s)).elim (fun hc2 => ?ga1) (fun hc2 => ?gb1)
    case' gb1 =>
      refine Safe.ends mixed Try.func102 4 [⟨100, []⟩, ⟨200, [(1, .tt true), (5, .tt false)]⟩] (r := B false) (hp := []) (ob := [decide (a ≥ (0 : Int)) = true, decide (a ≤ s) = false]) rfl (by kernel_rfl) ⟨(decide_eq_true hc1), (decide_eq_false hc2), trivial⟩ ?_ trivial trivial rfl
    case' ga1 =>
      refine (Classical.em (n ≥ (0 : Int))).elim (fun hc3 => ?ga2) (fun hc3 => ?gb2)
      case' gb2 =>
        refine Safe.ends mixed Try.func102 4 [⟨100, []⟩, ⟨200, [(1, .tt true), (5, .tt true), (9, .tt false)]⟩] (r := B false) (hp := []) (ob := [decide (a ≥ (0 : Int)) = true, decide (a ≤ s) = true, decide (n ≥ (0 : Int)) = false]) rfl (by kernel_rfl) ⟨(decide_eq_true hc1), (decide_eq_true hc2), (decide_eq_false hc3), trivial⟩ ?_ trivial trivial rfl
      case' ga2 =>
        refine Safe.ends mixed Try.func102 4 [⟨100, []⟩, ⟨200, [(1, .tt true), (5, .tt true), (9, .tt true)]⟩] (r := B (decide (n ≤ s - a))) (hp := []) (ob := [decide (a ≥ (0 : Int)) = true, decide (a ≤ s) = true, decide (n ≥ (0 : Int)) = true, inK IntKind.i64 (s - a)]) rfl (by kernel_rfl) ⟨(decide_eq_true hc1), (decide_eq_true hc2), (decide_eq_true hc3), (by simp only [inK]; omega), trivial⟩ ?_ trivial trivial rfl
  · rw [show (decide (0 ≤ a ∧ a ≤ s ∧ 0 ≤ n ∧ n ≤ s - a)) = decide (n ≤ s - a) from decide_eq_decide.2 (by omega)]; rfl
  · rw [decide_eq_false (show ¬ (0 ≤ a ∧ a ≤ s ∧ 0 ≤ n ∧ n ≤ s - a) by omega)]; rfl
  · rw [decide_eq_false (show ¬ (0 ≤ a ∧ a ≤ s ∧ 0 ≤ n ∧ n ≤ s - a) by omega)]; rfl
  · rw [decide_eq_false (show ¬ (0 ≤ a ∧ a ≤ s ∧ 0 ≤ n ∧ n ≤ s - a) by omega)]; rfl
set_option maxRecDepth 10000 in
set_option maxHeartbeats 4000000 in
theorem words_any (n : Nat) (s : Int) (hn : n ≤ 1000) : CallOK Try.prog 35 [I n, U s] [] (.sl 10 0 1 n none) [(10, some (.vec 22 1 n (rowG encU (wordsL s n))))] := by
  refine CallOK.intro Try.call35 Try.func35 rfl rfl trivial ?_
  refine Safe.withLoop (loopAt Try.f35 0) [20] 21 (fun i : Nat => [(0, I n), (1, U s), (5, .sl 20 0 1 (wordsL s i).length none), (6, I i)]) (fun i => [(20, .vec 22 1 (wordsL s i).length (rowG encU (wordsL s i)))]) (fun i => i ≤ n) (fun i => n - i) ?_ ?_
  · rintro i hi ih
    have hl := wordsL_len s i
    refine (Classical.em ((↑i : Int) < (↑n : Int))).elim (fun hc1 => ?ga3) (fun hc1 => ?gb3)
    case' gb3 =>
      refine Safe.gotoE mixed 7 [⟨1100, [(2, .tt false)]⟩, ⟨1200, []⟩] [4] [20] (sl := slotsOf 21 [(4, .sl 20 0 1 ((wordsL s i).length) none)]) (hp := [(20, .vec 22 1 ((wordsL s i).length) (rowG encU (wordsL s i)))]) (ob := [decide ((↑i : Int) < (↑n : Int)) = false]) rfl rfl (by kernel_rfl) ⟨(decide_eq_false hc1), trivial⟩ rfl ⟨rfl, fun _ => rfl, trivial⟩ fun td htd => ?_
      refine Safe.ren [(20, 10)] rfl rfl rfl rfl ⟨rfl, fun _ => rfl, trivial⟩ ?_
      refine Safe.endsT Try.func35 htd (r := .sl 10 0 1 ((wordsL s i).length) none) (hp := [(10, .vec 22 1 ((wordsL s i).length) (fun q => renL [((20 : Nat), (10 : Nat))] (rowG encU (wordsL s i) q)))]) (ob := []) rfl (by kernel_rfl) trivial ?_ ⟨?_, trivial⟩ ⟨rfl, fun _ => rfl, trivial⟩ rfl
    case' ga3 =>
      refine Safe.goto mixed 11 [⟨1100, [(2, .tt true)]⟩, ⟨1200, [(4, .wrap), (5, .wrap)]⟩, ⟨1300, []⟩] [0, 1, 5, 6] [1207] (todo' := loopAt Try.f35 0) (sl := slotsOf 21 [(0, I ((↑n : Int))), (1, .val (Value.int IntKind.u64 s)), (5, .sl 1207 0 1 (addN (wordsL s i).length (1 : Nat)) none), (6, I ((↑i : Int) + (1 : Int)))]) (hp := [(1207, .vec 22 1 (addN (wordsL s i).length (1 : Nat)) (catR (wordsL s i).length (rowG encU (wordsL s i)) (rowsOf [AV.val (Value.int IntKind.u64 (IntKind.u64.wrap (s + IntKind.u64.wrap ((↑i : Int) * (11400714819323198485 : Int)))))] (1 : Nat))))]) (ob := [decide ((↑i : Int) < (↑n : Int)) = true, inK IntKind.u64 (↑i : Int), (0 : Nat) + (1 : Nat) ≤ (1 : Nat), (wordsL s i).length = (wordsL s i).length, (wordsL s i).length + (1 : Nat) ≤ (1099511627776 : Nat), inK IntKind.i64 ((↑i : Int) + (1 : Int))]) rfl rfl (by kernel_rfl) ⟨(decide_eq_true hc1), (by simp only [inK]; omega), (by omega), (by omega), (by omega), (by simp only [inK]; omega), trivial⟩ rfl ⟨rfl, closed_cat (fun _ => rfl) (closed_rows rfl), trivial⟩ ?_
      refine Safe.ren [(1207, 20)] rfl rfl rfl rfl ⟨rfl, closed_cat (fun _ => rfl) (closed_rows rfl), trivial⟩ ?_
    · skip
      have e2 : addN (wordsL s i).length 1 = (wordsL s (i + 1)).length := by rw [addN_eq, wordsL_len, wordsL_len]
      rw [e2]
      refine Safe.leH (ih (i + 1) (by omega) (by omega)) rfl (SlLe.refl _) ⟨?_, trivial⟩ rfl ⟨rfl, fun _ => rfl, trivial⟩
      rw [wordsL_succ]
      exact ob_ren_one encU (wordsL s i) (wrd s i) _ (by simp) (fun _ => rfl) rfl
    · rw [wordsL_len, show i = n by omega]; rfl
    · rw [wordsL_len, show i = n by omega]; exact ⟨rfl, rfl, rfl, fun _ _ => rfl⟩
  · intro H
    refine Safe.goto mixed 9 [⟨100, []⟩, ⟨200, []⟩, ⟨300, []⟩] [0, 1, 5, 6] [] (todo' := loopAt Try.f35 0) (sl := slotsOf 21 [(0, I ((↑n : Int))), (1, .val (Value.int IntKind.u64 s)), (5, .val (Value.slice none (0 : Nat) (0 : Nat))), (6, I 0)]) (hp := []) (ob := []) rfl rfl (by kernel_rfl) trivial rfl trivial ?_
    · refine Safe.nil 5 20 22 1 (rowG encU []) rfl rfl trivial ?_ rfl
      exact Safe.leH (H 0 (Nat.zero_le _)) rfl (SlLe.refl _) ⟨⟨rfl, rfl, rfl, fun _ _ => rfl⟩, trivial⟩ rfl ⟨rfl, fun _ => rfl, trivial⟩
end Go.Proofs.Ytbgbjgedjmhcaaa
