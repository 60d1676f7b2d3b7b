/- Entries: the reference's lists, equal nodes. No conditions but those of each theorem. -/
import Derived.Test.YtonjaghkiaaipaaSyZ
import Derived.KernelRfl
import Derived.Test.YtonjaghkiaaipaaW9
namespace Go.Proofs.Ytonjaghkiaaipaa
open Go.RowKit
set_option linter.unusedVariables false
set_option linter.unnecessarySimpa false
set_option linter.unusedSimpArgs false
set_option maxRecDepth 10000 in
set_option maxHeartbeats 4000000 in
theorem sameE_true (A A2 : List En) (m NA NB : Nat) (hA : m ≤ NA) (hB : m ≤ NB) (hm : m ≤ 1000000) (h : ∀ q, q < m → A.getD q default = A2.getD q default) : CallOK Try.prog 40 [.sl 0 0 2 m none, .sl 1 0 2 m none] [(0, .ro 2 NA (rowG encE A)), (1, .ro 2 NB (rowG encE A2))] (B true) [] := by
  refine CallOK.intro Try.call40 Try.func40 rfl rfl ⟨rfl, fun _ => rfl, rfl, fun _ => rfl, trivial⟩ ?_
  refine Safe.withLoop (loopAt Try.f40 0) [0, 1] 26 (fun k : Nat => [(0, .sl 0 0 2 m none), (1, .sl 1 0 2 m none), (5, I k)]) (fun _ => [(0, .ro 2 NA (rowG encE A)), (1, .ro 2 NB (rowG encE A2))]) (fun k => k ≤ m) (fun k => m - k) ?_ ?_
  · rintro k hk ih
    by_cases hlt : (k : Int) < (m : Int)
    · have e := h k (by omega)
      have e1 : (A.getD k default).1 = (A2.getD k default).1 := by rw [e]
      have e2 : (A.getD k default).2 = (A2.getD k default).2 := by rw [e]
      refine (Classical.em ((!(decide ((A.getD k default).fst = (A2.getD k default).fst) && (decide ((A.getD k default).snd = (A2.getD k default).snd) && true))) = true)).elim (fun hc1 => ?ga0) (fun hc1 => ?gb0)
      case' gb0 =>
        refine Safe.goto mixed 14 [⟨1100, [(3, .tt true)]⟩, ⟨1200, [(8, .tt false)]⟩, ⟨1300, []⟩] [0, 1, 5] [0, 1] (todo' := loopAt Go.Proofs.Try.f40 0) (sl := slotsOf 26 [(0, .sl ((0 : Nat)) ((0 : Nat)) ((2 : Nat)) (m) (none)), (1, .sl ((1 : Nat)) ((0 : Nat)) ((2 : Nat)) (m) (none)), (5, I ((↑k : Int) + (1 : Int)))]) (hp := [(0, .ro ((2 : Nat)) (NA) (rowG encE A)), (1, .ro ((2 : Nat)) (NB) (rowG encE A2))]) (ob := [decide ((↑k : Int) < (↑m : Int)) = true, (0 : Int) ≤ (↑k : Int) ∧ (↑k : Int) < (↑m : Int), k < NA, (0 : Int) ≤ (↑k : Int) ∧ (↑k : Int) < (↑m : Int), k < NB, (!(decide ((A.getD k default).fst = (A2.getD k default).fst) && (decide ((A.getD k default).snd = (A2.getD k default).snd) && true))) = false, inK IntKind.i64 ((↑k : Int) + (1 : Int))]) rfl rfl (by kernel_rfl) ⟨(decide_eq_true hlt), (by omega), (by omega), (by omega), (by omega), (by simpa using hc1), (by simp only [inK]; omega), trivial⟩ rfl ⟨rfl, fun _ => rfl, rfl, fun _ => rfl, trivial⟩ ?_
      case' ga0 =>
        refine Safe.ends mixed Go.Proofs.Try.func40 12 [⟨1100, [(3, .tt true)]⟩, ⟨1200, [(8, .tt true)]⟩, ⟨1300, []⟩] (r := B (false)) (hp := [(0, .ro ((2 : Nat)) (NA) (rowG encE A)), (1, .ro ((2 : Nat)) (NB) (rowG encE A2))]) (ob := [decide ((↑k : Int) < (↑m : Int)) = true, (0 : Int) ≤ (↑k : Int) ∧ (↑k : Int) < (↑m : Int), k < NA, (0 : Int) ≤ (↑k : Int) ∧ (↑k : Int) < (↑m : Int), k < NB, (!(decide ((A.getD k default).fst = (A2.getD k default).fst) && (decide ((A.getD k default).snd = (A2.getD k default).snd) && true))) = true]) rfl (by kernel_rfl) ⟨(decide_eq_true hlt), (by omega), (by omega), (by omega), (by omega), hc1, trivial⟩ ?_ ⟨ObLe.refl _, ObLe.refl _, trivial⟩ ⟨rfl, fun _ => rfl, rfl, fun _ => rfl, trivial⟩ rfl
      · rw [e1, e2] at hc1
        simp at hc1
      · exact ih (k + 1) (by omega) (by omega)
    · skip
      refine Safe.ends mixed Go.Proofs.Try.func40 7 [⟨1100, [(3, .tt false)]⟩, ⟨1200, []⟩] (r := B (true)) (hp := [(0, .ro ((2 : Nat)) (NA) (rowG encE A)), (1, .ro ((2 : Nat)) (NB) (rowG encE A2))]) (ob := [decide ((↑k : Int) < (↑m : Int)) = false]) rfl (by kernel_rfl) ⟨(decide_eq_false hlt), trivial⟩ rfl ⟨ObLe.refl _, ObLe.refl _, trivial⟩ ⟨rfl, fun _ => rfl, rfl, fun _ => rfl, trivial⟩ rfl
  · intro H
    have e : (m : Int) = m := rfl
    refine Safe.goto mixed 12 [⟨1100, []⟩, ⟨1200, [(4, .tt false)]⟩, ⟨1300, []⟩] [0, 1, 5] [0, 1] (todo' := loopAt Go.Proofs.Try.f40 0) (sl := slotsOf 26 [(0, .sl ((0 : Nat)) ((0 : Nat)) ((2 : Nat)) (m) (none)), (1, .sl ((1 : Nat)) ((0 : Nat)) ((2 : Nat)) (m) (none)), (5, I ((0 : Int)))]) (hp := [(0, .ro ((2 : Nat)) (NA) (rowG encE A)), (1, .ro ((2 : Nat)) (NB) (rowG encE A2))]) (ob := [(decide ¬(↑m : Int) = (↑m : Int)) = false]) rfl rfl (by kernel_rfl) ⟨(decide_eq_false (fun hn => hn e)), trivial⟩ rfl ⟨rfl, fun _ => rfl, rfl, fun _ => rfl, trivial⟩ ?_
    exact H 0 (Nat.zero_le _)
set_option maxRecDepth 10000 in
set_option maxHeartbeats 4000000 in
theorem same_true (l s : Int) (A A2 : List En) (m NA NB : Nat) (hA : m ≤ NA) (hB : m ≤ NB) (hm : m ≤ 1000000) (h : ∀ q, q < m → A.getD q default = A2.getD q default) : CallOK Try.prog 25 [.agg [I l, I s, .sl 0 0 2 m none], .agg [I l, I s, .sl 1 0 2 m none]] [(0, .ro 2 NA (rowG encE A)), (1, .ro 2 NB (rowG encE A2))] (B true) [] := by
  refine CallOK.intro Try.call25 Try.func25 rfl rfl ⟨rfl, fun _ => rfl, rfl, fun _ => rfl, trivial⟩ ?_
  have q := sameE_true A A2 m NA NB hA hB hm h
  have e1 : l = l := rfl
  have e2 : s = s := rfl
  refine Safe.ends mixed Go.Proofs.Try.func25 4 [⟨1100, []⟩, ⟨1200, [(4, .tt true), (10, .tt true), (17, .call [0, 1] (B (true)) [])]⟩] (r := B (true)) (hp := [(0, .ro ((2 : Nat)) (NA) (rowG encE A)), (1, .ro ((2 : Nat)) (NB) (rowG encE A2))]) (ob := [decide (l = l) = true, decide (s = s) = true, CallOK Try.prog (40 : Nat) ([] ++ [AV.sl (0 : Nat) (0 : Nat) (2 : Nat) m none, AV.sl (1 : Nat) (0 : Nat) (2 : Nat) m none] ++ []) [((0 : Nat), Ob.ro (2 : Nat) NA (rowG encE A)), ((1 : Nat), Ob.ro (2 : Nat) NB (rowG encE A2))] (AV.val (Value.bool true)) []]) rfl (by kernel_rfl) ⟨(decide_eq_true e1), (decide_eq_true e2), q, trivial⟩ rfl ⟨ObLe.refl _, ObLe.refl _, trivial⟩ ⟨rfl, fun _ => rfl, rfl, fun _ => rfl, trivial⟩ rfl
set_option maxRecDepth 10000 in
set_option maxHeartbeats 4000000 in
theorem same_nil : CallOK Try.prog 25 [.agg [I 0, I 0, .val (.slice none 0 0)], .agg [I 0, I 0, .val (.slice none 0 0)]] [] (B true) [] := by
  refine CallOK.intro Try.call25 Try.func25 rfl rfl trivial ?_
  have q : CallOK Try.prog 40 [.val (.slice none 0 0), .val (.slice none 0 0)] [] (B true) [] := by
    refine CallOK.intro Try.call40 Try.func40 rfl rfl trivial ?_
    refine Safe.ends mixed Go.Proofs.Try.func40 19 [⟨100, []⟩, ⟨200, []⟩, ⟨300, []⟩, ⟨400, []⟩, ⟨500, []⟩] (r := B (true)) (hp := []) (ob := []) rfl (by kernel_rfl) trivial rfl trivial trivial rfl
  refine Safe.ends mixed Go.Proofs.Try.func25 4 [⟨100, []⟩, ⟨200, [(17, .call [] (B (true)) [])]⟩] (r := B (true)) (hp := []) (ob := [CallOK Try.prog (40 : Nat) ([] ++ [AV.val (Value.slice none (0 : Nat) (0 : Nat)), AV.val (Value.slice none (0 : Nat) (0 : Nat))] ++ []) [] (AV.val (Value.bool true)) []]) rfl (by kernel_rfl) ⟨q, trivial⟩ rfl trivial trivial rfl
theorem ins_at (L : List En) (a b c q : Nat) (x : En) (ha : a ≤ L.length) (hq : q < a + 1 + c) : (L.take a ++ [x] ++ (L.drop b).take c).getD q default = if q < a then L.getD q default else if q = a then x else L.getD (b + (q - (a + 1))) default := by
  have hl : (L.take a).length = a := by rw [List.length_take]; omega
  simp only [List.getD_eq_getElem?_getD, List.getElem?_append, List.length_append, hl, List.length_singleton]
  by_cases h1 : q < a
  · rw [if_pos (by omega), if_pos h1, if_pos h1, List.getElem?_take_of_lt h1]
  · rw [if_neg h1]
    by_cases h2 : q = a
    · rw [if_pos (by omega), if_neg h1, if_pos h2, show q - a = 0 by omega]; rfl
    · rw [if_neg (by omega), if_neg h1, if_neg h2, List.getElem?_take_of_lt (by omega), List.getElem?_drop]
set_option maxRecDepth 10000 in
set_option maxHeartbeats 4000000 in
theorem with3_any (l s key value : Int) (L : List En) (N a b c : Nat) (hL : L.length = N) (hN : N ≤ 1000) (ha : a ≤ N) (hbc : b + c = N) : CallOK Try.prog 49 [.agg [I l, I s, .sl 1 0 2 N none], .sl 2 0 1 3 none] [(1, .ro 2 N (rowG encE L)), (3, .ro 2 1 (rowsOf [I key, U value] 2)), (2, .ro 1 3 (rowsOf [.sl 1 0 2 a none, .sl 3 0 2 1 none, .sl 1 b 2 c none] 1))] (.agg [I l, I s, .sl 10 0 2 (a + 1 + c) none]) [(10, some (.vec 52 2 (a + 1 + c) (rowG encE (L.take a ++ [(key, value)] ++ (L.drop b).take c))))] := by
  refine CallOK.intro Try.call49 Try.func49 rfl rfl ⟨rfl, fun _ => rfl, rfl, fun _ => closed_rows rfl _, rfl, fun _ => closed_rows rfl _, trivial⟩ ?_
  refine Safe.gotoE mixed 49 [⟨1100, []⟩, ⟨1200, []⟩, ⟨1300, []⟩, ⟨1400, []⟩, ⟨1500, []⟩, ⟨1600, []⟩, ⟨1700, []⟩, ⟨1800, []⟩, ⟨1900, []⟩, ⟨2000, []⟩, ⟨2100, []⟩, ⟨2200, []⟩, ⟨2300, []⟩, ⟨2400, []⟩] [4] [1, 3, 2, 2106, 1101] (sl := slotsOf 27 [(4, .ptr ((1101 : Nat)) ((0 : Nat)) ((0 : Nat)) ((0 : Nat)))]) (hp := [(1, .ro ((2 : Nat)) (N) (rowG encE L)), (3, .ro ((2 : Nat)) ((1 : Nat)) (rowsOf [AV.val (Value.int IntKind.i64 key), AV.val (Value.int IntKind.u64 value)] (2 : Nat))), (2, .ro ((1 : Nat)) ((3 : Nat)) (rowsOf [AV.sl (1 : Nat) (0 : Nat) (2 : Nat) a none, AV.sl (3 : Nat) (0 : Nat) (2 : Nat) (1 : Nat) none, AV.sl (1 : Nat) b (2 : Nat) c none] (1 : Nat))), (2106, .vec ((52 : Nat)) ((2 : Nat)) (addN (addN a (1 : Nat)) c) (catR (addN a (1 : Nat)) (catR a (rowG encE L) (rowsOf [AV.val (Value.int IntKind.i64 key), AV.val (Value.int IntKind.u64 value)] (2 : Nat))) (shiftR (rowG encE L) b))), (1101, .blk ((27 : Nat)) [I (l), I (s), .sl ((2106 : Nat)) ((0 : Nat)) ((2 : Nat)) (addN (addN a (1 : Nat)) c) (none)])]) (ob := [(0 : Int) ≤ (0 : Int) ∧ (0 : Int) < (↑(3 : Nat) : Int), (0 : Nat) < (3 : Nat), (0 : Nat) + a ≤ N, a ≤ (1099511627776 : Nat), inK IntKind.i64 ((0 : Int) + (1 : Int)), (0 : Int) ≤ (0 : Int) + (1 : Int) ∧ (0 : Int) + (1 : Int) < (↑(3 : Nat) : Int), (1 : Nat) < (3 : Nat), (0 : Nat) + (1 : Nat) ≤ (1 : Nat), a = a, a + (1 : Nat) ≤ (1099511627776 : Nat), inK IntKind.i64 ((0 : Int) + (1 : Int) + (1 : Int)), (0 : Int) ≤ (0 : Int) + (1 : Int) + (1 : Int) ∧ (0 : Int) + (1 : Int) + (1 : Int) < (↑(3 : Nat) : Int), (2 : Nat) < (3 : Nat), b + c ≤ N, addN a (1 : Nat) = addN a (1 : Nat), addN a (1 : Nat) + c ≤ (1099511627776 : Nat), inK IntKind.i64 ((0 : Int) + (1 : Int) + (1 : Int) + (1 : Int))]) rfl rfl (by kernel_rfl) ⟨(by first | omega | (simp only [addN_eq]; omega)), (by first | omega | (simp only [addN_eq]; omega)), (by first | omega | (simp only [addN_eq]; omega)), (by first | omega | (simp only [addN_eq]; omega)), (by simp only [inK]; first | omega | (simp only [addN_eq]; omega)), (by first | omega | (simp only [addN_eq]; omega)), (by first | omega | (simp only [addN_eq]; omega)), (by first | omega | (simp only [addN_eq]; omega)), (by first | omega | (simp only [addN_eq]; omega)), (by first | omega | (simp only [addN_eq]; omega)), (by simp only [inK]; first | omega | (simp only [addN_eq]; omega)), (by first | omega | (simp only [addN_eq]; omega)), (by first | omega | (simp only [addN_eq]; omega)), (by first | omega | (simp only [addN_eq]; omega)), (by first | omega | (simp only [addN_eq]; omega)), (by first | omega | (simp only [addN_eq]; omega)), (by simp only [inK]; first | omega | (simp only [addN_eq]; omega)), trivial⟩ rfl ⟨rfl, fun _ => rfl, rfl, closed_rows rfl, rfl, closed_rows rfl, rfl, closed_cat (closed_cat (fun _ => rfl) (closed_rows rfl)) (closed_shift (fun _ => rfl)), rfl, rfl, trivial⟩ fun td htd => ?_
  refine Safe.ren [(2106, 10)] rfl rfl rfl rfl ⟨rfl, fun _ => rfl, rfl, closed_rows rfl, rfl, closed_rows rfl, rfl, closed_cat (closed_cat (fun _ => rfl) (closed_rows rfl)) (closed_shift (fun _ => rfl)), rfl, rfl, trivial⟩ ?_
  refine Safe.endsT Go.Proofs.Try.func49 htd (r := .agg [I (l), I (s), .sl ((10 : Nat)) ((0 : Nat)) ((2 : Nat)) (addN (addN a (1 : Nat)) c) (none)]) (hp := [(1, .ro ((2 : Nat)) (N) (fun q => renL [((2106 : Nat), (10 : Nat))] (rowG encE L q))), (3, .ro ((2 : Nat)) ((1 : Nat)) (fun q => renL [((2106 : Nat), (10 : Nat))] (rowsOf [AV.val (Value.int IntKind.i64 key), AV.val (Value.int IntKind.u64 value)] (2 : Nat) q))), (2, .ro ((1 : Nat)) ((3 : Nat)) (fun q => renL [((2106 : Nat), (10 : Nat))] (rowsOf [AV.sl (1 : Nat) (0 : Nat) (2 : Nat) a none, AV.sl (3 : Nat) (0 : Nat) (2 : Nat) (1 : Nat) none, AV.sl (1 : Nat) b (2 : Nat) c none] (1 : Nat) q))), (10, .vec ((52 : Nat)) ((2 : Nat)) (addN (addN a (1 : Nat)) c) (fun q => renL [((2106 : Nat), (10 : Nat))] (catR (addN a (1 : Nat)) (catR a (rowG encE L) (rowsOf [AV.val (Value.int IntKind.i64 key), AV.val (Value.int IntKind.u64 value)] (2 : Nat))) (shiftR (rowG encE L) b) q)))]) (ob := []) rfl (by kernel_rfl) trivial ?_ ⟨⟨rfl, rfl, fun _ _ => rfl⟩, ⟨rfl, rfl, fun _ _ => by first | rfl | exact renL_rowsOf _ _ _ _⟩, ⟨rfl, rfl, fun _ _ => by first | rfl | exact renL_rowsOf _ _ _ _⟩, ?_, trivial⟩ ⟨rfl, fun _ => rfl, rfl, closed_rows rfl, rfl, closed_rows rfl, rfl, fun _ => rfl, trivial⟩ rfl
  · show AV.agg _ = AV.agg _
    simp only [addN_eq]
  · refine ⟨rfl, rfl, by simp only [addN_eq], fun q hq => ?_⟩
    have hq : q < a + 1 + c := hq
    show renL _ (catR (addN a 1) (catR a (rowG encE L) (rowsOf [I key, U value] 2)) (shiftR (rowG encE L) b) q) = encE ((L.take a ++ [(key, value)] ++ (L.drop b).take c).getD q default)
    rw [ins_at L a b c q (key, value) (by omega) hq, catR_at, addN_eq, catR_at, shiftR_at]
    by_cases h1 : q < a + 1
    · rw [if_pos h1]
      by_cases h2 : q < a
      · rw [if_pos h2, if_pos h2]; rfl
      · rw [if_neg h2, if_neg h2, if_pos (by omega), show q - a = 0 by omega]; rfl
    · rw [if_neg h1, if_neg (by omega), if_neg (by omega)]; rfl
set_option maxRecDepth 10000 in
set_option maxHeartbeats 4000000 in
theorem with1_any (l s : Int) (L : List En) (N b c : Nat) (hL : L.length = N) (hN : N ≤ 1000) (hbc : b + c ≤ N) : CallOK Try.prog 49 [.agg [I l, I s, .sl 1 0 2 N none], .sl 2 0 1 1 none] [(1, .ro 2 N (rowG encE L)), (2, .ro 1 1 (rowsOf [.sl 1 b 2 c none] 1))] (.agg [I l, I s, .sl 10 0 2 c none]) [(10, some (.vec 52 2 c (rowG encE ((L.drop b).take c))))] := by
  refine CallOK.intro Try.call49 Try.func49 rfl rfl ⟨rfl, fun _ => rfl, rfl, fun _ => closed_rows rfl _, trivial⟩ ?_
  refine Safe.gotoE mixed 27 [⟨1100, []⟩, ⟨1200, []⟩, ⟨1300, []⟩, ⟨1400, []⟩, ⟨1500, []⟩, ⟨1600, []⟩, ⟨1700, []⟩, ⟨1800, []⟩] [4] [1, 2, 1506, 1101] (sl := slotsOf 27 [(4, .ptr ((1101 : Nat)) ((0 : Nat)) ((0 : Nat)) ((0 : Nat)))]) (hp := [(1, .ro ((2 : Nat)) (N) (rowG encE L)), (2, .ro ((1 : Nat)) ((1 : Nat)) (rowsOf [AV.sl (1 : Nat) b (2 : Nat) c none] (1 : Nat))), (1506, .vec ((52 : Nat)) ((2 : Nat)) (c) (shiftR (rowG encE L) b)), (1101, .blk ((27 : Nat)) [I (l), I (s), .sl ((1506 : Nat)) ((0 : Nat)) ((2 : Nat)) (c) (none)])]) (ob := [(0 : Int) ≤ (0 : Int) ∧ (0 : Int) < (↑(1 : Nat) : Int), (0 : Nat) < (1 : Nat), b + c ≤ N, c ≤ (1099511627776 : Nat), inK IntKind.i64 ((0 : Int) + (1 : Int))]) rfl rfl (by kernel_rfl) ⟨(by first | omega | (simp only [addN_eq]; omega)), (by first | omega | (simp only [addN_eq]; omega)), (by first | omega | (simp only [addN_eq]; omega)), (by first | omega | (simp only [addN_eq]; omega)), (by simp only [inK]; first | omega | (simp only [addN_eq]; omega)), trivial⟩ rfl ⟨rfl, fun _ => rfl, rfl, closed_rows rfl, rfl, closed_shift (fun _ => rfl), rfl, rfl, trivial⟩ fun td htd => ?_
  refine Safe.ren [(1506, 10)] rfl rfl rfl rfl ⟨rfl, fun _ => rfl, rfl, closed_rows rfl, rfl, closed_shift (fun _ => rfl), rfl, rfl, trivial⟩ ?_
  refine Safe.endsT Go.Proofs.Try.func49 htd (r := .agg [I (l), I (s), .sl ((10 : Nat)) ((0 : Nat)) ((2 : Nat)) (c) (none)]) (hp := [(1, .ro ((2 : Nat)) (N) (fun q => renL [((1506 : Nat), (10 : Nat))] (rowG encE L q))), (2, .ro ((1 : Nat)) ((1 : Nat)) (fun q => renL [((1506 : Nat), (10 : Nat))] (rowsOf [AV.sl (1 : Nat) b (2 : Nat) c none] (1 : Nat) q))), (10, .vec ((52 : Nat)) ((2 : Nat)) (c) (fun q => renL [((1506 : Nat), (10 : Nat))] (shiftR (rowG encE L) b q)))]) (ob := []) rfl (by kernel_rfl) trivial rfl ⟨⟨rfl, rfl, fun _ _ => rfl⟩, ⟨rfl, rfl, fun _ _ => by first | rfl | exact renL_rowsOf _ _ _ _⟩, ?_, trivial⟩ ⟨rfl, fun _ => rfl, rfl, closed_rows rfl, rfl, fun _ => rfl, trivial⟩ rfl
  refine ⟨rfl, rfl, rfl, fun q hq => ?_⟩
  have hq : q < c := hq
  show renL _ (shiftR (rowG encE L) b q) = encE (((L.drop b).take c).getD q default)
  rw [sub_at L b c q (by omega) hq, shiftR_at]
  rfl
set_option maxRecDepth 10000 in
set_option maxHeartbeats 4000000 in
theorem with2_any (l s : Int) (L : List En) (N a b c : Nat) (hL : L.length = N) (hN : N ≤ 1000) (ha : a ≤ N) (hbc : b + c = N) : CallOK Try.prog 49 [.agg [I l, I s, .sl 1 0 2 N none], .sl 2 0 1 2 none] [(1, .ro 2 N (rowG encE L)), (2, .ro 1 2 (rowsOf [.sl 1 0 2 a none, .sl 1 b 2 c none] 1))] (.agg [I l, I s, .sl 10 0 2 (a + c) none]) [(10, some (.vec 52 2 (a + c) (rowG encE (L.take a ++ (L.drop b).take c))))] := by
  refine CallOK.intro Try.call49 Try.func49 rfl rfl ⟨rfl, fun _ => rfl, rfl, fun _ => closed_rows rfl _, trivial⟩ ?_
  refine Safe.gotoE mixed 38 [⟨1100, []⟩, ⟨1200, []⟩, ⟨1300, []⟩, ⟨1400, []⟩, ⟨1500, []⟩, ⟨1600, []⟩, ⟨1700, []⟩, ⟨1800, []⟩, ⟨1900, []⟩, ⟨2000, []⟩, ⟨2100, []⟩] [4] [1, 2, 1806, 1101] (sl := slotsOf 27 [(4, .ptr ((1101 : Nat)) ((0 : Nat)) ((0 : Nat)) ((0 : Nat)))]) (hp := [(1, .ro ((2 : Nat)) (N) (rowG encE L)), (2, .ro ((1 : Nat)) ((2 : Nat)) (rowsOf [AV.sl (1 : Nat) (0 : Nat) (2 : Nat) a none, AV.sl (1 : Nat) b (2 : Nat) c none] (1 : Nat))), (1806, .vec ((52 : Nat)) ((2 : Nat)) (addN a c) (catR a (rowG encE L) (shiftR (rowG encE L) b))), (1101, .blk ((27 : Nat)) [I (l), I (s), .sl ((1806 : Nat)) ((0 : Nat)) ((2 : Nat)) (addN a c) (none)])]) (ob := [(0 : Int) ≤ (0 : Int) ∧ (0 : Int) < (↑(2 : Nat) : Int), (0 : Nat) < (2 : Nat), (0 : Nat) + a ≤ N, a ≤ (1099511627776 : Nat), inK IntKind.i64 ((0 : Int) + (1 : Int)), (0 : Int) ≤ (0 : Int) + (1 : Int) ∧ (0 : Int) + (1 : Int) < (↑(2 : Nat) : Int), (1 : Nat) < (2 : Nat), b + c ≤ N, a = a, a + c ≤ (1099511627776 : Nat), inK IntKind.i64 ((0 : Int) + (1 : Int) + (1 : Int))]) rfl rfl (by kernel_rfl) ⟨(by first | omega | (simp only [addN_eq]; omega)), (by first | omega | (simp only [addN_eq]; omega)), (by first | omega | (simp only [addN_eq]; omega)), (by first | omega | (simp only [addN_eq]; omega)), (by simp only [inK]; first | omega | (simp only [addN_eq]; omega)), (by first | omega | (simp only [addN_eq]; omega)), (by first | omega | (simp only [addN_eq]; omega)), (by first | omega | (simp only [addN_eq]; omega)), (by first | omega | (simp only [addN_eq]; omega)), (by first | omega | (simp only [addN_eq]; omega)), (by simp only [inK]; first | omega | (simp only [addN_eq]; omega)), trivial⟩ rfl ⟨rfl, fun _ => rfl, rfl, closed_rows rfl, rfl, closed_cat (fun _ => rfl) (closed_shift (fun _ => rfl)), rfl, rfl, trivial⟩ fun td htd => ?_
  refine Safe.ren [(1806, 10)] rfl rfl rfl rfl ⟨rfl, fun _ => rfl, rfl, closed_rows rfl, rfl, closed_cat (fun _ => rfl) (closed_shift (fun _ => rfl)), rfl, rfl, trivial⟩ ?_
  refine Safe.endsT Go.Proofs.Try.func49 htd (r := .agg [I (l), I (s), .sl ((10 : Nat)) ((0 : Nat)) ((2 : Nat)) (addN a c) (none)]) (hp := [(1, .ro ((2 : Nat)) (N) (fun q => renL [((1806 : Nat), (10 : Nat))] (rowG encE L q))), (2, .ro ((1 : Nat)) ((2 : Nat)) (fun q => renL [((1806 : Nat), (10 : Nat))] (rowsOf [AV.sl (1 : Nat) (0 : Nat) (2 : Nat) a none, AV.sl (1 : Nat) b (2 : Nat) c none] (1 : Nat) q))), (10, .vec ((52 : Nat)) ((2 : Nat)) (addN a c) (fun q => renL [((1806 : Nat), (10 : Nat))] (catR a (rowG encE L) (shiftR (rowG encE L) b) q)))]) (ob := []) rfl (by kernel_rfl) trivial ?_ ⟨⟨rfl, rfl, fun _ _ => rfl⟩, ⟨rfl, rfl, fun _ _ => by first | rfl | exact renL_rowsOf _ _ _ _⟩, ?_, trivial⟩ ⟨rfl, fun _ => rfl, rfl, closed_rows rfl, rfl, fun _ => rfl, trivial⟩ rfl
  · show AV.agg _ = AV.agg _
    simp only [addN_eq]
  · refine ⟨rfl, rfl, by simp only [addN_eq], fun q hq => ?_⟩
    have hq : q < a + c := hq
    show renL _ (catR a (rowG encE L) (shiftR (rowG encE L) b) q) = encE ((L.take a ++ (L.drop b).take c).getD q default)
    have e : (L.take a ++ (L.drop b).take c).getD q default = if q < a then L.getD q default else L.getD (b + (q - a)) default := by
      have hl : (L.take a).length = a := by rw [List.length_take]; omega
      simp only [List.getD_eq_getElem?_getD, List.getElem?_append, hl]
      by_cases h1 : q < a
      · rw [if_pos h1, if_pos h1, List.getElem?_take_of_lt h1]
      · rw [if_neg h1, if_neg h1, List.getElem?_take_of_lt (by omega), List.getElem?_drop]
    rw [e, catR_at, shiftR_at]
    split <;> rfl
set_option maxRecDepth 10000 in
set_option maxHeartbeats 4000000 in
theorem insE_end (key value : Int) (L : List En) (N : Nat) (hL : L.length = N) (hN : N ≤ 1000) : CallOK Try.prog 48 [.sl 0 0 2 N none, I N, .sl 1 0 2 1 none] [(0, .vec 52 2 N (rowG encE L)), (1, .ro 2 1 (rowsOf [I key, U value] 2))] (.sl 10 0 2 (N + 1) none) [(0, none), (10, some (.vec 52 2 (N + 1) (rowG encE (L ++ [(key, value)]))))] := by
  refine CallOK.intro Try.call48 Try.func48 rfl rfl ⟨rfl, fun _ => rfl, rfl, fun _ => closed_rows rfl _, trivial⟩ ?_
  have e : (N : Int) = N := rfl
  refine Safe.gotoE mixed 19 [⟨1100, []⟩, ⟨1200, []⟩, ⟨1300, []⟩, ⟨1400, []⟩, ⟨1500, []⟩, ⟨1600, [(2, .tt true)]⟩, ⟨1700, []⟩] [6] [1, 1702, 0] (sl := slotsOf 95 [(6, .sl ((1702 : Nat)) ((0 : Nat)) ((2 : Nat)) (addN N (1 : Nat)) (none))]) (hp := [(1, .ro ((2 : Nat)) ((1 : Nat)) (rowsOf [AV.val (Value.int IntKind.i64 key), AV.val (Value.int IntKind.u64 value)] (2 : Nat))), (1702, .vec ((52 : Nat)) ((2 : Nat)) (addN N (1 : Nat)) (catR N (rowG encE L) (rowsOf [AV.val (Value.int IntKind.i64 key), AV.val (Value.int IntKind.u64 value)] (2 : Nat))))]) (ob := [(0 : Int) ≤ (↑N : Int) ∧ (↑N : Int) ≤ (↑N : Int), decide ((↑N : Int) = (↑N : Int)) = true, (0 : Nat) + (1 : Nat) ≤ (1 : Nat), N = N, N + (1 : Nat) ≤ (1099511627776 : Nat)]) rfl rfl (by kernel_rfl) ⟨(by omega), (decide_eq_true e), (by omega), (by omega), (by omega), trivial⟩ rfl ⟨rfl, closed_rows rfl, rfl, closed_cat (fun _ => rfl) (closed_rows rfl), trivial⟩ fun td htd => ?_
  refine Safe.ren [(1702, 10)] rfl rfl rfl rfl ⟨rfl, closed_rows rfl, rfl, closed_cat (fun _ => rfl) (closed_rows rfl), trivial⟩ ?_
  refine Safe.endsT Go.Proofs.Try.func48 htd (r := .sl ((10 : Nat)) ((0 : Nat)) ((2 : Nat)) (addN N (1 : Nat)) (none)) (hp := [(1, .ro ((2 : Nat)) ((1 : Nat)) (fun q => renL [((1702 : Nat), (10 : Nat))] (rowsOf [AV.val (Value.int IntKind.i64 key), AV.val (Value.int IntKind.u64 value)] (2 : Nat) q))), (10, .vec ((52 : Nat)) ((2 : Nat)) (addN N (1 : Nat)) (fun q => renL [((1702 : Nat), (10 : Nat))] (catR N (rowG encE L) (rowsOf [AV.val (Value.int IntKind.i64 key), AV.val (Value.int IntKind.u64 value)] (2 : Nat)) q)))]) (ob := []) rfl (by kernel_rfl) trivial ?_ ⟨⟨rfl, rfl, fun _ _ => by first | rfl | exact renL_rowsOf _ _ _ _⟩, ?_, trivial⟩ ⟨rfl, closed_rows rfl, rfl, fun _ => rfl, trivial⟩ rfl
  · show AV.sl _ _ _ _ _ = _
    rw [addN_eq]
  · refine ⟨rfl, rfl, addN_eq N 1, fun q hq => ?_⟩
    have hq : q < N + 1 := hq
    show renL _ (catR N (rowG encE L) (rowsOf [I key, U value] 2) q) = encE ((L ++ [(key, value)]).getD q default)
    rw [catR_at]
    by_cases h : q < N
    · rw [if_pos h, List.getD_eq_getElem?_getD, List.getElem?_append_left (by omega), ← List.getD_eq_getElem?_getD]
      rfl
    · rw [if_neg h, List.getD_eq_getElem?_getD, List.getElem?_append_right (by omega), show q - N = 0 by omega, show q - L.length = 0 by omega]
      rfl
end Go.Proofs.Ytonjaghkiaaipaa
