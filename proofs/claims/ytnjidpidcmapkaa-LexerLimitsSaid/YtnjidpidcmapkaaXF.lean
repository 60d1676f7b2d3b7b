/- Texts of about the greatest length: LexerLimits. No conditions but those of each theorem. -/
import Derived.Test.YtnjidpidcmapkaaSyZ
import Derived.KernelRfl
import Derived.Test.YtnjidpidcmapkaaXC
namespace Go.Proofs.Ytnjidpidcmapkaa
open Go.RowKit
set_option linter.unusedVariables false
set_option linter.unnecessarySimpa false
set_option linter.unusedSimpArgs false
set_option maxRecDepth 100000 in
set_option maxHeartbeats 8000000 in
theorem tokens_limit (L : List Int) (hl : ¬ L.length ≤ 8192) : CallOK Try.prog 15 [S (str L)] [] (.tup [nilS, .agg [I 1, I 1], I 4]) [] := by
  refine CallOK.intro Try.call15 Try.func15 rfl rfl trivial ?_
  have hsz := str_size L
  have h : ((str L).size : Int) > 8192 := by omega
  refine Safe.ends mixed Go.Proofs.Try.func15 9 [⟨100, []⟩, ⟨200, [(2, .tt true)]⟩, ⟨300, []⟩] (r := .tup [.val (Value.slice none (0 : Nat) (0 : Nat)), .agg [I ((1 : Int)), I ((1 : Int))], I ((4 : Int))]) (hp := []) (ob := [decide ((↑(str L).size : Int) > (8192 : Int)) = true]) rfl (by kernel_rfl) ⟨(decide_eq_true h), trivial⟩ rfl trivial trivial rfl
/-- k bytes that are written, the others not yet -/
def aL (k m : Nat) : List Int := List.replicate k 97 ++ List.replicate (m - k) 0
theorem aL_len (k m : Nat) (h : k ≤ m) : (aL k m).length = m := by simp [aL]; omega
theorem aL_set (k m : Nat) (h : k < m) : (aL k m).set k 97 = aL (k + 1) m := by
  unfold aL
  rw [List.set_append_right _ _ (by simp), List.length_replicate, Nat.sub_self, show m - k = (m - (k + 1)) + 1 by omega, List.replicate_succ, List.set_cons_zero, List.replicate_succ' (n := k), List.append_assoc]
  rfl
theorem aL_bts (k m : Nat) : Bts (aL k m) := fun z hz => by
  rcases List.mem_append.1 hz with h | h
  · rw [(List.mem_replicate.1 h).2]; decide
  · rw [(List.mem_replicate.1 h).2]; decide
theorem aL_all (m : Nat) : aL m m = List.replicate m 97 := by simp [aL]
theorem rep_getD (m i : Nat) (h : i < m) : (List.replicate m (97 : Int)).getD i 0 = 97 := by
  rw [List.getD_eq_getElem?_getD, List.getElem?_replicate, if_pos h]; rfl
def aTok (m : Nat) : List Tk := [Tk.mk 1 (List.replicate m 97) 0 1 1, Tk.mk 5 [] 0 1 (1 + m)]
theorem lex_aL (m : Nat) (h : 1 ≤ m) : lexF (List.replicate m 97) = .ok (aTok m) := by
  have htw : tw isW (List.replicate m 97) 0 = List.replicate m 97 := by
    unfold tw
    rw [List.drop_zero]
    have : ∀ k, (List.replicate k (97 : Int)).takeWhile isW = List.replicate k 97 := fun k => by
      induction k with
      | zero => rfl
      | succ k ih => rw [List.replicate_succ, List.takeWhile_cons_of_pos (by decide), ih]
    exact this m
  have htl : tl isW (List.replicate m 97) 0 = m := by
    rw [← tw_len, htw, List.length_replicate]
  have hnum : ¬ isNum (List.replicate m 97) = true := fun hh => by
    have h0 := rep_getD m 0 (by omega)
    have hd : dig (List.replicate m 97) = List.replicate m 97 := by rw [dig, if_neg (by rw [h0]; decide)]
    have := num_all hh 0 (by rw [hd, List.length_replicate]; omega)
    rw [hd, h0] at this
    exact absurd this (by decide)
  unfold lexF
  rw [List.length_replicate, lex, if_pos (by rw [List.length_replicate]; omega), rep_getD m 0 (by omega), if_neg (by decide), if_neg (by decide), if_neg (by decide), if_neg (by decide), if_pos (by decide), htw, if_neg hnum, htl]
  obtain ⟨m', rfl⟩ : ∃ m', m = m' + 1 := ⟨m - 1, by omega⟩
  rw [lex, if_neg (by rw [List.length_replicate]; omega)]
  rfl
set_option maxRecDepth 10000 in
set_option maxHeartbeats 8000000 in
theorem limits_any (n : Int) (hn : 0 ≤ n ∧ n < 256) (m : Nat) (hm : ((8190 : Int) + n % 5).toNat = m) : CallOK Try.prog 7 [.val (.int .u8 n)] [] (B true) [] := by
  have hmb : 8190 ≤ m ∧ m ≤ 8194 := by omega
  refine CallOK.intro Try.call7 Try.func7 rfl rfl trivial ?_
  refine Safe.withLoop (loopAt Try.f7 0) [20] 67 (fun k : Nat => [(3, .sl 20 0 1 m none), (4, I k)]) (fun k => [(20, .vec 5 1 m (rowG encU (aL k m)))]) (fun k => k ≤ m) (fun k => m - k) ?_ ?_
  · intro k hk ih
    by_cases h0 : (k : Int) < m
    · skip
      refine Safe.goto mixed 11 [⟨1100, [(3, .tt true)]⟩, ⟨1200, []⟩, ⟨1300, []⟩] [3, 4] [20] (todo' := loopAt Go.Proofs.Try.f7 0) (sl := slotsOf 67 [(3, .sl ((20 : Nat)) ((0 : Nat)) ((1 : Nat)) (m) (none)), (4, I ((↑k : Int) + (1 : Int)))]) (hp := [(20, .vec ((5 : Nat)) ((1 : Nat)) (m) (setRow (rowG encU (aL k m)) k [AV.val (Value.int IntKind.u8 (97 : Int))]))]) (ob := [decide ((↑k : Int) < (↑m : Int)) = true, (0 : Int) ≤ (↑k : Int) ∧ (↑k : Int) < (↑m : Int), k < m, inK IntKind.i64 ((↑k : Int) + (1 : Int))]) rfl rfl (by kernel_rfl) ⟨(decide_eq_true h0), (by omega), (by omega), (by simp only [inK]; omega), trivial⟩ rfl ⟨rfl, closed_set (fun _ => rfl) rfl, trivial⟩ ?_
      refine Safe.leH (ih (k + 1) (by omega) (by omega)) rfl (SlLe.refl _) ⟨?_, trivial⟩ rfl ⟨rfl, fun _ => rfl, trivial⟩
      have h := ob_set (ty := 5) (es := 1) (n := m) (i := k) encU (aL k m) 97 [U8 97] (aL_len k m hk).symm rfl
      rw [aL_set k m (by omega), aL_len (k + 1) m (by omega)] at h
      exact h
    · have hkm : k = m := by omega
      subst hkm
      have hlr : (List.replicate k (97 : Int)).length = k := List.length_replicate
      have hrs : RowStr (str (List.replicate k 97)) k (rowG encU (aL k k)) := by
        have h := row_str (aL_bts k k)
        rw [aL_len k k (Nat.le_refl _)] at h
        rw [← aL_all]; exact h
      have hsz := str_size (List.replicate k (97 : Int))
      by_cases h1 : (k : Int) > 8192
      · have hT := tokens_limit (List.replicate k 97) (by omega)
        refine Safe.ends mixed Go.Proofs.Try.func7 13 [⟨1100, [(3, .tt false)]⟩, ⟨1200, [(1, .is (S (str (List.replicate k (97 : Int))))), (2, .call [] (.tup [.val (Value.slice none (0 : Nat) (0 : Nat)), .agg [I ((1 : Int)), I ((1 : Int))], I ((4 : Int))]) [])]⟩, ⟨1300, [(2, .tt true)]⟩, ⟨1400, [(13, .call [] (B (true)) [])]⟩] (r := B (true)) (hp := []) (ob := [decide ((↑k : Int) < (↑k : Int)) = false, (0 : Nat) + k ≤ k, RowStr (str (List.replicate k (97 : Int))) k (rowG encU (aL k k)), AV.val (Value.string (str (List.replicate k (97 : Int)))) = AV.val (Value.string (str (List.replicate k (97 : Int)))), CallOK Try.prog (15 : Nat) ([] ++ [AV.val (Value.string (str (List.replicate k (97 : Int))))] ++ []) [] (AV.tup [AV.val (Value.slice none (0 : Nat) (0 : Nat)), AV.agg [AV.val (Value.int IntKind.i64 (1 : Int)), AV.val (Value.int IntKind.i64 (1 : Int))], AV.val (Value.int IntKind.i64 (4 : Int))]) [], decide ((↑k : Int) > (8192 : Int)) = true, CallOK Try.prog (9 : Nat) ([] ++ [] ++ []) [] (AV.val (Value.bool true)) []]) rfl (by kernel_rfl) ⟨(decide_eq_false h0), (by first | omega | exact rfl | exact hrs), (by first | omega | exact rfl | exact hrs), (by first | omega | exact rfl | exact hrs), hT, (decide_eq_true h1), awake_any, trivial⟩ rfl trivial trivial rfl
      · have hT := tokens_ok (List.replicate k 97) (fun z hz => by rw [(List.mem_replicate.1 hz).2]; decide) (by omega) (aTok k) (lex_aL k (by omega))
        have hql : (aTok k).length = 2 := rfl
        refine (Classical.em ((↑(str ((aTok k).getD (0 : Nat) default).text).size : Int) = (↑k : Int))).elim (fun hc1 => ?ga0) (fun hc1 => ?gb0)
        case' gb0 =>
          refine Safe.ends mixed Go.Proofs.Try.func7 14 [⟨1100, [(3, .tt false)]⟩, ⟨1200, [(1, .is (S (str (List.replicate k (97 : Int))))), (2, .call [] (.tup [.sl ((1260 : Nat)) ((0 : Nat)) ((5 : Nat)) ((aTok k).length) (none), .agg [I ((0 : Int)), I ((0 : Int))], I ((0 : Int))]) [(1260, some (.vec ((39 : Nat)) ((5 : Nat)) ((aTok k).length) (fun q => renL [((10 : Nat), (1260 : Nat))] (rowG encT (aTok k) q))))])]⟩, ⟨1300, [(2, .tt false)]⟩, ⟨1400, [(15, .tt false)]⟩] (r := B (false)) (hp := []) (ob := [decide ((↑k : Int) < (↑k : Int)) = false, (0 : Nat) + k ≤ k, RowStr (str (List.replicate k (97 : Int))) k (rowG encU (aL k k)), AV.val (Value.string (str (List.replicate k (97 : Int)))) = AV.val (Value.string (str (List.replicate k (97 : Int)))), CallOK Try.prog (15 : Nat) ([] ++ [AV.val (Value.string (str (List.replicate k (97 : Int))))] ++ []) [] (AV.tup [AV.sl (1260 : Nat) (0 : Nat) (5 : Nat) (aTok k).length none, AV.agg [AV.val (Value.int IntKind.i64 (0 : Int)), AV.val (Value.int IntKind.i64 (0 : Int))], AV.val (Value.int IntKind.i64 (0 : Int))]) [((1260 : Nat), some (Ob.vec (39 : Nat) (5 : Nat) (aTok k).length fun q => renL [((10 : Nat), (1260 : Nat))] (rowG encT (aTok k) q)))], decide ((↑k : Int) > (8192 : Int)) = false, (0 : Int) ≤ (0 : Int) ∧ (0 : Int) < (↑(aTok k).length : Int), (0 : Nat) < (aTok k).length, decide ((↑(str ((aTok k).getD (0 : Nat) default).text).size : Int) = (↑k : Int)) = false]) rfl (by kernel_rfl) ⟨(decide_eq_false h0), (by first | omega | exact rfl | exact hrs), (by first | omega | exact rfl | exact hrs), (by first | omega | exact rfl | exact hrs), (CallOK.ren hT [(10, 1260)] [10] rfl rfl rfl rfl trivial rfl ⟨rfl, fun _ => rfl, trivial⟩), (decide_eq_false h1), (by first | omega | exact rfl | exact hrs), (by first | omega | exact rfl | exact hrs), (decide_eq_false hc1), trivial⟩ ?_ trivial trivial rfl
        case' ga0 =>
          refine Safe.ends mixed Go.Proofs.Try.func7 14 [⟨1100, [(3, .tt false)]⟩, ⟨1200, [(1, .is (S (str (List.replicate k (97 : Int))))), (2, .call [] (.tup [.sl ((1260 : Nat)) ((0 : Nat)) ((5 : Nat)) ((aTok k).length) (none), .agg [I ((0 : Int)), I ((0 : Int))], I ((0 : Int))]) [(1260, some (.vec ((39 : Nat)) ((5 : Nat)) ((aTok k).length) (fun q => renL [((10 : Nat), (1260 : Nat))] (rowG encT (aTok k) q))))])]⟩, ⟨1300, [(2, .tt false)]⟩, ⟨1400, [(15, .tt true), (18, .call [] (B (true)) [])]⟩] (r := B (true)) (hp := []) (ob := [decide ((↑k : Int) < (↑k : Int)) = false, (0 : Nat) + k ≤ k, RowStr (str (List.replicate k (97 : Int))) k (rowG encU (aL k k)), AV.val (Value.string (str (List.replicate k (97 : Int)))) = AV.val (Value.string (str (List.replicate k (97 : Int)))), CallOK Try.prog (15 : Nat) ([] ++ [AV.val (Value.string (str (List.replicate k (97 : Int))))] ++ []) [] (AV.tup [AV.sl (1260 : Nat) (0 : Nat) (5 : Nat) (aTok k).length none, AV.agg [AV.val (Value.int IntKind.i64 (0 : Int)), AV.val (Value.int IntKind.i64 (0 : Int))], AV.val (Value.int IntKind.i64 (0 : Int))]) [((1260 : Nat), some (Ob.vec (39 : Nat) (5 : Nat) (aTok k).length fun q => renL [((10 : Nat), (1260 : Nat))] (rowG encT (aTok k) q)))], decide ((↑k : Int) > (8192 : Int)) = false, (0 : Int) ≤ (0 : Int) ∧ (0 : Int) < (↑(aTok k).length : Int), (0 : Nat) < (aTok k).length, decide ((↑(str ((aTok k).getD (0 : Nat) default).text).size : Int) = (↑k : Int)) = true, CallOK Try.prog (9 : Nat) ([] ++ [] ++ []) [] (AV.val (Value.bool true)) []]) rfl (by kernel_rfl) ⟨(decide_eq_false h0), (by first | omega | exact rfl | exact hrs), (by first | omega | exact rfl | exact hrs), (by first | omega | exact rfl | exact hrs), (CallOK.ren hT [(10, 1260)] [10] rfl rfl rfl rfl trivial rfl ⟨rfl, fun _ => rfl, trivial⟩), (decide_eq_false h1), (by first | omega | exact rfl | exact hrs), (by first | omega | exact rfl | exact hrs), (decide_eq_true hc1), awake_any, trivial⟩ rfl trivial trivial rfl
        exact absurd (show ((str (List.replicate k 97)).size : Int) = k by omega) hc1
  · intro H
    refine Safe.goto mixed 9 [⟨100, []⟩, ⟨200, []⟩, ⟨300, []⟩] [3, 4] [204] (todo' := loopAt Go.Proofs.Try.f7 0) (sl := slotsOf 67 [(3, .sl ((204 : Nat)) ((0 : Nat)) ((1 : Nat)) (((8190 : Int) + n % (5 : Int)).toNat) (none)), (4, I ((0 : Int)))]) (hp := [(204, .vec ((5 : Nat)) ((1 : Nat)) (((8190 : Int) + n % (5 : Int)).toNat) (fun x => List.map AV.val (Value.int IntKind.u8 (0 : Int)).cells.toList))]) (ob := [(0 : Int) ≤ n ∧ (0 : Int) < (5 : Int), inK IntKind.i64 (n % (5 : Int)), inK IntKind.i64 ((8190 : Int) + n % (5 : Int)), (0 : Int) ≤ (8190 : Int) + n % (5 : Int) ∧ (8190 : Int) + n % (5 : Int) ≤ (8190 : Int) + n % (5 : Int) ∧ (8190 : Int) + n % (5 : Int) ≤ (1099511627776 : Int)]) rfl rfl (by kernel_rfl) ⟨(by omega), (by simp only [inK]; omega), (by simp only [inK]; omega), (by omega), trivial⟩ rfl ⟨rfl, fun _ => rfl, trivial⟩ ?_
    refine Safe.ren [(204, 20)] rfl rfl rfl rfl ⟨rfl, fun _ => rfl, trivial⟩ ?_
    rw [hm]
    refine Safe.leH (H 0 (Nat.zero_le _)) rfl (SlLe.refl _) ⟨⟨rfl, rfl, rfl, fun q hq => ?_⟩, trivial⟩ rfl ⟨rfl, fun _ => rfl, trivial⟩
    unfold rowG aL encU
    rw [List.getD_eq_getElem?_getD, List.getElem?_append_right (by simp), List.getElem?_replicate, if_pos (by simp; omega)]
    rfl
end Go.Proofs.Ytnjidpidcmapkaa
