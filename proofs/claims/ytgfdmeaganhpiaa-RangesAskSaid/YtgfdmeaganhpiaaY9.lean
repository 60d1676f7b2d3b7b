/- Sum, Count, First, Take: the program's and the reference's. No conditions but those of each theorem. -/
import Derived.Test.YtgfdmeaganhpiaaSyZ
import Derived.KernelRfl
import Derived.Test.YtgfdmeaganhpiaaYA
namespace Go.Proofs.Ytgfdmeaganhpiaa
open Go.RowKit
set_option linter.unusedVariables false
set_option linter.unnecessarySimpa false
theorem norm_vld (a : List Rn) (ha : vsB a = true) : ∀ r ∈ normF a, Old.Vld r := fun r hr => by
  have h := (sel_nfm a [] 0 ha rfl).1.1 r hr
  exact ⟨h.1, by omega, h.2.2⟩
def sumT (l : List Rn) : Nat → Int
  | 0 => 0
  | k + 1 => sumT l k + (l.getD k default).2
theorem sumT_bd (l : List Rn) (hv : ∀ r ∈ l, Old.Vld r) : ∀ k, k ≤ l.length → 0 ≤ sumT l k ∧ sumT l k ≤ 1073741824 * (k : Int)
  | 0, _ => by simp [sumT]
  | k + 1, h => by
    have h1 := sumT_bd l hv k (by omega)
    have h2 := vld_at hv (show k < l.length by omega)
    simp only [sumT]
    omega
abbrev sumF (a : List Rn) : Int := sumT (normF a) (normF a).length
set_option maxRecDepth 10000 in
set_option maxHeartbeats 8000000 in
theorem rsum_ok (a : List Rn) (hl : a.length ≤ 1000) (ha : vsB a = true) : CallOK Try.prog 17 [.sl 0 0 2 a.length none] [(0, .ro 2 a.length (rowG encR a))] (I (sumF a)) [] := by
  refine CallOK.intro Try.call17 Try.func17 rfl rfl ⟨rfl, fun _ => rfl, trivial⟩ ?_
  have q := rnorm_ok a hl ha
  have hn := norm_len a ha
  have hv := norm_vld a ha
  obtain ⟨L, hL⟩ : ∃ L, normF a = L := ⟨_, rfl⟩
  have hS : sumF a = sumT L L.length := by rw [sumF, hL]
  rw [hL] at q hn hv
  refine Safe.withLoop (loopAt Try.f17 0) [0, 20] 22 (fun k : Nat => [(3, I (sumT L k)), (4, .sl 20 0 2 L.length none), (5, I k)]) (fun k => [(0, .ro 2 a.length (rowG encR a)), (20, .ro 2 L.length (rowG encR L))]) (fun k => k ≤ L.length) (fun k => L.length - k) ?_ ?_
  · rintro k hk ih
    have hb := sumT_bd L hv k hk
    have hvk := fun h : k < L.length => vld_at hv h
    by_cases c1 : (k : Int) < (L.length : Int)
    · have hvk := vld_at hv (show k < L.length by omega)
      refine Safe.goto mixed 11 [⟨1100, [(3, .tt true)]⟩, ⟨1200, []⟩, ⟨1300, []⟩] [3, 4, 5] [0, 20] (todo' := loopAt Go.Proofs.Try.f17 0) (sl := slotsOf 22 [(3, I (sumT L k + (L.getD k default).snd)), (4, .sl ((20 : Nat)) ((0 : Nat)) ((2 : Nat)) (L.length) (none)), (5, I ((↑k : Int) + (1 : Int)))]) (hp := [(0, .ro ((2 : Nat)) (a.length) (rowG encR a)), (20, .ro ((2 : Nat)) (L.length) (rowG encR L))]) (ob := [decide ((↑k : Int) < (↑L.length : Int)) = true, (0 : Int) ≤ (↑k : Int) ∧ (↑k : Int) < (↑L.length : Int), k < L.length, inK IntKind.i64 (sumT L k + (L.getD k default).snd), inK IntKind.i64 ((↑k : Int) + (1 : Int))]) rfl rfl (by kernel_rfl) ⟨(decide_eq_true c1), (by omega), (by omega), (by simp only [inK]; omega), (by simp only [inK]; omega), trivial⟩ rfl ⟨rfl, fun _ => rfl, rfl, fun _ => rfl, trivial⟩ ?_
      exact ih (k + 1) (by omega) (by omega)
    · skip
      refine Safe.ends mixed Go.Proofs.Try.func17 7 [⟨1100, [(3, .tt false)]⟩, ⟨1200, []⟩] (r := I (sumT L k)) (hp := [(0, .ro ((2 : Nat)) (a.length) (rowG encR a))]) (ob := [decide ((↑k : Int) < (↑L.length : Int)) = false]) rfl (by kernel_rfl) ⟨(decide_eq_false c1), trivial⟩ ?_ ⟨ObLe.refl _, trivial⟩ ⟨rfl, fun _ => rfl, trivial⟩ rfl
      show I _ = I _
      rw [hS, show k = L.length by omega]
  · intro H
    refine Safe.goto mixed 11 [⟨1100, []⟩, ⟨1200, []⟩, ⟨1300, [(1, .call [0] (.sl ((1355 : Nat)) ((0 : Nat)) ((2 : Nat)) (L.length) (none)) [(1355, some (.ro ((2 : Nat)) (L.length) (fun q => renL [((0 : Nat), (0 : Nat)), ((10 : Nat), (1355 : Nat))] (rowG encR L q))))])]⟩, ⟨1400, []⟩] [3, 4, 5] [0, 1355] (todo' := loopAt Go.Proofs.Try.f17 0) (sl := slotsOf 22 [(3, I ((0 : Int))), (4, .sl ((1355 : Nat)) ((0 : Nat)) ((2 : Nat)) (L.length) (none)), (5, I ((0 : Int)))]) (hp := [(0, .ro ((2 : Nat)) (a.length) (rowG encR a)), (1355, .ro ((2 : Nat)) (L.length) (fun q => renL [((0 : Nat), (0 : Nat)), ((10 : Nat), (1355 : Nat))] (rowG encR L q)))]) (ob := [CallOK Try.prog (28 : Nat) ([] ++ [AV.sl (0 : Nat) (0 : Nat) (2 : Nat) a.length none] ++ []) [((0 : Nat), Ob.ro (2 : Nat) a.length (rowG encR a))] (AV.sl (1355 : Nat) (0 : Nat) (2 : Nat) L.length none) [((1355 : Nat), some (Ob.ro (2 : Nat) L.length fun q => renL [((0 : Nat), (0 : Nat)), ((10 : Nat), (1355 : Nat))] (rowG encR L q)))]]) rfl rfl (by kernel_rfl) ⟨(CallOK.ren q [(0, 0), (10, 1355)] [0, 10] rfl rfl rfl rfl ⟨rfl, fun _ => rfl, trivial⟩ rfl ⟨rfl, fun _ => rfl, rfl, fun _ => rfl, trivial⟩), trivial⟩ rfl ⟨rfl, fun _ => rfl, rfl, closed_renN (fun _ => rfl), trivial⟩ ?_
    refine Safe.ren [(1355, 20)] rfl rfl rfl rfl ⟨rfl, fun _ => rfl, rfl, closed_renN (fun _ => rfl), trivial⟩ ?_
    exact Safe.leH (H 0 (Nat.zero_le _)) rfl (SlLe.refl _) ⟨ObLe.refl _, ⟨rfl, rfl, fun _ _ => rfl⟩, trivial⟩ rfl ⟨rfl, fun _ => rfl, rfl, fun _ => rfl, trivial⟩
set_option maxRecDepth 10000 in
set_option maxHeartbeats 8000000 in
theorem count_ok (a : List Rn) (hl : a.length ≤ 1000) (ha : vsB a = true) : CallOK Try.prog 13 [.sl 0 0 2 a.length none] [(0, .ro 2 a.length (rowG encR a))] (.tup [I (sumF a), I 0]) [] := by
  refine CallOK.intro Try.call13 Try.func13 rfl rfl ⟨rfl, fun _ => rfl, trivial⟩ ?_
  have q := norm_ok a hl ha
  have hn := norm_len a ha
  have hv := norm_vld a ha
  obtain ⟨L, hL⟩ : ∃ L, normF a = L := ⟨_, rfl⟩
  have hS : sumF a = sumT L L.length := by rw [sumF, hL]
  rw [hL] at q hn hv
  refine Safe.withLoop (loopAt Try.f13 0) [0, 20] 27 (fun k : Nat => [(5, I 0), (6, I (sumT L k)), (14, .sl 20 0 2 L.length none), (15, I L.length), (16, I k)]) (fun k => [(0, .ro 2 a.length (rowG encR a)), (20, .vec 42 2 L.length (rowG encR L))]) (fun k => k ≤ L.length) (fun k => L.length - k) ?_ ?_
  · rintro k hk ih
    have hb := sumT_bd L hv k hk
    by_cases c1 : (k : Int) < (L.length : Int)
    · have hvk := vld_at hv (show k < L.length by omega)
      refine Safe.goto mixed 13 [⟨1100, [(0, .tt true)]⟩, ⟨1200, []⟩, ⟨1300, []⟩, ⟨1400, []⟩] [5, 6, 14, 15, 16] [0, 20] (todo' := loopAt Go.Proofs.Try.f13 0) (sl := slotsOf 27 [(5, I ((0 : Int))), (6, I (sumT L k + (L.getD k default).snd)), (14, .sl ((20 : Nat)) ((0 : Nat)) ((2 : Nat)) (L.length) (none)), (15, I ((↑L.length : Int))), (16, I ((↑k : Int) + (1 : Int)))]) (hp := [(0, .ro ((2 : Nat)) (a.length) (rowG encR a)), (20, .vec ((42 : Nat)) ((2 : Nat)) (L.length) (rowG encR L))]) (ob := [decide ((↑k : Int) < (↑L.length : Int)) = true, (0 : Int) ≤ (↑k : Int) ∧ (↑k : Int) < (↑L.length : Int), k < L.length, inK IntKind.i64 (sumT L k + (L.getD k default).snd), inK IntKind.i64 ((↑k : Int) + (1 : Int))]) rfl rfl (by kernel_rfl) ⟨(decide_eq_true c1), (by omega), (by omega), (by simp only [inK]; omega), (by simp only [inK]; omega), trivial⟩ rfl ⟨rfl, fun _ => rfl, rfl, fun _ => rfl, trivial⟩ ?_
      exact ih (k + 1) (by omega) (by omega)
    · skip
      refine Safe.ends mixed Go.Proofs.Try.func13 7 [⟨1100, [(0, .tt false)]⟩, ⟨1200, []⟩] (r := .tup [I (sumT L k), I ((0 : Int))]) (hp := [(0, .ro ((2 : Nat)) (a.length) (rowG encR a))]) (ob := [decide ((↑k : Int) < (↑L.length : Int)) = false]) rfl (by kernel_rfl) ⟨(decide_eq_false c1), trivial⟩ ?_ ⟨ObLe.refl _, trivial⟩ ⟨rfl, fun _ => rfl, trivial⟩ rfl
      rw [hS, show k = L.length by omega]
      rfl
  · intro H
    refine Safe.goto mixed 11 [⟨1100, []⟩, ⟨1200, [(1, .call [0] (.tup [.sl ((1255 : Nat)) ((0 : Nat)) ((2 : Nat)) (L.length) (none), I ((0 : Int))]) [(1255, some (.vec ((42 : Nat)) ((2 : Nat)) (L.length) (fun q => renL [((0 : Nat), (0 : Nat)), ((10 : Nat), (1255 : Nat))] (rowG encR L q))))])]⟩, ⟨1300, []⟩, ⟨1400, []⟩] [5, 6, 14, 15, 16] [0, 1255] (todo' := loopAt Go.Proofs.Try.f13 0) (sl := slotsOf 27 [(5, I ((0 : Int))), (6, I ((0 : Int))), (14, .sl ((1255 : Nat)) ((0 : Nat)) ((2 : Nat)) (L.length) (none)), (15, I ((↑L.length : Int))), (16, I ((0 : Int)))]) (hp := [(0, .ro ((2 : Nat)) (a.length) (rowG encR a)), (1255, .vec ((42 : Nat)) ((2 : Nat)) (L.length) (fun q => renL [((0 : Nat), (0 : Nat)), ((10 : Nat), (1255 : Nat))] (rowG encR L q)))]) (ob := [CallOK Try.prog (26 : Nat) ([] ++ [AV.sl (0 : Nat) (0 : Nat) (2 : Nat) a.length none] ++ []) [((0 : Nat), Ob.ro (2 : Nat) a.length (rowG encR a))] (AV.tup [AV.sl (1255 : Nat) (0 : Nat) (2 : Nat) L.length none, AV.val (Value.int IntKind.i64 (0 : Int))]) [((1255 : Nat), some (Ob.vec (42 : Nat) (2 : Nat) L.length fun q => renL [((0 : Nat), (0 : Nat)), ((10 : Nat), (1255 : Nat))] (rowG encR L q)))]]) rfl rfl (by kernel_rfl) ⟨(CallOK.ren q [(0, 0), (10, 1255)] [0, 10] rfl rfl rfl rfl ⟨rfl, fun _ => rfl, trivial⟩ rfl ⟨rfl, fun _ => rfl, rfl, fun _ => rfl, trivial⟩), trivial⟩ rfl ⟨rfl, fun _ => rfl, rfl, closed_renN (fun _ => rfl), trivial⟩ ?_
    refine Safe.ren [(1255, 20)] rfl rfl rfl rfl ⟨rfl, fun _ => rfl, rfl, closed_renN (fun _ => rfl), trivial⟩ ?_
    exact Safe.leH (H 0 (Nat.zero_le _)) rfl (SlLe.refl _) ⟨ObLe.refl _, ⟨rfl, rfl, rfl, fun _ _ => rfl⟩, trivial⟩ rfl ⟨rfl, fun _ => rfl, rfl, fun _ => rfl, trivial⟩
set_option maxRecDepth 10000 in
set_option maxHeartbeats 8000000 in
theorem count_err (a : List Rn) (hl : a.length ≤ 1000) (ha : vsB a = false) : CallOK Try.prog 13 [.sl 0 0 2 a.length none] [(0, .ro 2 a.length (rowG encR a))] (.tup [I 0, I 1]) [] := by
  refine CallOK.intro Try.call13 Try.func13 rfl rfl ⟨rfl, fun _ => rfl, trivial⟩ ?_
  have q := norm_err a hl (ck_1 (fun h => by rw [ha] at h; exact absurd h.1 (by simp)))
  refine Safe.ends mixed Go.Proofs.Try.func13 18 [⟨1100, []⟩, ⟨1200, [(1, .call [0] (.tup [.val (Value.slice none (0 : Nat) (0 : Nat)), I ((1 : Int))]) [])]⟩, ⟨1300, []⟩, ⟨1400, []⟩, ⟨1500, []⟩, ⟨1600, []⟩] (r := .tup [I ((0 : Int)), I ((1 : Int))]) (hp := [(0, .ro ((2 : Nat)) (a.length) (rowG encR a))]) (ob := [CallOK Try.prog (26 : Nat) ([] ++ [AV.sl (0 : Nat) (0 : Nat) (2 : Nat) a.length none] ++ []) [((0 : Nat), Ob.ro (2 : Nat) a.length (rowG encR a))] (AV.tup [AV.val (Value.slice none (0 : Nat) (0 : Nat)), AV.val (Value.int IntKind.i64 (1 : Int))]) []]) rfl (by kernel_rfl) ⟨q, trivial⟩ rfl ⟨ObLe.refl _, trivial⟩ ⟨rfl, fun _ => rfl, trivial⟩ rfl
/-! ### First -/
def firstT (l : List Rn) (n : Int) : Int × Int := match l.find? (fun r => decide (n ≤ r.2)) with
  | some r => (r.1, 0)
  | none => (0, 12)
def firstF (a : List Rn) (n : Int) : Int × Int := if vsB a = true then (if n < 1 then (0, 1) else firstT (normF a) n) else (0, 1)
theorem firstT_hit (l : List Rn) (n : Int) (k : Nat) (hk : k < l.length) (h : ∀ j, j < k → ¬ (l.getD j default).2 ≥ n) (hh : (l.getD k default).2 ≥ n) : firstT l n = ((l.getD k default).1, 0) := by
  have : l.find? (fun r => decide (n ≤ r.2)) = some (l.getD k default) := by
    rw [List.find?_eq_some_iff_getElem]
    refine ⟨by simpa using hh, k, hk, (getD_at l k hk).symm, fun j hj => ?_⟩
    have := h j hj
    rw [getD_at l j (by omega)] at this
    simpa using this
  rw [firstT, this]
theorem firstT_none (l : List Rn) (n : Int) (h : ∀ j, j < l.length → ¬ (l.getD j default).2 ≥ n) : firstT l n = (0, 12) := by
  have : l.find? (fun r => decide (n ≤ r.2)) = none := by
    rw [List.find?_eq_none]
    intro r hr
    obtain ⟨j, hj, rfl⟩ := List.getElem_of_mem hr
    have := h j hj
    rw [getD_at l j hj] at this
    simpa using this
  rw [firstT, this]
set_option maxRecDepth 10000 in
set_option maxHeartbeats 8000000 in
theorem rfirst_any (a : List Rn) (n : Int) (hl : a.length ≤ 1000) : CallOK Try.prog 19 [.sl 0 0 2 a.length none, I n] [(0, .ro 2 a.length (rowG encR a))] (.tup [I (firstF a n).1, I (firstF a n).2]) [] := by
  refine CallOK.intro Try.call19 Try.func19 rfl rfl ⟨rfl, fun _ => rfl, trivial⟩ ?_
  cases ha : vsB a
  · have hF : firstF a n = (0, 1) := if_neg (by rw [ha]; simp)
    rw [hF]
    have va := rvs_any a (by omega)
    rw [ha] at va
    refine Safe.ends mixed Go.Proofs.Try.func19 8 [⟨1100, []⟩, ⟨1200, [(1, .call [0] (B (false)) [])]⟩, ⟨1300, []⟩] (r := .tup [I ((0 : Int)), I ((1 : Int))]) (hp := [(0, .ro ((2 : Nat)) (a.length) (rowG encR a))]) (ob := [CallOK Try.prog (16 : Nat) ([] ++ [AV.sl (0 : Nat) (0 : Nat) (2 : Nat) a.length none] ++ []) [((0 : Nat), Ob.ro (2 : Nat) a.length (rowG encR a))] (AV.val (Value.bool false)) []]) rfl (by kernel_rfl) ⟨va, trivial⟩ rfl ⟨ObLe.refl _, trivial⟩ ⟨rfl, fun _ => rfl, trivial⟩ rfl
  · have q := rnorm_ok a hl ha
    have hn := norm_len a ha
    by_cases c0 : n < 1
    · have hF : firstF a n = (0, 1) := by rw [firstF, if_pos ha, if_pos c0]
      rw [hF]
      have va := rvs_any a (by omega)
      rw [ha] at va
      refine Safe.ends mixed Go.Proofs.Try.func19 8 [⟨1100, []⟩, ⟨1200, [(1, .call [0] (B (true)) []), (5, .tt true)]⟩, ⟨1300, []⟩] (r := .tup [I ((0 : Int)), I ((1 : Int))]) (hp := [(0, .ro ((2 : Nat)) (a.length) (rowG encR a))]) (ob := [CallOK Try.prog (16 : Nat) ([] ++ [AV.sl (0 : Nat) (0 : Nat) (2 : Nat) a.length none] ++ []) [((0 : Nat), Ob.ro (2 : Nat) a.length (rowG encR a))] (AV.val (Value.bool true)) [], decide (n < (1 : Int)) = true]) rfl (by kernel_rfl) ⟨va, (decide_eq_true c0), trivial⟩ rfl ⟨ObLe.refl _, trivial⟩ ⟨rfl, fun _ => rfl, trivial⟩ rfl
    · have hF : firstF a n = firstT (normF a) n := by rw [firstF, if_pos ha, if_neg c0]
      obtain ⟨L, hL⟩ : ∃ L, normF a = L := ⟨_, rfl⟩
      rw [hF]
      rw [hL] at q hn ⊢
      refine Safe.withLoop (loopAt Try.f19 0) [0, 20] 35 (fun k : Nat => [(1, I n), (6, .sl 20 0 2 L.length none), (7, I k)]) (fun k => [(0, .ro 2 a.length (rowG encR a)), (20, .ro 2 L.length (rowG encR L))]) (fun k => k ≤ L.length ∧ ∀ j, j < k → ¬ (L.getD j default).2 ≥ n) (fun k => L.length - k) ?_ ?_
      · rintro k ⟨hk, h1⟩ ih
        by_cases c1 : (k : Int) < (L.length : Int)
        · by_cases c2 : (L.getD k default).2 ≥ n
          · have e := firstT_hit L n k (by omega) h1 c2
            rw [e]
            refine Safe.ends mixed Go.Proofs.Try.func19 12 [⟨1100, [(3, .tt true)]⟩, ⟨1200, [(6, .tt true)]⟩, ⟨1300, []⟩] (r := .tup [I ((L.getD k default).fst), I ((0 : Int))]) (hp := [(0, .ro ((2 : Nat)) (a.length) (rowG encR a))]) (ob := [decide ((↑k : Int) < (↑L.length : Int)) = true, (0 : Int) ≤ (↑k : Int) ∧ (↑k : Int) < (↑L.length : Int), k < L.length, decide ((L.getD k default).snd ≥ n) = true, (0 : Int) ≤ (↑k : Int) ∧ (↑k : Int) < (↑L.length : Int), k < L.length]) rfl (by kernel_rfl) ⟨(decide_eq_true c1), (by omega), (by omega), (decide_eq_true c2), (by omega), (by omega), trivial⟩ rfl ⟨ObLe.refl _, trivial⟩ ⟨rfl, fun _ => rfl, trivial⟩ rfl
          · skip
            refine Safe.goto mixed 14 [⟨1100, [(3, .tt true)]⟩, ⟨1200, [(6, .tt false)]⟩, ⟨1300, []⟩] [1, 6, 7] [0, 20] (todo' := loopAt Go.Proofs.Try.f19 0) (sl := slotsOf 35 [(1, I (n)), (6, .sl ((20 : Nat)) ((0 : Nat)) ((2 : Nat)) (L.length) (none)), (7, I ((↑k : Int) + (1 : Int)))]) (hp := [(0, .ro ((2 : Nat)) (a.length) (rowG encR a)), (20, .ro ((2 : Nat)) (L.length) (rowG encR L))]) (ob := [decide ((↑k : Int) < (↑L.length : Int)) = true, (0 : Int) ≤ (↑k : Int) ∧ (↑k : Int) < (↑L.length : Int), k < L.length, decide ((L.getD k default).snd ≥ n) = false, inK IntKind.i64 ((↑k : Int) + (1 : Int))]) rfl rfl (by kernel_rfl) ⟨(decide_eq_true c1), (by omega), (by omega), (decide_eq_false c2), (by simp only [inK]; omega), trivial⟩ rfl ⟨rfl, fun _ => rfl, rfl, fun _ => rfl, trivial⟩ ?_
            refine ih (k + 1) ⟨by omega, fun j hj => ?_⟩ (by omega)
            by_cases ej : j = k
            · rw [ej]; exact c2
            · exact h1 j (by omega)
        · have e := firstT_none L n (fun j hj => h1 j (by omega))
          rw [e]
          refine Safe.ends mixed Go.Proofs.Try.func19 7 [⟨1100, [(3, .tt false)]⟩, ⟨1200, []⟩] (r := .tup [I ((0 : Int)), I ((12 : Int))]) (hp := [(0, .ro ((2 : Nat)) (a.length) (rowG encR a))]) (ob := [decide ((↑k : Int) < (↑L.length : Int)) = false]) rfl (by kernel_rfl) ⟨(decide_eq_false c1), trivial⟩ rfl ⟨ObLe.refl _, trivial⟩ ⟨rfl, fun _ => rfl, trivial⟩ rfl
      · intro H
        have va := rvs_any a (by omega)
        rw [ha] at va
        refine Safe.goto mixed 14 [⟨1100, []⟩, ⟨1200, [(1, .call [0] (B (true)) []), (5, .tt false)]⟩, ⟨1300, [(1, .call [0] (.sl ((1355 : Nat)) ((0 : Nat)) ((2 : Nat)) (L.length) (none)) [(1355, some (.ro ((2 : Nat)) (L.length) (fun q => renL [((0 : Nat), (0 : Nat)), ((10 : Nat), (1355 : Nat))] (rowG encR L q))))])]⟩, ⟨1400, []⟩] [1, 6, 7] [0, 1355] (todo' := loopAt Go.Proofs.Try.f19 0) (sl := slotsOf 35 [(1, I (n)), (6, .sl ((1355 : Nat)) ((0 : Nat)) ((2 : Nat)) (L.length) (none)), (7, I ((0 : Int)))]) (hp := [(0, .ro ((2 : Nat)) (a.length) (rowG encR a)), (1355, .ro ((2 : Nat)) (L.length) (fun q => renL [((0 : Nat), (0 : Nat)), ((10 : Nat), (1355 : Nat))] (rowG encR L q)))]) (ob := [CallOK Try.prog (16 : Nat) ([] ++ [AV.sl (0 : Nat) (0 : Nat) (2 : Nat) a.length none] ++ []) [((0 : Nat), Ob.ro (2 : Nat) a.length (rowG encR a))] (AV.val (Value.bool true)) [], decide (n < (1 : Int)) = false, CallOK Try.prog (28 : Nat) ([] ++ [AV.sl (0 : Nat) (0 : Nat) (2 : Nat) a.length none] ++ []) [((0 : Nat), Ob.ro (2 : Nat) a.length (rowG encR a))] (AV.sl (1355 : Nat) (0 : Nat) (2 : Nat) L.length none) [((1355 : Nat), some (Ob.ro (2 : Nat) L.length fun q => renL [((0 : Nat), (0 : Nat)), ((10 : Nat), (1355 : Nat))] (rowG encR L q)))]]) rfl rfl (by kernel_rfl) ⟨va, (decide_eq_false c0), (CallOK.ren q [(0, 0), (10, 1355)] [0, 10] rfl rfl rfl rfl ⟨rfl, fun _ => rfl, trivial⟩ rfl ⟨rfl, fun _ => rfl, rfl, fun _ => rfl, trivial⟩), trivial⟩ rfl ⟨rfl, fun _ => rfl, rfl, closed_renN (fun _ => rfl), trivial⟩ ?_
        refine Safe.ren [(1355, 20)] rfl rfl rfl rfl ⟨rfl, fun _ => rfl, rfl, closed_renN (fun _ => rfl), trivial⟩ ?_
        exact Safe.leH (H 0 ⟨Nat.zero_le _, fun j hj => by omega⟩) rfl (SlLe.refl _) ⟨ObLe.refl _, ⟨rfl, rfl, fun _ _ => rfl⟩, trivial⟩ rfl ⟨rfl, fun _ => rfl, rfl, fun _ => rfl, trivial⟩
set_option maxRecDepth 10000 in
set_option maxHeartbeats 8000000 in
theorem first_any (a : List Rn) (n : Int) (hl : a.length ≤ 1000) : CallOK Try.prog 18 [.sl 0 0 2 a.length none, I n] [(0, .ro 2 a.length (rowG encR a))] (.tup [I (firstF a n).1, I (firstF a n).2]) [] := by
  refine CallOK.intro Try.call18 Try.func18 rfl rfl ⟨rfl, fun _ => rfl, trivial⟩ ?_
  cases ha : vsB a
  · have hF : firstF a n = (0, 1) := if_neg (by rw [ha]; simp)
    rw [hF]
    have q := norm_err a hl (ck_1 (fun h => by rw [ha] at h; exact absurd h.1 (by simp)))
    refine Safe.ends mixed Go.Proofs.Try.func18 10 [⟨1100, []⟩, ⟨1200, [(1, .call [0] (.tup [.val (Value.slice none (0 : Nat) (0 : Nat)), I ((1 : Int))]) [])]⟩, ⟨1300, []⟩, ⟨1400, []⟩] (r := .tup [I ((0 : Int)), I ((1 : Int))]) (hp := [(0, .ro ((2 : Nat)) (a.length) (rowG encR a))]) (ob := [CallOK Try.prog (26 : Nat) ([] ++ [AV.sl (0 : Nat) (0 : Nat) (2 : Nat) a.length none] ++ []) [((0 : Nat), Ob.ro (2 : Nat) a.length (rowG encR a))] (AV.tup [AV.val (Value.slice none (0 : Nat) (0 : Nat)), AV.val (Value.int IntKind.i64 (1 : Int))]) []]) rfl (by kernel_rfl) ⟨q, trivial⟩ rfl ⟨ObLe.refl _, trivial⟩ ⟨rfl, fun _ => rfl, trivial⟩ rfl
  · have q := norm_ok a hl ha
    have hn := norm_len a ha
    by_cases c0 : n < 1
    · have hF : firstF a n = (0, 1) := by rw [firstF, if_pos ha, if_pos c0]
      rw [hF]
      refine Safe.ends mixed Go.Proofs.Try.func18 15 [⟨1100, []⟩, ⟨1200, [(1, .call [0] (.tup [.sl ((1255 : Nat)) ((0 : Nat)) ((2 : Nat)) ((normF a).length) (none), I ((0 : Int))]) [(1255, some (.vec ((42 : Nat)) ((2 : Nat)) ((normF a).length) (fun q => renL [((0 : Nat), (0 : Nat)), ((10 : Nat), (1255 : Nat))] (rowG encR (normF a) q))))])]⟩, ⟨1300, []⟩, ⟨1400, [(1, .tt true)]⟩, ⟨1500, []⟩] (r := .tup [I ((0 : Int)), I ((1 : Int))]) (hp := [(0, .ro ((2 : Nat)) (a.length) (rowG encR a))]) (ob := [CallOK Try.prog (26 : Nat) ([] ++ [AV.sl (0 : Nat) (0 : Nat) (2 : Nat) a.length none] ++ []) [((0 : Nat), Ob.ro (2 : Nat) a.length (rowG encR a))] (AV.tup [AV.sl (1255 : Nat) (0 : Nat) (2 : Nat) (normF a).length none, AV.val (Value.int IntKind.i64 (0 : Int))]) [((1255 : Nat), some (Ob.vec (42 : Nat) (2 : Nat) (normF a).length fun q => renL [((0 : Nat), (0 : Nat)), ((10 : Nat), (1255 : Nat))] (rowG encR (normF a) q)))], decide (n < (1 : Int)) = true]) rfl (by kernel_rfl) ⟨(CallOK.ren q [(0, 0), (10, 1255)] [0, 10] rfl rfl rfl rfl ⟨rfl, fun _ => rfl, trivial⟩ rfl ⟨rfl, fun _ => rfl, rfl, fun _ => rfl, trivial⟩), (decide_eq_true c0), trivial⟩ rfl ⟨ObLe.refl _, trivial⟩ ⟨rfl, fun _ => rfl, trivial⟩ rfl
    · have hF : firstF a n = firstT (normF a) n := by rw [firstF, if_pos ha, if_neg c0]
      obtain ⟨L, hL⟩ : ∃ L, normF a = L := ⟨_, rfl⟩
      rw [hF]
      rw [hL] at q hn ⊢
      refine Safe.withLoop (loopAt Try.f18 0) [0, 20] 33 (fun k : Nat => [(1, I n), (20, .sl 20 0 2 L.length none), (21, I L.length), (22, I k)]) (fun k => [(0, .ro 2 a.length (rowG encR a)), (20, .vec 42 2 L.length (rowG encR L))]) (fun k => k ≤ L.length ∧ ∀ j, j < k → ¬ (L.getD j default).2 ≥ n) (fun k => L.length - k) ?_ ?_
      · rintro k ⟨hk, h1⟩ ih
        by_cases c1 : (k : Int) < (L.length : Int)
        · by_cases c2 : (L.getD k default).2 ≥ n
          · have e := firstT_hit L n k (by omega) h1 c2
            rw [e]
            refine Safe.ends mixed Go.Proofs.Try.func18 14 [⟨1100, [(0, .tt true)]⟩, ⟨1200, []⟩, ⟨1300, [(3, .tt true)]⟩, ⟨1400, []⟩] (r := .tup [I ((L.getD k default).fst), I ((0 : Int))]) (hp := [(0, .ro ((2 : Nat)) (a.length) (rowG encR a))]) (ob := [decide ((↑k : Int) < (↑L.length : Int)) = true, (0 : Int) ≤ (↑k : Int) ∧ (↑k : Int) < (↑L.length : Int), k < L.length, decide ((L.getD k default).snd ≥ n) = true]) rfl (by kernel_rfl) ⟨(decide_eq_true c1), (by omega), (by omega), (decide_eq_true c2), trivial⟩ rfl ⟨ObLe.refl _, trivial⟩ ⟨rfl, fun _ => rfl, trivial⟩ rfl
          · skip
            refine Safe.goto mixed 16 [⟨1100, [(0, .tt true)]⟩, ⟨1200, []⟩, ⟨1300, [(3, .tt false)]⟩, ⟨1400, []⟩] [1, 20, 21, 22] [0, 20] (todo' := loopAt Go.Proofs.Try.f18 0) (sl := slotsOf 33 [(1, I (n)), (20, .sl ((20 : Nat)) ((0 : Nat)) ((2 : Nat)) (L.length) (none)), (21, I ((↑L.length : Int))), (22, I ((↑k : Int) + (1 : Int)))]) (hp := [(0, .ro ((2 : Nat)) (a.length) (rowG encR a)), (20, .vec ((42 : Nat)) ((2 : Nat)) (L.length) (rowG encR L))]) (ob := [decide ((↑k : Int) < (↑L.length : Int)) = true, (0 : Int) ≤ (↑k : Int) ∧ (↑k : Int) < (↑L.length : Int), k < L.length, decide ((L.getD k default).snd ≥ n) = false, inK IntKind.i64 ((↑k : Int) + (1 : Int))]) rfl rfl (by kernel_rfl) ⟨(decide_eq_true c1), (by omega), (by omega), (decide_eq_false c2), (by simp only [inK]; omega), trivial⟩ rfl ⟨rfl, fun _ => rfl, rfl, fun _ => rfl, trivial⟩ ?_
            refine ih (k + 1) ⟨by omega, fun j hj => ?_⟩ (by omega)
            by_cases ej : j = k
            · rw [ej]; exact c2
            · exact h1 j (by omega)
        · have e := firstT_none L n (fun j hj => h1 j (by omega))
          rw [e]
          refine Safe.ends mixed Go.Proofs.Try.func18 7 [⟨1100, [(0, .tt false)]⟩, ⟨1200, []⟩] (r := .tup [I ((0 : Int)), I ((12 : Int))]) (hp := [(0, .ro ((2 : Nat)) (a.length) (rowG encR a))]) (ob := [decide ((↑k : Int) < (↑L.length : Int)) = false]) rfl (by kernel_rfl) ⟨(decide_eq_false c1), trivial⟩ rfl ⟨ObLe.refl _, trivial⟩ ⟨rfl, fun _ => rfl, trivial⟩ rfl
      · intro H
        refine Safe.goto mixed 19 [⟨1100, []⟩, ⟨1200, [(1, .call [0] (.tup [.sl ((1255 : Nat)) ((0 : Nat)) ((2 : Nat)) (L.length) (none), I ((0 : Int))]) [(1255, some (.vec ((42 : Nat)) ((2 : Nat)) (L.length) (fun q => renL [((0 : Nat), (0 : Nat)), ((10 : Nat), (1255 : Nat))] (rowG encR L q))))])]⟩, ⟨1300, []⟩, ⟨1400, [(1, .tt false)]⟩, ⟨1500, []⟩] [1, 20, 21, 22] [0, 1255] (todo' := loopAt Go.Proofs.Try.f18 0) (sl := slotsOf 33 [(1, I (n)), (20, .sl ((1255 : Nat)) ((0 : Nat)) ((2 : Nat)) (L.length) (none)), (21, I ((↑L.length : Int))), (22, I ((0 : Int)))]) (hp := [(0, .ro ((2 : Nat)) (a.length) (rowG encR a)), (1255, .vec ((42 : Nat)) ((2 : Nat)) (L.length) (fun q => renL [((0 : Nat), (0 : Nat)), ((10 : Nat), (1255 : Nat))] (rowG encR L q)))]) (ob := [CallOK Try.prog (26 : Nat) ([] ++ [AV.sl (0 : Nat) (0 : Nat) (2 : Nat) a.length none] ++ []) [((0 : Nat), Ob.ro (2 : Nat) a.length (rowG encR a))] (AV.tup [AV.sl (1255 : Nat) (0 : Nat) (2 : Nat) L.length none, AV.val (Value.int IntKind.i64 (0 : Int))]) [((1255 : Nat), some (Ob.vec (42 : Nat) (2 : Nat) L.length fun q => renL [((0 : Nat), (0 : Nat)), ((10 : Nat), (1255 : Nat))] (rowG encR L q)))], decide (n < (1 : Int)) = false]) rfl rfl (by kernel_rfl) ⟨(CallOK.ren q [(0, 0), (10, 1255)] [0, 10] rfl rfl rfl rfl ⟨rfl, fun _ => rfl, trivial⟩ rfl ⟨rfl, fun _ => rfl, rfl, fun _ => rfl, trivial⟩), (decide_eq_false c0), trivial⟩ rfl ⟨rfl, fun _ => rfl, rfl, closed_renN (fun _ => rfl), trivial⟩ ?_
        refine Safe.ren [(1255, 20)] rfl rfl rfl rfl ⟨rfl, fun _ => rfl, rfl, closed_renN (fun _ => rfl), trivial⟩ ?_
        exact Safe.leH (H 0 ⟨Nat.zero_le _, fun j hj => by omega⟩) rfl (SlLe.refl _) ⟨ObLe.refl _, ⟨rfl, rfl, rfl, fun _ _ => rfl⟩, trivial⟩ rfl ⟨rfl, fun _ => rfl, rfl, fun _ => rfl, trivial⟩
end Go.Proofs.Ytgfdmeaganhpiaa
