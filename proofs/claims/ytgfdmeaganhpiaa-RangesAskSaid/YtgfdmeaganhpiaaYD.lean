/- Take: the program's and the reference's. No conditions but those of each theorem. -/
import Derived.Test.YtgfdmeaganhpiaaSyZ
import Derived.KernelRfl
import Derived.Test.YtgfdmeaganhpiaaY9
namespace Go.Proofs.Ytgfdmeaganhpiaa
open Go.RowKit
set_option linter.unusedVariables false
set_option linter.unnecessarySimpa false
def remT (l : List Rn) (n : Int) : Nat → Int
  | 0 => n
  | k + 1 => remT l n k - min (remT l n k) (l.getD k default).2
def outT (l : List Rn) (n : Int) : Nat → List Rn
  | 0 => []
  | k + 1 => if remT l n k = 0 then outT l n k else outT l n k ++ [((l.getD k default).1, min (remT l n k) (l.getD k default).2)]
theorem remT_bd (l : List Rn) (hv : ∀ r ∈ l, Old.Vld r) (n : Int) (hn : 0 ≤ n) : ∀ k, k ≤ l.length → 0 ≤ remT l n k ∧ remT l n k ≤ n
  | 0, _ => by simp [remT, hn]
  | k + 1, h => by
    have h1 := remT_bd l hv n hn k (by omega)
    have h2 := vld_at hv (show k < l.length by omega)
    simp only [remT]
    omega
theorem remT_stop (l : List Rn) (hv : ∀ r ∈ l, Old.Vld r) (n : Int) (k : Nat) (h0 : remT l n k = 0) : ∀ j, k + j ≤ l.length → remT l n (k + j) = 0 ∧ outT l n (k + j) = outT l n k
  | 0, _ => ⟨h0, rfl⟩
  | j + 1, h => by
    obtain ⟨h1, h2⟩ := remT_stop l hv n k h0 j (by omega)
    have h3 := vld_at hv (show k + j < l.length by omega)
    refine ⟨?_, ?_⟩
    · show remT l n (k + j) - min (remT l n (k + j)) (l.getD (k + j) default).2 = 0
      omega
    · show (if remT l n (k + j) = 0 then outT l n (k + j) else _) = _
      rw [if_pos h1, h2]
theorem outT_len (l : List Rn) (n : Int) : ∀ k, (outT l n k).length ≤ k
  | 0 => Nat.le_refl _
  | k + 1 => by
    have := outT_len l n k
    simp only [outT]
    split <;> simp <;> omega
set_option maxRecDepth 10000 in
set_option maxHeartbeats 8000000 in
theorem rtake_ok (a : List Rn) (n : Int) (hl : a.length ≤ 1000) (ha : vsB a = true) (h0 : 0 ≤ n) (h63 : n ≤ 9223372036854775807) (h : remT (normF a) n (normF a).length = 0) : CallOK Try.prog 21 [.sl 0 0 2 a.length none, I n] [(0, .ro 2 a.length (rowG encR a))] (.tup [.sl 10 0 2 (outT (normF a) n (normF a).length).length none, I 0]) [(10, some (.ro 2 (outT (normF a) n (normF a).length).length (rowG encR (outT (normF a) n (normF a).length))))] := by
  refine CallOK.intro Try.call21 Try.func21 rfl rfl ⟨rfl, fun _ => rfl, trivial⟩ ?_
  have q := rnorm_ok a hl ha
  have hn := norm_len a ha
  have hv := norm_vld a ha
  have hneg : ¬ n < 0 := by omega
  have va := rvs_any a (by omega)
  rw [ha] at va
  obtain ⟨L, hL⟩ : ∃ L, normF a = L := ⟨_, rfl⟩
  rw [hL] at q hn hv h ⊢
  refine Safe.withLoop (loopAt Try.f21 0) [0, 12, 20] 52 (fun k : Nat => [(1, I (remT L n k)), (6, .sl 12 0 2 (outT L n k).length none), (7, .sl 20 0 2 L.length none), (8, I k)]) (fun k => [(0, .ro 2 a.length (rowG encR a)), (12, .vec 42 2 (outT L n k).length (rowG encR (outT L n k))), (20, .ro 2 L.length (rowG encR L))]) (fun k => k ≤ L.length) (fun k => L.length - k) ?_ ?_
  · rintro k hk ih
    have hb := remT_bd L hv n h0 k hk
    have ho := outT_len L n k
    by_cases c1 : (k : Int) < (L.length : Int)
    · have hvk := vld_at hv (show k < L.length by omega)
      by_cases c2 : remT L n k = 0
      · obtain ⟨s1, s2⟩ := remT_stop L hv n k c2 (L.length - k) (by omega)
        rw [show k + (L.length - k) = L.length by omega] at s1 s2
        have c3 : ¬ remT L n k > 0 := by omega
        refine Safe.gotoE mixed 12 [⟨1100, [(3, .tt true), (6, .tt false)]⟩, ⟨1200, [(1, .tt false)]⟩, ⟨1300, []⟩] [4, 5] [0, 12] (sl := slotsOf 52 [(4, .sl ((12 : Nat)) ((0 : Nat)) ((2 : Nat)) ((outT L n k).length) (none)), (5, I ((0 : Int)))]) (hp := [(0, .ro ((2 : Nat)) (a.length) (rowG encR a)), (12, .vec ((42 : Nat)) ((2 : Nat)) ((outT L n k).length) (rowG encR (outT L n k)))]) (ob := [decide ((↑k : Int) < (↑L.length : Int)) = true, decide (remT L n k > (0 : Int)) = false, decide (remT L n k > (0 : Int)) = false]) rfl rfl (by kernel_rfl) ⟨(decide_eq_true c1), (decide_eq_false c3), (decide_eq_false c3), trivial⟩ rfl ⟨rfl, fun _ => rfl, rfl, fun _ => rfl, trivial⟩ fun td htd => ?_
        refine Safe.ren [(12, 10)] rfl rfl rfl rfl ⟨rfl, fun _ => rfl, rfl, fun _ => rfl, trivial⟩ ?_
        refine Safe.toRo 10 0 ((outT L n k).length) (by omega) [0] rfl rfl rfl rfl ⟨closed_renN (fun _ => rfl), closed_renN (fun _ => rfl), trivial⟩ ?_
        refine Safe.endsT Go.Proofs.Try.func21 htd (r := .tup [.sl ((10 : Nat)) ((0 : Nat)) ((2 : Nat)) ((outT L n k).length) (none), I ((0 : Int))]) (hp := [(0, .ro ((2 : Nat)) (a.length) (fun q => renL [((12 : Nat), (10 : Nat))] (rowG encR a q))), (10, .ro ((2 : Nat)) ((outT L n k).length) (fun q => renL [((12 : Nat), (10 : Nat))] (rowG encR (outT L n k) q)))]) (ob := []) rfl (by kernel_rfl) trivial ?_ ⟨⟨rfl, rfl, fun _ _ => rfl⟩, ?_, trivial⟩ ⟨rfl, fun _ => rfl, rfl, fun _ => rfl, trivial⟩ rfl
        · rw [s2]; rfl
        · rw [s2]; exact ⟨rfl, rfl, fun _ _ => rfl⟩
      · have c3 : remT L n k > 0 := by omega
        have e1 : outT L n (k + 1) = outT L n k ++ [((L.getD k default).1, min (remT L n k) (L.getD k default).2)] := if_neg c2
        have e2 : remT L n (k + 1) = remT L n k - min (remT L n k) (L.getD k default).2 := rfl
        refine Safe.goto mixed 15 [⟨1100, [(3, .tt true), (6, .tt true)]⟩, ⟨1200, []⟩, ⟨1300, []⟩, ⟨1400, []⟩, ⟨1500, []⟩] [1, 6, 7, 8] [0, 1309, 20] (todo' := loopAt Go.Proofs.Try.f21 0) (sl := slotsOf 52 [(1, I (remT L n k - min (remT L n k) (L.getD k default).snd)), (6, .sl ((1309 : Nat)) ((0 : Nat)) ((2 : Nat)) (addN (outT L n k).length (1 : Nat)) (none)), (7, .sl ((20 : Nat)) ((0 : Nat)) ((2 : Nat)) (L.length) (none)), (8, I ((↑k : Int) + (1 : Int)))]) (hp := [(0, .ro ((2 : Nat)) (a.length) (rowG encR a)), (1309, .vec ((42 : Nat)) ((2 : Nat)) (addN (outT L n k).length (1 : Nat)) (catR (outT L n k).length (rowG encR (outT L n k)) (rowsOf [AV.val (Value.int IntKind.i64 (L.getD k default).fst), AV.val (Value.int IntKind.i64 (min (remT L n k) (L.getD k default).snd))] (2 : Nat)))), (20, .ro ((2 : Nat)) (L.length) (rowG encR L))]) (ob := [decide ((↑k : Int) < (↑L.length : Int)) = true, decide (remT L n k > (0 : Int)) = true, (0 : Int) ≤ (↑k : Int) ∧ (↑k : Int) < (↑L.length : Int), k < L.length, (0 : Int) ≤ (↑k : Int) ∧ (↑k : Int) < (↑L.length : Int), k < L.length, (0 : Nat) + (1 : Nat) ≤ (1 : Nat), (outT L n k).length = (outT L n k).length, (outT L n k).length + (1 : Nat) ≤ (1099511627776 : Nat), inK IntKind.i64 (remT L n k - min (remT L n k) (L.getD k default).snd), inK IntKind.i64 ((↑k : Int) + (1 : Int))]) rfl rfl (by kernel_rfl) ⟨(decide_eq_true c1), (decide_eq_true c3), (by omega), (by omega), (by omega), (by omega), (by omega), (by omega), (by omega), (by simp only [inK]; omega), (by simp only [inK]; omega), trivial⟩ rfl ⟨rfl, fun _ => rfl, rfl, closed_cat (fun _ => rfl) (closed_rows rfl), rfl, fun _ => rfl, trivial⟩ ?_
        refine Safe.ren [(1309, 12)] rfl rfl rfl rfl ⟨rfl, fun _ => rfl, rfl, closed_cat (fun _ => rfl) (closed_rows rfl), rfl, fun _ => rfl, trivial⟩ ?_
        have hh := ih (k + 1) (by omega) (by omega)
        rw [e1, e2] at hh
        rw [show addN (outT L n k).length 1 = (outT L n k ++ [((L.getD k default).1, min (remT L n k) (L.getD k default).2)]).length by rw [addN_eq]; simp]
        refine Safe.leH hh rfl (SlLe.refl _) ⟨ObLe.refl _, ?_, ?_, trivial⟩ rfl ⟨rfl, fun _ => rfl, rfl, fun _ => rfl, rfl, fun _ => rfl, trivial⟩
        · exact ob_ren_one encR (outT L n k) ((L.getD k default).1, min (remT L n k) (L.getD k default).2) _ (by simp) (fun _ => rfl) rfl
        · first | exact ObLe.refl _ | exact ⟨rfl, rfl, fun _ _ => rfl⟩ | exact ⟨rfl, rfl, rfl, fun _ _ => rfl⟩
    · have e : k = L.length := by omega
      have c3 : ¬ remT L n k > 0 := by rw [e]; omega
      refine Safe.gotoE mixed 12 [⟨1100, [(3, .tt false)]⟩, ⟨1200, [(1, .tt false)]⟩, ⟨1300, []⟩] [4, 5] [0, 12] (sl := slotsOf 52 [(4, .sl ((12 : Nat)) ((0 : Nat)) ((2 : Nat)) ((outT L n k).length) (none)), (5, I ((0 : Int)))]) (hp := [(0, .ro ((2 : Nat)) (a.length) (rowG encR a)), (12, .vec ((42 : Nat)) ((2 : Nat)) ((outT L n k).length) (rowG encR (outT L n k)))]) (ob := [decide ((↑k : Int) < (↑L.length : Int)) = false, decide (remT L n k > (0 : Int)) = false]) rfl rfl (by kernel_rfl) ⟨(decide_eq_false c1), (decide_eq_false c3), trivial⟩ rfl ⟨rfl, fun _ => rfl, rfl, fun _ => rfl, trivial⟩ fun td htd => ?_
      refine Safe.ren [(12, 10)] rfl rfl rfl rfl ⟨rfl, fun _ => rfl, rfl, fun _ => rfl, trivial⟩ ?_
      refine Safe.toRo 10 0 ((outT L n k).length) (by omega) [0] rfl rfl rfl rfl ⟨closed_renN (fun _ => rfl), closed_renN (fun _ => rfl), trivial⟩ ?_
      refine Safe.endsT Go.Proofs.Try.func21 htd (r := .tup [.sl ((10 : Nat)) ((0 : Nat)) ((2 : Nat)) ((outT L n k).length) (none), I ((0 : Int))]) (hp := [(0, .ro ((2 : Nat)) (a.length) (fun q => renL [((12 : Nat), (10 : Nat))] (rowG encR a q))), (10, .ro ((2 : Nat)) ((outT L n k).length) (fun q => renL [((12 : Nat), (10 : Nat))] (rowG encR (outT L n k) q)))]) (ob := []) rfl (by kernel_rfl) trivial ?_ ⟨⟨rfl, rfl, fun _ _ => rfl⟩, ?_, trivial⟩ ⟨rfl, fun _ => rfl, rfl, fun _ => rfl, trivial⟩ rfl
      · rw [e]; rfl
      · rw [e]; exact ⟨rfl, rfl, fun _ _ => rfl⟩
  · intro H
    refine Safe.goto mixed 16 [⟨1100, []⟩, ⟨1200, [(1, .call [0] (B (true)) []), (5, .tt false)]⟩, ⟨1300, []⟩, ⟨1400, [(1, .call [0] (.sl ((1455 : Nat)) ((0 : Nat)) ((2 : Nat)) (L.length) (none)) [(1455, some (.ro ((2 : Nat)) (L.length) (fun q => renL [((0 : Nat), (0 : Nat)), ((10 : Nat), (1455 : Nat))] (rowG encR L q))))])]⟩, ⟨1500, []⟩] [1, 6, 7, 8] [0, 1455] (todo' := loopAt Go.Proofs.Try.f21 0) (sl := slotsOf 52 [(1, I (n)), (6, .val (Value.slice none (0 : Nat) (0 : Nat))), (7, .sl ((1455 : Nat)) ((0 : Nat)) ((2 : Nat)) (L.length) (none)), (8, I ((0 : Int)))]) (hp := [(0, .ro ((2 : Nat)) (a.length) (rowG encR a)), (1455, .ro ((2 : Nat)) (L.length) (fun q => renL [((0 : Nat), (0 : Nat)), ((10 : Nat), (1455 : Nat))] (rowG encR L q)))]) (ob := [CallOK Try.prog (16 : Nat) ([] ++ [AV.sl (0 : Nat) (0 : Nat) (2 : Nat) a.length none] ++ []) [((0 : Nat), Ob.ro (2 : Nat) a.length (rowG encR a))] (AV.val (Value.bool true)) [], decide (n < (0 : Int)) = false, CallOK Try.prog (28 : Nat) ([] ++ [AV.sl (0 : Nat) (0 : Nat) (2 : Nat) a.length none] ++ []) [((0 : Nat), Ob.ro (2 : Nat) a.length (rowG encR a))] (AV.sl (1455 : Nat) (0 : Nat) (2 : Nat) L.length none) [((1455 : Nat), some (Ob.ro (2 : Nat) L.length fun q => renL [((0 : Nat), (0 : Nat)), ((10 : Nat), (1455 : Nat))] (rowG encR L q)))]]) rfl rfl (by kernel_rfl) ⟨va, (decide_eq_false hneg), (CallOK.ren q [(0, 0), (10, 1455)] [0, 10] rfl rfl rfl rfl ⟨rfl, fun _ => rfl, trivial⟩ rfl ⟨rfl, fun _ => rfl, rfl, fun _ => rfl, trivial⟩), trivial⟩ rfl ⟨rfl, fun _ => rfl, rfl, closed_renN (fun _ => rfl), trivial⟩ ?_
    refine Safe.ren [(1455, 20)] rfl rfl rfl rfl ⟨rfl, fun _ => rfl, rfl, closed_renN (fun _ => rfl), trivial⟩ ?_
    refine Safe.nil 6 12 42 2 (rowG encR []) rfl rfl ⟨rfl, fun _ => rfl, rfl, fun _ => rfl, trivial⟩ ?_ rfl
    refine Safe.leH (H 0 (Nat.zero_le _)) rfl (SlLe.refl _) ⟨?_, ?_, ?_, trivial⟩ rfl ⟨rfl, fun _ => rfl, rfl, fun _ => rfl, rfl, fun _ => rfl, trivial⟩
    all_goals first | exact ObLe.refl _ | exact ⟨rfl, rfl, fun _ _ => rfl⟩ | exact ⟨rfl, rfl, rfl, fun _ _ => rfl⟩
set_option maxRecDepth 10000 in
set_option maxHeartbeats 8000000 in
theorem rtake_none (a : List Rn) (n : Int) (hl : a.length ≤ 1000) (ha : vsB a = true) (h0 : 0 ≤ n) (h63 : n ≤ 9223372036854775807) (h : 0 < remT (normF a) n (normF a).length) : CallOK Try.prog 21 [.sl 0 0 2 a.length none, I n] [(0, .ro 2 a.length (rowG encR a))] (.tup [.val (.slice none 0 0), I 12]) [] := by
  refine CallOK.intro Try.call21 Try.func21 rfl rfl ⟨rfl, fun _ => rfl, trivial⟩ ?_
  have q := rnorm_ok a hl ha
  have hn := norm_len a ha
  have hv := norm_vld a ha
  have hneg : ¬ n < 0 := by omega
  have va := rvs_any a (by omega)
  rw [ha] at va
  obtain ⟨L, hL⟩ : ∃ L, normF a = L := ⟨_, rfl⟩
  rw [hL] at q hn hv h
  refine Safe.withLoop (loopAt Try.f21 0) [0, 12, 20] 52 (fun k : Nat => [(1, I (remT L n k)), (6, .sl 12 0 2 (outT L n k).length none), (7, .sl 20 0 2 L.length none), (8, I k)]) (fun k => [(0, .ro 2 a.length (rowG encR a)), (12, .vec 42 2 (outT L n k).length (rowG encR (outT L n k))), (20, .ro 2 L.length (rowG encR L))]) (fun k => k ≤ L.length) (fun k => L.length - k) ?_ ?_
  · rintro k hk ih
    have hb := remT_bd L hv n h0 k hk
    have ho := outT_len L n k
    by_cases c1 : (k : Int) < (L.length : Int)
    · have hvk := vld_at hv (show k < L.length by omega)
      by_cases c2 : remT L n k = 0
      · obtain ⟨s1, s2⟩ := remT_stop L hv n k c2 (L.length - k) (by omega)
        rw [show k + (L.length - k) = L.length by omega] at s1 s2
        omega
      · have c3 : remT L n k > 0 := by omega
        have e1 : outT L n (k + 1) = outT L n k ++ [((L.getD k default).1, min (remT L n k) (L.getD k default).2)] := if_neg c2
        have e2 : remT L n (k + 1) = remT L n k - min (remT L n k) (L.getD k default).2 := rfl
        refine Safe.goto mixed 15 [⟨1100, [(3, .tt true), (6, .tt true)]⟩, ⟨1200, []⟩, ⟨1300, []⟩, ⟨1400, []⟩, ⟨1500, []⟩] [1, 6, 7, 8] [0, 1309, 20] (todo' := loopAt Go.Proofs.Try.f21 0) (sl := slotsOf 52 [(1, I (remT L n k - min (remT L n k) (L.getD k default).snd)), (6, .sl ((1309 : Nat)) ((0 : Nat)) ((2 : Nat)) (addN (outT L n k).length (1 : Nat)) (none)), (7, .sl ((20 : Nat)) ((0 : Nat)) ((2 : Nat)) (L.length) (none)), (8, I ((↑k : Int) + (1 : Int)))]) (hp := [(0, .ro ((2 : Nat)) (a.length) (rowG encR a)), (1309, .vec ((42 : Nat)) ((2 : Nat)) (addN (outT L n k).length (1 : Nat)) (catR (outT L n k).length (rowG encR (outT L n k)) (rowsOf [AV.val (Value.int IntKind.i64 (L.getD k default).fst), AV.val (Value.int IntKind.i64 (min (remT L n k) (L.getD k default).snd))] (2 : Nat)))), (20, .ro ((2 : Nat)) (L.length) (rowG encR L))]) (ob := [decide ((↑k : Int) < (↑L.length : Int)) = true, decide (remT L n k > (0 : Int)) = true, (0 : Int) ≤ (↑k : Int) ∧ (↑k : Int) < (↑L.length : Int), k < L.length, (0 : Int) ≤ (↑k : Int) ∧ (↑k : Int) < (↑L.length : Int), k < L.length, (0 : Nat) + (1 : Nat) ≤ (1 : Nat), (outT L n k).length = (outT L n k).length, (outT L n k).length + (1 : Nat) ≤ (1099511627776 : Nat), inK IntKind.i64 (remT L n k - min (remT L n k) (L.getD k default).snd), inK IntKind.i64 ((↑k : Int) + (1 : Int))]) rfl rfl (by kernel_rfl) ⟨(decide_eq_true c1), (decide_eq_true c3), (by omega), (by omega), (by omega), (by omega), (by omega), (by omega), (by omega), (by simp only [inK]; omega), (by simp only [inK]; omega), trivial⟩ rfl ⟨rfl, fun _ => rfl, rfl, closed_cat (fun _ => rfl) (closed_rows rfl), rfl, fun _ => rfl, trivial⟩ ?_
        refine Safe.ren [(1309, 12)] rfl rfl rfl rfl ⟨rfl, fun _ => rfl, rfl, closed_cat (fun _ => rfl) (closed_rows rfl), rfl, fun _ => rfl, trivial⟩ ?_
        have hh := ih (k + 1) (by omega) (by omega)
        rw [e1, e2] at hh
        rw [show addN (outT L n k).length 1 = (outT L n k ++ [((L.getD k default).1, min (remT L n k) (L.getD k default).2)]).length by rw [addN_eq]; simp]
        refine Safe.leH hh rfl (SlLe.refl _) ⟨ObLe.refl _, ?_, ?_, trivial⟩ rfl ⟨rfl, fun _ => rfl, rfl, fun _ => rfl, rfl, fun _ => rfl, trivial⟩
        · exact ob_ren_one encR (outT L n k) ((L.getD k default).1, min (remT L n k) (L.getD k default).2) _ (by simp) (fun _ => rfl) rfl
        · first | exact ObLe.refl _ | exact ⟨rfl, rfl, fun _ _ => rfl⟩ | exact ⟨rfl, rfl, rfl, fun _ _ => rfl⟩
    · have e : k = L.length := by omega
      have c3 : remT L n k > 0 := by rw [e]; omega
      refine Safe.ends mixed Go.Proofs.Try.func21 11 [⟨1100, [(3, .tt false)]⟩, ⟨1200, [(1, .tt true)]⟩, ⟨1300, []⟩] (r := .tup [.val (Value.slice none (0 : Nat) (0 : Nat)), I ((12 : Int))]) (hp := [(0, .ro ((2 : Nat)) (a.length) (rowG encR a))]) (ob := [decide ((↑k : Int) < (↑L.length : Int)) = false, decide (remT L n k > (0 : Int)) = true]) rfl (by kernel_rfl) ⟨(decide_eq_false c1), (decide_eq_true c3), trivial⟩ rfl ⟨ObLe.refl _, trivial⟩ ⟨rfl, fun _ => rfl, trivial⟩ rfl
  · intro H
    refine Safe.goto mixed 16 [⟨1100, []⟩, ⟨1200, [(1, .call [0] (B (true)) []), (5, .tt false)]⟩, ⟨1300, []⟩, ⟨1400, [(1, .call [0] (.sl ((1455 : Nat)) ((0 : Nat)) ((2 : Nat)) (L.length) (none)) [(1455, some (.ro ((2 : Nat)) (L.length) (fun q => renL [((0 : Nat), (0 : Nat)), ((10 : Nat), (1455 : Nat))] (rowG encR L q))))])]⟩, ⟨1500, []⟩] [1, 6, 7, 8] [0, 1455] (todo' := loopAt Go.Proofs.Try.f21 0) (sl := slotsOf 52 [(1, I (n)), (6, .val (Value.slice none (0 : Nat) (0 : Nat))), (7, .sl ((1455 : Nat)) ((0 : Nat)) ((2 : Nat)) (L.length) (none)), (8, I ((0 : Int)))]) (hp := [(0, .ro ((2 : Nat)) (a.length) (rowG encR a)), (1455, .ro ((2 : Nat)) (L.length) (fun q => renL [((0 : Nat), (0 : Nat)), ((10 : Nat), (1455 : Nat))] (rowG encR L q)))]) (ob := [CallOK Try.prog (16 : Nat) ([] ++ [AV.sl (0 : Nat) (0 : Nat) (2 : Nat) a.length none] ++ []) [((0 : Nat), Ob.ro (2 : Nat) a.length (rowG encR a))] (AV.val (Value.bool true)) [], decide (n < (0 : Int)) = false, CallOK Try.prog (28 : Nat) ([] ++ [AV.sl (0 : Nat) (0 : Nat) (2 : Nat) a.length none] ++ []) [((0 : Nat), Ob.ro (2 : Nat) a.length (rowG encR a))] (AV.sl (1455 : Nat) (0 : Nat) (2 : Nat) L.length none) [((1455 : Nat), some (Ob.ro (2 : Nat) L.length fun q => renL [((0 : Nat), (0 : Nat)), ((10 : Nat), (1455 : Nat))] (rowG encR L q)))]]) rfl rfl (by kernel_rfl) ⟨va, (decide_eq_false hneg), (CallOK.ren q [(0, 0), (10, 1455)] [0, 10] rfl rfl rfl rfl ⟨rfl, fun _ => rfl, trivial⟩ rfl ⟨rfl, fun _ => rfl, rfl, fun _ => rfl, trivial⟩), trivial⟩ rfl ⟨rfl, fun _ => rfl, rfl, closed_renN (fun _ => rfl), trivial⟩ ?_
    refine Safe.ren [(1455, 20)] rfl rfl rfl rfl ⟨rfl, fun _ => rfl, rfl, closed_renN (fun _ => rfl), trivial⟩ ?_
    refine Safe.nil 6 12 42 2 (rowG encR []) rfl rfl ⟨rfl, fun _ => rfl, rfl, fun _ => rfl, trivial⟩ ?_ rfl
    refine Safe.leH (H 0 (Nat.zero_le _)) rfl (SlLe.refl _) ⟨?_, ?_, ?_, trivial⟩ rfl ⟨rfl, fun _ => rfl, rfl, fun _ => rfl, rfl, fun _ => rfl, trivial⟩
    all_goals first | exact ObLe.refl _ | exact ⟨rfl, rfl, fun _ _ => rfl⟩ | exact ⟨rfl, rfl, rfl, fun _ _ => rfl⟩
set_option maxRecDepth 10000 in
set_option maxHeartbeats 8000000 in
theorem take_ok (a : List Rn) (n : Int) (hl : a.length ≤ 1000) (ha : vsB a = true) (h0 : 0 ≤ n) (h63 : n ≤ 9223372036854775807) (h : remT (normF a) n (normF a).length = 0) : CallOK Try.prog 20 [.sl 0 0 2 a.length none, I n] [(0, .ro 2 a.length (rowG encR a))] (.tup [.sl 10 0 2 (outT (normF a) n (normF a).length).length none, I 0]) [(10, some (.ro 2 (outT (normF a) n (normF a).length).length (rowG encR (outT (normF a) n (normF a).length))))] := by
  refine CallOK.intro Try.call20 Try.func20 rfl rfl ⟨rfl, fun _ => rfl, trivial⟩ ?_
  have q := norm_ok a hl ha
  have hn := norm_len a ha
  have hv := norm_vld a ha
  have hneg : ¬ n < 0 := by omega
  obtain ⟨L, hL⟩ : ∃ L, normF a = L := ⟨_, rfl⟩
  rw [hL] at q hn hv h ⊢
  refine Safe.withLoop (loopAt Try.f20 0) [0, 12, 20] 46 (fun k : Nat => [(1, I (remT L n k)), (8, .sl 12 0 2 (outT L n k).length none), (21, .sl 20 0 2 L.length none), (22, I L.length), (23, I k)]) (fun k => [(0, .ro 2 a.length (rowG encR a)), (12, .vec 42 2 (outT L n k).length (rowG encR (outT L n k))), (20, .vec 42 2 L.length (rowG encR L))]) (fun k => k ≤ L.length) (fun k => L.length - k) ?_ ?_
  · rintro k hk ih
    have hb := remT_bd L hv n h0 k hk
    have ho := outT_len L n k
    by_cases c1 : (k : Int) < (L.length : Int)
    · have hvk := vld_at hv (show k < L.length by omega)
      by_cases c2 : remT L n k = 0
      · obtain ⟨s1, s2⟩ := remT_stop L hv n k c2 (L.length - k) (by omega)
        rw [show k + (L.length - k) = L.length by omega] at s1 s2
        have c3 : ¬ remT L n k > 0 := by omega
        refine Safe.gotoE mixed 21 [⟨1100, [(0, .tt true)]⟩, ⟨1200, []⟩, ⟨1300, [(1, .tt true)]⟩, ⟨1400, [(1, .tt false)]⟩, ⟨1500, []⟩] [4, 5] [0, 12] (sl := slotsOf 46 [(4, .sl ((12 : Nat)) ((0 : Nat)) ((2 : Nat)) ((outT L n k).length) (none)), (5, I ((0 : Int)))]) (hp := [(0, .ro ((2 : Nat)) (a.length) (rowG encR a)), (12, .vec ((42 : Nat)) ((2 : Nat)) ((outT L n k).length) (rowG encR (outT L n k)))]) (ob := [decide ((↑k : Int) < (↑L.length : Int)) = true, (0 : Int) ≤ (↑k : Int) ∧ (↑k : Int) < (↑L.length : Int), k < L.length, decide (remT L n k = (0 : Int)) = true, decide (remT L n k > (0 : Int)) = false]) rfl rfl (by kernel_rfl) ⟨(decide_eq_true c1), (by omega), (by omega), (decide_eq_true c2), (decide_eq_false c3), trivial⟩ rfl ⟨rfl, fun _ => rfl, rfl, fun _ => rfl, trivial⟩ fun td htd => ?_
        refine Safe.ren [(12, 10)] rfl rfl rfl rfl ⟨rfl, fun _ => rfl, rfl, fun _ => rfl, trivial⟩ ?_
        refine Safe.toRo 10 0 ((outT L n k).length) (by omega) [0] rfl rfl rfl rfl ⟨closed_renN (fun _ => rfl), closed_renN (fun _ => rfl), trivial⟩ ?_
        refine Safe.endsT Go.Proofs.Try.func20 htd (r := .tup [.sl ((10 : Nat)) ((0 : Nat)) ((2 : Nat)) ((outT L n k).length) (none), I ((0 : Int))]) (hp := [(0, .ro ((2 : Nat)) (a.length) (fun q => renL [((12 : Nat), (10 : Nat))] (rowG encR a q))), (10, .ro ((2 : Nat)) ((outT L n k).length) (fun q => renL [((12 : Nat), (10 : Nat))] (rowG encR (outT L n k) q)))]) (ob := []) rfl (by kernel_rfl) trivial ?_ ⟨⟨rfl, rfl, fun _ _ => rfl⟩, ?_, trivial⟩ ⟨rfl, fun _ => rfl, rfl, fun _ => rfl, trivial⟩ rfl
        · rw [s2]; rfl
        · rw [s2]; exact ⟨rfl, rfl, fun _ _ => rfl⟩
      · have c3 : remT L n k > 0 := by omega
        have e1 : outT L n (k + 1) = outT L n k ++ [((L.getD k default).1, min (L.getD k default).2 (remT L n k))] := by rw [Int.min_comm]; exact if_neg c2
        have e2 : remT L n (k + 1) = remT L n k - min (L.getD k default).2 (remT L n k) := by rw [Int.min_comm]; rfl
        refine Safe.goto mixed 20 [⟨1100, [(0, .tt true)]⟩, ⟨1200, []⟩, ⟨1300, [(1, .tt false)]⟩, ⟨1400, []⟩, ⟨1500, []⟩, ⟨1600, []⟩] [1, 8, 21, 22, 23] [0, 1503, 20] (todo' := loopAt Go.Proofs.Try.f20 0) (sl := slotsOf 46 [(1, I (remT L n k - min (L.getD k default).snd (remT L n k))), (8, .sl ((1503 : Nat)) ((0 : Nat)) ((2 : Nat)) (addN (outT L n k).length (1 : Nat)) (none)), (21, .sl ((20 : Nat)) ((0 : Nat)) ((2 : Nat)) (L.length) (none)), (22, I ((↑L.length : Int))), (23, I ((↑k : Int) + (1 : Int)))]) (hp := [(0, .ro ((2 : Nat)) (a.length) (rowG encR a)), (1503, .vec ((42 : Nat)) ((2 : Nat)) (addN (outT L n k).length (1 : Nat)) (catR (outT L n k).length (rowG encR (outT L n k)) (rowsOf [AV.val (Value.int IntKind.i64 (L.getD k default).fst), AV.val (Value.int IntKind.i64 (min (L.getD k default).snd (remT L n k)))] (2 : Nat)))), (20, .vec ((42 : Nat)) ((2 : Nat)) (L.length) (rowG encR L))]) (ob := [decide ((↑k : Int) < (↑L.length : Int)) = true, (0 : Int) ≤ (↑k : Int) ∧ (↑k : Int) < (↑L.length : Int), k < L.length, decide (remT L n k = (0 : Int)) = false, (0 : Nat) + (1 : Nat) ≤ (1 : Nat), (outT L n k).length = (outT L n k).length, (outT L n k).length + (1 : Nat) ≤ (1099511627776 : Nat), inK IntKind.i64 (remT L n k - min (L.getD k default).snd (remT L n k)), inK IntKind.i64 ((↑k : Int) + (1 : Int))]) rfl rfl (by kernel_rfl) ⟨(decide_eq_true c1), (by omega), (by omega), (decide_eq_false c2), (by omega), (by omega), (by omega), (by simp only [inK]; omega), (by simp only [inK]; omega), trivial⟩ rfl ⟨rfl, fun _ => rfl, rfl, closed_cat (fun _ => rfl) (closed_rows rfl), rfl, fun _ => rfl, trivial⟩ ?_
        refine Safe.ren [(1503, 12)] rfl rfl rfl rfl ⟨rfl, fun _ => rfl, rfl, closed_cat (fun _ => rfl) (closed_rows rfl), rfl, fun _ => rfl, trivial⟩ ?_
        have hh := ih (k + 1) (by omega) (by omega)
        rw [e1, e2] at hh
        rw [show addN (outT L n k).length 1 = (outT L n k ++ [((L.getD k default).1, min (L.getD k default).2 (remT L n k))]).length by rw [addN_eq]; simp]
        refine Safe.leH hh rfl (SlLe.refl _) ⟨ObLe.refl _, ?_, ?_, trivial⟩ rfl ⟨rfl, fun _ => rfl, rfl, fun _ => rfl, rfl, fun _ => rfl, trivial⟩
        · exact ob_ren_one encR (outT L n k) ((L.getD k default).1, min (L.getD k default).2 (remT L n k)) _ (by simp) (fun _ => rfl) rfl
        · first | exact ObLe.refl _ | exact ⟨rfl, rfl, fun _ _ => rfl⟩ | exact ⟨rfl, rfl, rfl, fun _ _ => rfl⟩
    · have e : k = L.length := by omega
      have c3 : ¬ remT L n k > 0 := by rw [e]; omega
      refine Safe.gotoE mixed 12 [⟨1100, [(0, .tt false)]⟩, ⟨1200, [(1, .tt false)]⟩, ⟨1300, []⟩] [4, 5] [0, 12] (sl := slotsOf 46 [(4, .sl ((12 : Nat)) ((0 : Nat)) ((2 : Nat)) ((outT L n k).length) (none)), (5, I ((0 : Int)))]) (hp := [(0, .ro ((2 : Nat)) (a.length) (rowG encR a)), (12, .vec ((42 : Nat)) ((2 : Nat)) ((outT L n k).length) (rowG encR (outT L n k)))]) (ob := [decide ((↑k : Int) < (↑L.length : Int)) = false, decide (remT L n k > (0 : Int)) = false]) rfl rfl (by kernel_rfl) ⟨(decide_eq_false c1), (decide_eq_false c3), trivial⟩ rfl ⟨rfl, fun _ => rfl, rfl, fun _ => rfl, trivial⟩ fun td htd => ?_
      refine Safe.ren [(12, 10)] rfl rfl rfl rfl ⟨rfl, fun _ => rfl, rfl, fun _ => rfl, trivial⟩ ?_
      refine Safe.toRo 10 0 ((outT L n k).length) (by omega) [0] rfl rfl rfl rfl ⟨closed_renN (fun _ => rfl), closed_renN (fun _ => rfl), trivial⟩ ?_
      refine Safe.endsT Go.Proofs.Try.func20 htd (r := .tup [.sl ((10 : Nat)) ((0 : Nat)) ((2 : Nat)) ((outT L n k).length) (none), I ((0 : Int))]) (hp := [(0, .ro ((2 : Nat)) (a.length) (fun q => renL [((12 : Nat), (10 : Nat))] (rowG encR a q))), (10, .ro ((2 : Nat)) ((outT L n k).length) (fun q => renL [((12 : Nat), (10 : Nat))] (rowG encR (outT L n k) q)))]) (ob := []) rfl (by kernel_rfl) trivial ?_ ⟨⟨rfl, rfl, fun _ _ => rfl⟩, ?_, trivial⟩ ⟨rfl, fun _ => rfl, rfl, fun _ => rfl, trivial⟩ rfl
      · rw [e]; rfl
      · rw [e]; exact ⟨rfl, rfl, fun _ _ => rfl⟩
  · intro H
    refine Safe.goto mixed 21 [⟨1100, []⟩, ⟨1200, [(1, .call [0] (.tup [.sl ((1255 : Nat)) ((0 : Nat)) ((2 : Nat)) (L.length) (none), I ((0 : Int))]) [(1255, some (.vec ((42 : Nat)) ((2 : Nat)) (L.length) (fun q => renL [((0 : Nat), (0 : Nat)), ((10 : Nat), (1255 : Nat))] (rowG encR L q))))])]⟩, ⟨1300, []⟩, ⟨1400, [(1, .tt false)]⟩, ⟨1500, []⟩, ⟨1600, []⟩] [1, 8, 21, 22, 23] [0, 1255] (todo' := loopAt Go.Proofs.Try.f20 0) (sl := slotsOf 46 [(1, I (n)), (8, .val (Value.slice none (0 : Nat) (0 : Nat))), (21, .sl ((1255 : Nat)) ((0 : Nat)) ((2 : Nat)) (L.length) (none)), (22, I ((↑L.length : Int))), (23, I ((0 : Int)))]) (hp := [(0, .ro ((2 : Nat)) (a.length) (rowG encR a)), (1255, .vec ((42 : Nat)) ((2 : Nat)) (L.length) (fun q => renL [((0 : Nat), (0 : Nat)), ((10 : Nat), (1255 : Nat))] (rowG encR L q)))]) (ob := [CallOK Try.prog (26 : Nat) ([] ++ [AV.sl (0 : Nat) (0 : Nat) (2 : Nat) a.length none] ++ []) [((0 : Nat), Ob.ro (2 : Nat) a.length (rowG encR a))] (AV.tup [AV.sl (1255 : Nat) (0 : Nat) (2 : Nat) L.length none, AV.val (Value.int IntKind.i64 (0 : Int))]) [((1255 : Nat), some (Ob.vec (42 : Nat) (2 : Nat) L.length fun q => renL [((0 : Nat), (0 : Nat)), ((10 : Nat), (1255 : Nat))] (rowG encR L q)))], decide (n < (0 : Int)) = false]) rfl rfl (by kernel_rfl) ⟨(CallOK.ren q [(0, 0), (10, 1255)] [0, 10] rfl rfl rfl rfl ⟨rfl, fun _ => rfl, trivial⟩ rfl ⟨rfl, fun _ => rfl, rfl, fun _ => rfl, trivial⟩), (decide_eq_false hneg), trivial⟩ rfl ⟨rfl, fun _ => rfl, rfl, closed_renN (fun _ => rfl), trivial⟩ ?_
    refine Safe.ren [(1255, 20)] rfl rfl rfl rfl ⟨rfl, fun _ => rfl, rfl, closed_renN (fun _ => rfl), trivial⟩ ?_
    refine Safe.nil 8 12 42 2 (rowG encR []) rfl rfl ⟨rfl, fun _ => rfl, rfl, fun _ => rfl, trivial⟩ ?_ rfl
    refine Safe.leH (H 0 (Nat.zero_le _)) rfl (SlLe.refl _) ⟨?_, ?_, ?_, trivial⟩ rfl ⟨rfl, fun _ => rfl, rfl, fun _ => rfl, rfl, fun _ => rfl, trivial⟩
    all_goals first | exact ObLe.refl _ | exact ⟨rfl, rfl, fun _ _ => rfl⟩ | exact ⟨rfl, rfl, rfl, fun _ _ => rfl⟩
set_option maxRecDepth 10000 in
set_option maxHeartbeats 8000000 in
theorem take_none (a : List Rn) (n : Int) (hl : a.length ≤ 1000) (ha : vsB a = true) (h0 : 0 ≤ n) (h63 : n ≤ 9223372036854775807) (h : 0 < remT (normF a) n (normF a).length) : CallOK Try.prog 20 [.sl 0 0 2 a.length none, I n] [(0, .ro 2 a.length (rowG encR a))] (.tup [.val (.slice none 0 0), I 12]) [] := by
  refine CallOK.intro Try.call20 Try.func20 rfl rfl ⟨rfl, fun _ => rfl, trivial⟩ ?_
  have q := norm_ok a hl ha
  have hn := norm_len a ha
  have hv := norm_vld a ha
  have hneg : ¬ n < 0 := by omega
  obtain ⟨L, hL⟩ : ∃ L, normF a = L := ⟨_, rfl⟩
  rw [hL] at q hn hv h
  refine Safe.withLoop (loopAt Try.f20 0) [0, 12, 20] 46 (fun k : Nat => [(1, I (remT L n k)), (8, .sl 12 0 2 (outT L n k).length none), (21, .sl 20 0 2 L.length none), (22, I L.length), (23, I k)]) (fun k => [(0, .ro 2 a.length (rowG encR a)), (12, .vec 42 2 (outT L n k).length (rowG encR (outT L n k))), (20, .vec 42 2 L.length (rowG encR L))]) (fun k => k ≤ L.length) (fun k => L.length - k) ?_ ?_
  · rintro k hk ih
    have hb := remT_bd L hv n h0 k hk
    have ho := outT_len L n k
    by_cases c1 : (k : Int) < (L.length : Int)
    · have hvk := vld_at hv (show k < L.length by omega)
      by_cases c2 : remT L n k = 0
      · obtain ⟨s1, s2⟩ := remT_stop L hv n k c2 (L.length - k) (by omega)
        rw [show k + (L.length - k) = L.length by omega] at s1 s2
        omega
      · have c3 : remT L n k > 0 := by omega
        have e1 : outT L n (k + 1) = outT L n k ++ [((L.getD k default).1, min (L.getD k default).2 (remT L n k))] := by rw [Int.min_comm]; exact if_neg c2
        have e2 : remT L n (k + 1) = remT L n k - min (L.getD k default).2 (remT L n k) := by rw [Int.min_comm]; rfl
        refine Safe.goto mixed 20 [⟨1100, [(0, .tt true)]⟩, ⟨1200, []⟩, ⟨1300, [(1, .tt false)]⟩, ⟨1400, []⟩, ⟨1500, []⟩, ⟨1600, []⟩] [1, 8, 21, 22, 23] [0, 1503, 20] (todo' := loopAt Go.Proofs.Try.f20 0) (sl := slotsOf 46 [(1, I (remT L n k - min (L.getD k default).snd (remT L n k))), (8, .sl ((1503 : Nat)) ((0 : Nat)) ((2 : Nat)) (addN (outT L n k).length (1 : Nat)) (none)), (21, .sl ((20 : Nat)) ((0 : Nat)) ((2 : Nat)) (L.length) (none)), (22, I ((↑L.length : Int))), (23, I ((↑k : Int) + (1 : Int)))]) (hp := [(0, .ro ((2 : Nat)) (a.length) (rowG encR a)), (1503, .vec ((42 : Nat)) ((2 : Nat)) (addN (outT L n k).length (1 : Nat)) (catR (outT L n k).length (rowG encR (outT L n k)) (rowsOf [AV.val (Value.int IntKind.i64 (L.getD k default).fst), AV.val (Value.int IntKind.i64 (min (L.getD k default).snd (remT L n k)))] (2 : Nat)))), (20, .vec ((42 : Nat)) ((2 : Nat)) (L.length) (rowG encR L))]) (ob := [decide ((↑k : Int) < (↑L.length : Int)) = true, (0 : Int) ≤ (↑k : Int) ∧ (↑k : Int) < (↑L.length : Int), k < L.length, decide (remT L n k = (0 : Int)) = false, (0 : Nat) + (1 : Nat) ≤ (1 : Nat), (outT L n k).length = (outT L n k).length, (outT L n k).length + (1 : Nat) ≤ (1099511627776 : Nat), inK IntKind.i64 (remT L n k - min (L.getD k default).snd (remT L n k)), inK IntKind.i64 ((↑k : Int) + (1 : Int))]) rfl rfl (by kernel_rfl) ⟨(decide_eq_true c1), (by omega), (by omega), (decide_eq_false c2), (by omega), (by omega), (by omega), (by simp only [inK]; omega), (by simp only [inK]; omega), trivial⟩ rfl ⟨rfl, fun _ => rfl, rfl, closed_cat (fun _ => rfl) (closed_rows rfl), rfl, fun _ => rfl, trivial⟩ ?_
        refine Safe.ren [(1503, 12)] rfl rfl rfl rfl ⟨rfl, fun _ => rfl, rfl, closed_cat (fun _ => rfl) (closed_rows rfl), rfl, fun _ => rfl, trivial⟩ ?_
        have hh := ih (k + 1) (by omega) (by omega)
        rw [e1, e2] at hh
        rw [show addN (outT L n k).length 1 = (outT L n k ++ [((L.getD k default).1, min (L.getD k default).2 (remT L n k))]).length by rw [addN_eq]; simp]
        refine Safe.leH hh rfl (SlLe.refl _) ⟨ObLe.refl _, ?_, ?_, trivial⟩ rfl ⟨rfl, fun _ => rfl, rfl, fun _ => rfl, rfl, fun _ => rfl, trivial⟩
        · exact ob_ren_one encR (outT L n k) ((L.getD k default).1, min (L.getD k default).2 (remT L n k)) _ (by simp) (fun _ => rfl) rfl
        · first | exact ObLe.refl _ | exact ⟨rfl, rfl, fun _ _ => rfl⟩ | exact ⟨rfl, rfl, rfl, fun _ _ => rfl⟩
    · have e : k = L.length := by omega
      have c3 : remT L n k > 0 := by rw [e]; omega
      refine Safe.ends mixed Go.Proofs.Try.func20 11 [⟨1100, [(0, .tt false)]⟩, ⟨1200, [(1, .tt true)]⟩, ⟨1300, []⟩] (r := .tup [.val (Value.slice none (0 : Nat) (0 : Nat)), I ((12 : Int))]) (hp := [(0, .ro ((2 : Nat)) (a.length) (rowG encR a))]) (ob := [decide ((↑k : Int) < (↑L.length : Int)) = false, decide (remT L n k > (0 : Int)) = true]) rfl (by kernel_rfl) ⟨(decide_eq_false c1), (decide_eq_true c3), trivial⟩ rfl ⟨ObLe.refl _, trivial⟩ ⟨rfl, fun _ => rfl, trivial⟩ rfl
  · intro H
    refine Safe.goto mixed 21 [⟨1100, []⟩, ⟨1200, [(1, .call [0] (.tup [.sl ((1255 : Nat)) ((0 : Nat)) ((2 : Nat)) (L.length) (none), I ((0 : Int))]) [(1255, some (.vec ((42 : Nat)) ((2 : Nat)) (L.length) (fun q => renL [((0 : Nat), (0 : Nat)), ((10 : Nat), (1255 : Nat))] (rowG encR L q))))])]⟩, ⟨1300, []⟩, ⟨1400, [(1, .tt false)]⟩, ⟨1500, []⟩, ⟨1600, []⟩] [1, 8, 21, 22, 23] [0, 1255] (todo' := loopAt Go.Proofs.Try.f20 0) (sl := slotsOf 46 [(1, I (n)), (8, .val (Value.slice none (0 : Nat) (0 : Nat))), (21, .sl ((1255 : Nat)) ((0 : Nat)) ((2 : Nat)) (L.length) (none)), (22, I ((↑L.length : Int))), (23, I ((0 : Int)))]) (hp := [(0, .ro ((2 : Nat)) (a.length) (rowG encR a)), (1255, .vec ((42 : Nat)) ((2 : Nat)) (L.length) (fun q => renL [((0 : Nat), (0 : Nat)), ((10 : Nat), (1255 : Nat))] (rowG encR L q)))]) (ob := [CallOK Try.prog (26 : Nat) ([] ++ [AV.sl (0 : Nat) (0 : Nat) (2 : Nat) a.length none] ++ []) [((0 : Nat), Ob.ro (2 : Nat) a.length (rowG encR a))] (AV.tup [AV.sl (1255 : Nat) (0 : Nat) (2 : Nat) L.length none, AV.val (Value.int IntKind.i64 (0 : Int))]) [((1255 : Nat), some (Ob.vec (42 : Nat) (2 : Nat) L.length fun q => renL [((0 : Nat), (0 : Nat)), ((10 : Nat), (1255 : Nat))] (rowG encR L q)))], decide (n < (0 : Int)) = false]) rfl rfl (by kernel_rfl) ⟨(CallOK.ren q [(0, 0), (10, 1255)] [0, 10] rfl rfl rfl rfl ⟨rfl, fun _ => rfl, trivial⟩ rfl ⟨rfl, fun _ => rfl, rfl, fun _ => rfl, trivial⟩), (decide_eq_false hneg), trivial⟩ rfl ⟨rfl, fun _ => rfl, rfl, closed_renN (fun _ => rfl), trivial⟩ ?_
    refine Safe.ren [(1255, 20)] rfl rfl rfl rfl ⟨rfl, fun _ => rfl, rfl, closed_renN (fun _ => rfl), trivial⟩ ?_
    refine Safe.nil 8 12 42 2 (rowG encR []) rfl rfl ⟨rfl, fun _ => rfl, rfl, fun _ => rfl, trivial⟩ ?_ rfl
    refine Safe.leH (H 0 (Nat.zero_le _)) rfl (SlLe.refl _) ⟨?_, ?_, ?_, trivial⟩ rfl ⟨rfl, fun _ => rfl, rfl, fun _ => rfl, rfl, fun _ => rfl, trivial⟩
    all_goals first | exact ObLe.refl _ | exact ⟨rfl, rfl, fun _ _ => rfl⟩ | exact ⟨rfl, rfl, rfl, fun _ _ => rfl⟩
end Go.Proofs.Ytgfdmeaganhpiaa
