/- Ranges: Same, Equal of lists, tame. No conditions but those of each theorem. -/
import Derived.Test.YtgfdmeaganhpiaaSyZ
import Derived.KernelRfl
import Derived.Test.YtgfdmeaganhpiaaY0
namespace Go.Proofs.Ytgfdmeaganhpiaa
open Go.RowKit
set_option linter.unusedVariables false
set_option linter.unnecessarySimpa false
theorem take_eq_succ (L M : List Rn) (k : Nat) (hk : k < L.length) (hm : k < M.length) : L.take (k + 1) = M.take (k + 1) ↔ L.take k = M.take k ∧ L.getD k default = M.getD k default := by
  rw [List.take_succ_eq_append_getElem hk, List.take_succ_eq_append_getElem hm, getD_at L k hk, getD_at M k hm]
  constructor
  · intro h
    have := List.append_inj' h rfl
    exact ⟨this.1, by simpa using this.2⟩
  · rintro ⟨h1, h2⟩
    rw [h1, h2]
theorem len_ne {L M : List Rn} (h : ¬ (L.length : Int) = M.length) : ¬ L = M := fun e => h (by rw [e])
set_option maxRecDepth 10000 in
set_option maxHeartbeats 4000000 in
theorem same_any (L M : List Rn) (hl : L.length ≤ 1000000) (hm : M.length ≤ 1000000) : CallOK Try.prog 22 [.sl 0 0 2 L.length none, .sl 1 0 2 M.length none] [(0, .ro 2 L.length (rowG encR L)), (1, .ro 2 M.length (rowG encR M))] (B (decide (L = M))) [] := by
  refine CallOK.intro Try.call22 Try.func22 rfl rfl ⟨rfl, fun _ => rfl, rfl, fun _ => rfl, trivial⟩ ?_
  refine Safe.withLoop (loopAt Try.f22 0) [0, 1] 26 (fun k : Nat => [(0, .sl 0 0 2 L.length none), (1, .sl 1 0 2 M.length none), (5, I k)]) (fun k => [(0, .ro 2 L.length (rowG encR L)), (1, .ro 2 M.length (rowG encR M))]) (fun k => L.length = M.length ∧ k ≤ L.length ∧ L.take k = M.take k) (fun k => L.length - k) ?_ ?_
  · rintro k ⟨h1, h2, h3⟩ ih
    have hs := take_eq_succ L M k
    refine (Classical.em ((↑k : Int) < (↑L.length : Int))).elim (fun hc1 => ?ga0) (fun hc1 => ?gb0)
    case' gb0 =>
      refine Safe.ends mixed Go.Proofs.Try.func22 7 [⟨1100, [(3, .tt false)]⟩, ⟨1200, []⟩] (r := B (true)) (hp := [(0, .ro ((2 : Nat)) (L.length) (rowG encR L)), (1, .ro ((2 : Nat)) (M.length) (rowG encR M))]) (ob := [decide ((↑k : Int) < (↑L.length : Int)) = false]) rfl (by kernel_rfl) ⟨(decide_eq_false hc1), trivial⟩ ?_ ⟨ObLe.refl _, ObLe.refl _, trivial⟩ ⟨rfl, fun _ => rfl, rfl, fun _ => rfl, trivial⟩ rfl
    case' ga0 =>
      refine (Classical.em ((!(decide ((L.getD k default).fst = (M.getD k default).fst) && (decide ((L.getD k default).snd = (M.getD k default).snd) && true))) = true)).elim (fun hc2 => ?ga1) (fun hc2 => ?gb1)
      case' gb1 =>
        refine Safe.goto mixed 14 [⟨1100, [(3, .tt true)]⟩, ⟨1200, [(8, .tt false)]⟩, ⟨1300, []⟩] [0, 1, 5] [0, 1] (todo' := loopAt Go.Proofs.Try.f22 0) (sl := slotsOf 26 [(0, .sl ((0 : Nat)) ((0 : Nat)) ((2 : Nat)) (L.length) (none)), (1, .sl ((1 : Nat)) ((0 : Nat)) ((2 : Nat)) (M.length) (none)), (5, I ((↑k : Int) + (1 : Int)))]) (hp := [(0, .ro ((2 : Nat)) (L.length) (rowG encR L)), (1, .ro ((2 : Nat)) (M.length) (rowG encR M))]) (ob := [decide ((↑k : Int) < (↑L.length : Int)) = true, (0 : Int) ≤ (↑k : Int) ∧ (↑k : Int) < (↑L.length : Int), k < L.length, (0 : Int) ≤ (↑k : Int) ∧ (↑k : Int) < (↑M.length : Int), k < M.length, (!(decide ((L.getD k default).fst = (M.getD k default).fst) && (decide ((L.getD k default).snd = (M.getD k default).snd) && true))) = false, inK IntKind.i64 ((↑k : Int) + (1 : Int))]) rfl rfl (by kernel_rfl) ⟨(decide_eq_true hc1), (by omega), (by omega), (by omega), (by omega), (by simpa using hc2), (by simp only [inK]; omega), trivial⟩ rfl ⟨rfl, fun _ => rfl, rfl, fun _ => rfl, trivial⟩ ?_
      case' ga1 =>
        refine Safe.ends mixed Go.Proofs.Try.func22 12 [⟨1100, [(3, .tt true)]⟩, ⟨1200, [(8, .tt true)]⟩, ⟨1300, []⟩] (r := B (false)) (hp := [(0, .ro ((2 : Nat)) (L.length) (rowG encR L)), (1, .ro ((2 : Nat)) (M.length) (rowG encR M))]) (ob := [decide ((↑k : Int) < (↑L.length : Int)) = true, (0 : Int) ≤ (↑k : Int) ∧ (↑k : Int) < (↑L.length : Int), k < L.length, (0 : Int) ≤ (↑k : Int) ∧ (↑k : Int) < (↑M.length : Int), k < M.length, (!(decide ((L.getD k default).fst = (M.getD k default).fst) && (decide ((L.getD k default).snd = (M.getD k default).snd) && true))) = true]) rfl (by kernel_rfl) ⟨(decide_eq_true hc1), (by omega), (by omega), (by omega), (by omega), hc2, trivial⟩ ?_ ⟨ObLe.refl _, ObLe.refl _, trivial⟩ ⟨rfl, fun _ => rfl, rfl, fun _ => rfl, trivial⟩ rfl
    · skip
      by_cases hk : k < L.length
      · have hb : ¬ L = M := fun e => by subst e; simp at hc2
        show B _ = B _
        rw [decide_eq_false hb]
      · omega
    · refine ih (k + 1) ⟨h1, by omega, (hs (by omega) (by omega)).2 ⟨h3, ?_⟩⟩ (by omega)
      simp only [Bool.not_eq_true', Bool.not_eq_false, Bool.and_true, Bool.and_eq_true, decide_eq_true_eq] at hc2
      exact Prod.ext hc2.1 hc2.2
    · show B _ = B _
      rw [List.take_of_length_le (by omega), List.take_of_length_le (by omega)] at h3
      rw [decide_eq_true h3]
  · intro H
    refine (Classical.em (¬(↑L.length : Int) = (↑M.length : Int))).elim (fun hc1 => ?ga2) (fun hc1 => ?gb2)
    case' gb2 =>
      refine Safe.goto mixed 12 [⟨1100, []⟩, ⟨1200, [(4, .tt false)]⟩, ⟨1300, []⟩] [0, 1, 5] [0, 1] (todo' := loopAt Go.Proofs.Try.f22 0) (sl := slotsOf 26 [(0, .sl ((0 : Nat)) ((0 : Nat)) ((2 : Nat)) (L.length) (none)), (1, .sl ((1 : Nat)) ((0 : Nat)) ((2 : Nat)) (M.length) (none)), (5, I ((0 : Int)))]) (hp := [(0, .ro ((2 : Nat)) (L.length) (rowG encR L)), (1, .ro ((2 : Nat)) (M.length) (rowG encR M))]) (ob := [(decide ¬(↑L.length : Int) = (↑M.length : Int)) = false]) rfl rfl (by kernel_rfl) ⟨(decide_eq_false hc1), trivial⟩ rfl ⟨rfl, fun _ => rfl, rfl, fun _ => rfl, trivial⟩ ?_
    case' ga2 =>
      refine Safe.ends mixed Go.Proofs.Try.func22 8 [⟨1100, []⟩, ⟨1200, [(4, .tt true)]⟩, ⟨1300, []⟩] (r := B (false)) (hp := [(0, .ro ((2 : Nat)) (L.length) (rowG encR L)), (1, .ro ((2 : Nat)) (M.length) (rowG encR M))]) (ob := [(decide ¬(↑L.length : Int) = (↑M.length : Int)) = true]) rfl (by kernel_rfl) ⟨(decide_eq_true hc1), trivial⟩ ?_ ⟨ObLe.refl _, ObLe.refl _, trivial⟩ ⟨rfl, fun _ => rfl, rfl, fun _ => rfl, trivial⟩ rfl
    · show B _ = B _
      rw [decide_eq_false (len_ne hc1)]
    · exact H 0 ⟨by omega, Nat.zero_le _, rfl⟩
set_option maxRecDepth 10000 in
set_option maxHeartbeats 4000000 in
theorem equal_any (L M : List Rn) (hl : L.length ≤ 1000000) (hm : M.length ≤ 1000000) : CallOK Try.prog 37 [.sl 0 0 2 L.length none, .sl 1 0 2 M.length none] [(0, .ro 2 L.length (rowG encR L)), (1, .ro 2 M.length (rowG encR M))] (B (decide (L = M))) [] := by
  refine CallOK.intro Try.call37 Try.func37 rfl rfl ⟨rfl, fun _ => rfl, rfl, fun _ => rfl, trivial⟩ ?_
  refine Safe.withLoop (loopAt Try.f37 0) [0, 1] 26 (fun k : Nat => [(0, .sl 0 0 2 L.length none), (1, .sl 1 0 2 M.length none), (12, I L.length), (13, I k)]) (fun k => [(0, .ro 2 L.length (rowG encR L)), (1, .ro 2 M.length (rowG encR M))]) (fun k => L.length = M.length ∧ k ≤ L.length ∧ L.take k = M.take k) (fun k => L.length - k) ?_ ?_
  · rintro k ⟨h1, h2, h3⟩ ih
    have hs := take_eq_succ L M k
    refine (Classical.em ((↑k : Int) < (↑L.length : Int))).elim (fun hc1 => ?ga3) (fun hc1 => ?gb3)
    case' gb3 =>
      refine Safe.ends mixed Go.Proofs.Try.func37 7 [⟨1100, [(0, .tt false)]⟩, ⟨1200, []⟩] (r := B (true)) (hp := [(0, .ro ((2 : Nat)) (L.length) (rowG encR L)), (1, .ro ((2 : Nat)) (M.length) (rowG encR M))]) (ob := [decide ((↑k : Int) < (↑L.length : Int)) = false]) rfl (by kernel_rfl) ⟨(decide_eq_false hc1), trivial⟩ ?_ ⟨ObLe.refl _, ObLe.refl _, trivial⟩ ⟨rfl, fun _ => rfl, rfl, fun _ => rfl, trivial⟩ rfl
    case' ga3 =>
      refine (Classical.em ((!(decide ((L.getD k default).fst = (M.getD k default).fst) && (decide ((L.getD k default).snd = (M.getD k default).snd) && true))) = true)).elim (fun hc2 => ?ga4) (fun hc2 => ?gb4)
      case' gb4 =>
        refine Safe.goto mixed 16 [⟨1100, [(0, .tt true)]⟩, ⟨1200, []⟩, ⟨1300, [(8, .tt false)]⟩, ⟨1400, []⟩] [0, 1, 12, 13] [0, 1] (todo' := loopAt Go.Proofs.Try.f37 0) (sl := slotsOf 26 [(0, .sl ((0 : Nat)) ((0 : Nat)) ((2 : Nat)) (L.length) (none)), (1, .sl ((1 : Nat)) ((0 : Nat)) ((2 : Nat)) (M.length) (none)), (12, I ((↑L.length : Int))), (13, I ((↑k : Int) + (1 : Int)))]) (hp := [(0, .ro ((2 : Nat)) (L.length) (rowG encR L)), (1, .ro ((2 : Nat)) (M.length) (rowG encR M))]) (ob := [decide ((↑k : Int) < (↑L.length : Int)) = true, (0 : Int) ≤ (↑k : Int) ∧ (↑k : Int) < (↑L.length : Int), k < L.length, (0 : Int) ≤ (↑k : Int) ∧ (↑k : Int) < (↑M.length : Int), k < M.length, (!(decide ((L.getD k default).fst = (M.getD k default).fst) && (decide ((L.getD k default).snd = (M.getD k default).snd) && true))) = false, inK IntKind.i64 ((↑k : Int) + (1 : Int))]) rfl rfl (by kernel_rfl) ⟨(decide_eq_true hc1), (by omega), (by omega), (by omega), (by omega), (by simpa using hc2), (by simp only [inK]; omega), trivial⟩ rfl ⟨rfl, fun _ => rfl, rfl, fun _ => rfl, trivial⟩ ?_
      case' ga4 =>
        refine Safe.ends mixed Go.Proofs.Try.func37 14 [⟨1100, [(0, .tt true)]⟩, ⟨1200, []⟩, ⟨1300, [(8, .tt true)]⟩, ⟨1400, []⟩] (r := B (false)) (hp := [(0, .ro ((2 : Nat)) (L.length) (rowG encR L)), (1, .ro ((2 : Nat)) (M.length) (rowG encR M))]) (ob := [decide ((↑k : Int) < (↑L.length : Int)) = true, (0 : Int) ≤ (↑k : Int) ∧ (↑k : Int) < (↑L.length : Int), k < L.length, (0 : Int) ≤ (↑k : Int) ∧ (↑k : Int) < (↑M.length : Int), k < M.length, (!(decide ((L.getD k default).fst = (M.getD k default).fst) && (decide ((L.getD k default).snd = (M.getD k default).snd) && true))) = true]) rfl (by kernel_rfl) ⟨(decide_eq_true hc1), (by omega), (by omega), (by omega), (by omega), hc2, trivial⟩ ?_ ⟨ObLe.refl _, ObLe.refl _, trivial⟩ ⟨rfl, fun _ => rfl, rfl, fun _ => rfl, trivial⟩ rfl
    · skip
      by_cases hk : k < L.length
      · have hb : ¬ L = M := fun e => by subst e; simp at hc2
        show B _ = B _
        rw [decide_eq_false hb]
      · omega
    · refine ih (k + 1) ⟨h1, by omega, (hs (by omega) (by omega)).2 ⟨h3, ?_⟩⟩ (by omega)
      simp only [Bool.not_eq_true', Bool.not_eq_false, Bool.and_true, Bool.and_eq_true, decide_eq_true_eq] at hc2
      exact Prod.ext hc2.1 hc2.2
    · show B _ = B _
      rw [List.take_of_length_le (by omega), List.take_of_length_le (by omega)] at h3
      rw [decide_eq_true h3]
  · intro H
    refine (Classical.em (¬(↑L.length : Int) = (↑M.length : Int))).elim (fun hc1 => ?ga5) (fun hc1 => ?gb5)
    case' gb5 =>
      refine Safe.goto mixed 12 [⟨1100, []⟩, ⟨1200, [(4, .tt false)]⟩, ⟨1300, []⟩] [0, 1, 12, 13] [0, 1] (todo' := loopAt Go.Proofs.Try.f37 0) (sl := slotsOf 26 [(0, .sl ((0 : Nat)) ((0 : Nat)) ((2 : Nat)) (L.length) (none)), (1, .sl ((1 : Nat)) ((0 : Nat)) ((2 : Nat)) (M.length) (none)), (12, I ((↑L.length : Int))), (13, I ((0 : Int)))]) (hp := [(0, .ro ((2 : Nat)) (L.length) (rowG encR L)), (1, .ro ((2 : Nat)) (M.length) (rowG encR M))]) (ob := [(decide ¬(↑L.length : Int) = (↑M.length : Int)) = false]) rfl rfl (by kernel_rfl) ⟨(decide_eq_false hc1), trivial⟩ rfl ⟨rfl, fun _ => rfl, rfl, fun _ => rfl, trivial⟩ ?_
    case' ga5 =>
      refine Safe.ends mixed Go.Proofs.Try.func37 8 [⟨1100, []⟩, ⟨1200, [(4, .tt true)]⟩, ⟨1300, []⟩] (r := B (false)) (hp := [(0, .ro ((2 : Nat)) (L.length) (rowG encR L)), (1, .ro ((2 : Nat)) (M.length) (rowG encR M))]) (ob := [(decide ¬(↑L.length : Int) = (↑M.length : Int)) = true]) rfl (by kernel_rfl) ⟨(decide_eq_true hc1), trivial⟩ ?_ ⟨ObLe.refl _, ObLe.refl _, trivial⟩ ⟨rfl, fun _ => rfl, rfl, fun _ => rfl, trivial⟩ rfl
    · show B _ = B _
      rw [decide_eq_false (len_ne hc1)]
    · exact H 0 ⟨by omega, Nat.zero_le _, rfl⟩
theorem and_mask (k : Nat) (hk : k < 32) (n : Int) : bitsV .and .i64 n ((2 ^ k - 1 : Nat) : Int) = n % ((2 ^ k : Nat) : Int) := by
  have hdvd : 2 ^ k ∣ 2 ^ 64 := Nat.pow_dvd_pow 2 (by omega)
  have hp : 2 ^ k ≤ 2 ^ 31 := Nat.pow_le_pow_right (by omega) (by omega)
  have hp1 : 0 < 2 ^ k := Nat.two_pow_pos k
  have hlo : 0 ≤ n % ((2 ^ k : Nat) : Int) := Int.emod_nonneg _ (by omega)
  show (((BitVec.ofInt 64 n &&& BitVec.ofInt 64 ((2 ^ k - 1 : Nat) : Int)).toNat : Nat) : Int) = _
  rw [BitVec.toNat_and, BitVec.toNat_ofInt, BitVec.toNat_ofInt]
  have e2 : (((2 ^ k - 1 : Nat) : Int) % ((2 ^ 64 : Nat) : Int)).toNat = 2 ^ k - 1 := by
    rw [Int.emod_eq_of_lt (by omega) (by omega)]
    simp
  rw [e2, Nat.and_two_pow_sub_one_eq_mod]
  have h0 : 0 ≤ n % ((2 ^ 64 : Nat) : Int) := Int.emod_nonneg _ (by decide)
  rw [Int.natCast_emod, Int.toNat_of_nonneg h0]
  exact Int.emod_emod_of_dvd n (Int.natCast_dvd_natCast.2 hdvd)
theorem and63 (n : Int) : bitsV .and .i64 n 63 = n % 64 := and_mask 6 (by omega) n
theorem and31 (n : Int) : bitsV .and .i64 n 31 = n % 32 := and_mask 5 (by omega) n
theorem and15 (n : Int) : bitsV .and .i64 n 15 = n % 16 := and_mask 4 (by omega) n
def tameL (L : List Rn) : List Rn := (L.take 12).map fun r => (r.1 % 64, r.2 % 16)
set_option maxRecDepth 10000 in
set_option maxHeartbeats 4000000 in
theorem tame_any (L : List Rn) (hl : L.length ≤ 1000000) : CallOK Try.prog 12 [.sl 0 0 2 L.length none] [(0, .ro 2 L.length (rowG encR L))] (.sl 10 0 2 (tameL L).length none) [(10, some (.ro 2 (tameL L).length (rowG encR (tameL L))))] := by
  refine CallOK.intro Try.call12 Try.func12 rfl rfl ⟨rfl, fun _ => rfl, trivial⟩ ?_
  refine Safe.withLoop (loopAt Try.f12 0) [0, 10] 32 (fun k : Nat => [(0, .sl 0 0 2 L.length none), (3, .sl 10 0 2 (tameL (L.take k)).length none), (4, I k)]) (fun k => [(0, .ro 2 L.length (rowG encR L)), (10, .vec 42 2 (tameL (L.take k)).length (rowG encR (tameL (L.take k))))]) (fun k => k ≤ L.length ∧ k ≤ 12) (fun k => L.length - k) ?_ ?_
  · rintro k ⟨h1, h2⟩ ih
    have hlen : (tameL (L.take k)).length = k := by simp [tameL]; omega
    have e63 := and63 (L.getD k default).1
    have e15 := and15 (L.getD k default).2
    have e1 : k < L.length → k < 12 → tameL (L.take (k + 1)) = tameL (L.take k) ++ [((L.getD k default).1 % 64, (L.getD k default).2 % 16)] := fun h h' => by
      rw [tameL, tameL, List.take_take, List.take_take, Nat.min_eq_right (by omega), Nat.min_eq_right (by omega), List.take_succ_eq_append_getElem h, List.map_append, getD_at L k h]; rfl
    have e2 : ¬ (k < L.length ∧ k < 12) → tameL (L.take k) = tameL L := fun h => by
      by_cases h12 : k < 12
      · rw [List.take_of_length_le (by omega)]
      · rw [tameL, tameL, List.take_take, Nat.min_eq_left (by omega)]
    refine (Classical.em ((↑k : Int) < (↑L.length : Int))).elim (fun hc1 => ?ga6) (fun hc1 => ?gb6)
    case' gb6 =>
      refine Safe.gotoE mixed 7 [⟨1100, [(3, .tt false)]⟩, ⟨1200, []⟩] [2] [0, 10] (sl := slotsOf 32 [(2, .sl ((10 : Nat)) ((0 : Nat)) ((2 : Nat)) ((tameL (List.take k L)).length) (none))]) (hp := [(0, .ro ((2 : Nat)) (L.length) (rowG encR L)), (10, .vec ((42 : Nat)) ((2 : Nat)) ((tameL (List.take k L)).length) (rowG encR (tameL (List.take k L))))]) (ob := [decide ((↑k : Int) < (↑L.length : Int)) = false]) rfl rfl (by kernel_rfl) ⟨(decide_eq_false hc1), trivial⟩ rfl ⟨rfl, fun _ => rfl, rfl, fun _ => rfl, trivial⟩ fun td htd => ?_
      refine Safe.toRo 10 0 ((tameL (List.take k L)).length) (by omega) [0] rfl rfl rfl rfl ⟨fun _ => rfl, fun _ => rfl, trivial⟩ ?_
      refine Safe.endsT Go.Proofs.Try.func12 htd (r := .sl ((10 : Nat)) ((0 : Nat)) ((2 : Nat)) ((tameL (List.take k L)).length) (none)) (hp := [(0, .ro ((2 : Nat)) (L.length) (rowG encR L)), (10, .ro ((2 : Nat)) ((tameL (List.take k L)).length) (rowG encR (tameL (List.take k L))))]) (ob := []) rfl (by kernel_rfl) trivial ?_ ⟨ObLe.refl _, ?_, trivial⟩ ⟨rfl, fun _ => rfl, rfl, fun _ => rfl, trivial⟩ rfl
    case' ga6 =>
      refine (Classical.em ((↑k : Int) < (12 : Int))).elim (fun hc2 => ?ga7) (fun hc2 => ?gb7)
      case' gb7 =>
        refine Safe.gotoE mixed 7 [⟨1100, [(3, .tt true), (6, .tt false)]⟩, ⟨1200, []⟩] [2] [0, 10] (sl := slotsOf 32 [(2, .sl ((10 : Nat)) ((0 : Nat)) ((2 : Nat)) ((tameL (List.take k L)).length) (none))]) (hp := [(0, .ro ((2 : Nat)) (L.length) (rowG encR L)), (10, .vec ((42 : Nat)) ((2 : Nat)) ((tameL (List.take k L)).length) (rowG encR (tameL (List.take k L))))]) (ob := [decide ((↑k : Int) < (↑L.length : Int)) = true, decide ((↑k : Int) < (12 : Int)) = false]) rfl rfl (by kernel_rfl) ⟨(decide_eq_true hc1), (decide_eq_false hc2), trivial⟩ rfl ⟨rfl, fun _ => rfl, rfl, fun _ => rfl, trivial⟩ fun td htd => ?_
        refine Safe.toRo 10 0 ((tameL (List.take k L)).length) (by omega) [0] rfl rfl rfl rfl ⟨fun _ => rfl, fun _ => rfl, trivial⟩ ?_
        refine Safe.endsT Go.Proofs.Try.func12 htd (r := .sl ((10 : Nat)) ((0 : Nat)) ((2 : Nat)) ((tameL (List.take k L)).length) (none)) (hp := [(0, .ro ((2 : Nat)) (L.length) (rowG encR L)), (10, .ro ((2 : Nat)) ((tameL (List.take k L)).length) (rowG encR (tameL (List.take k L))))]) (ob := []) rfl (by kernel_rfl) trivial ?_ ⟨ObLe.refl _, ?_, trivial⟩ ⟨rfl, fun _ => rfl, rfl, fun _ => rfl, trivial⟩ rfl
      case' ga7 =>
        refine Safe.goto mixed 11 [⟨1100, [(3, .tt true), (6, .tt true)]⟩, ⟨1200, []⟩, ⟨1300, []⟩] [0, 3, 4] [0, 1215] (todo' := loopAt Go.Proofs.Try.f12 0) (sl := slotsOf 32 [(0, .sl ((0 : Nat)) ((0 : Nat)) ((2 : Nat)) (L.length) (none)), (3, .sl ((1215 : Nat)) ((0 : Nat)) ((2 : Nat)) (addN (tameL (List.take k L)).length (1 : Nat)) (none)), (4, I ((↑k : Int) + (1 : Int)))]) (hp := [(0, .ro ((2 : Nat)) (L.length) (rowG encR L)), (1215, .vec ((42 : Nat)) ((2 : Nat)) (addN (tameL (List.take k L)).length (1 : Nat)) (catR (tameL (List.take k L)).length (rowG encR (tameL (List.take k L))) (rowsOf [AV.val (Value.int IntKind.i64 (bitsV BinOp.and IntKind.i64 (L.getD k default).fst (63 : Int))), AV.val (Value.int IntKind.i64 (bitsV BinOp.and IntKind.i64 (L.getD k default).snd (15 : Int)))] (2 : Nat))))]) (ob := [decide ((↑k : Int) < (↑L.length : Int)) = true, decide ((↑k : Int) < (12 : Int)) = true, (0 : Int) ≤ (↑k : Int) ∧ (↑k : Int) < (↑L.length : Int), k < L.length, inK IntKind.i64 (bitsV BinOp.and IntKind.i64 (L.getD k default).fst (63 : Int)), (0 : Int) ≤ (↑k : Int) ∧ (↑k : Int) < (↑L.length : Int), k < L.length, inK IntKind.i64 (bitsV BinOp.and IntKind.i64 (L.getD k default).snd (15 : Int)), (0 : Nat) + (1 : Nat) ≤ (1 : Nat), (tameL (List.take k L)).length = (tameL (List.take k L)).length, (tameL (List.take k L)).length + (1 : Nat) ≤ (1099511627776 : Nat), inK IntKind.i64 ((↑k : Int) + (1 : Int))]) rfl rfl (by kernel_rfl) ⟨(decide_eq_true hc1), (decide_eq_true hc2), (by omega), (by omega), (by simp only [inK]; omega), (by omega), (by omega), (by simp only [inK]; omega), (by omega), (by omega), (by omega), (by simp only [inK]; omega), trivial⟩ rfl ⟨rfl, fun _ => rfl, rfl, closed_cat (fun _ => rfl) (closed_rows rfl), trivial⟩ ?_
        refine Safe.ren [(1215, 10)] rfl rfl rfl rfl ⟨rfl, fun _ => rfl, rfl, closed_cat (fun _ => rfl) (closed_rows rfl), trivial⟩ ?_
    · skip
      have e4 : addN (tameL (L.take k)).length 1 = (tameL (L.take (k + 1))).length := by rw [addN_eq, e1 (by omega) (by omega)]; simp
      rw [e4]
      refine Safe.leH (ih (k + 1) (by omega) (by omega)) rfl (SlLe.refl _) ⟨ObLe.refl _, ?_, trivial⟩ rfl ⟨rfl, fun _ => rfl, rfl, fun _ => rfl, trivial⟩
      rw [e1 (by omega) (by omega)]
      exact ob_ren_one encR (tameL (L.take k)) ((L.getD k default).1 % 64, (L.getD k default).2 % 16) _ (by simp) (fun _ => rfl) (by rw [e63, e15]; rfl)
    · rw [e2 (by omega)]; rfl
    · rw [e2 (by omega)]; exact ⟨rfl, rfl, fun _ _ => rfl⟩
    · rw [e2 (by omega)]; rfl
    · rw [e2 (by omega)]; exact ⟨rfl, rfl, fun _ _ => rfl⟩
  · intro H
    refine Safe.goto mixed 9 [⟨1100, []⟩, ⟨1200, []⟩, ⟨1300, []⟩] [0, 3, 4] [0] (todo' := loopAt Go.Proofs.Try.f12 0) (sl := slotsOf 32 [(0, .sl ((0 : Nat)) ((0 : Nat)) ((2 : Nat)) (L.length) (none)), (3, .val (Value.slice none (0 : Nat) (0 : Nat))), (4, I ((0 : Int)))]) (hp := [(0, .ro ((2 : Nat)) (L.length) (rowG encR L))]) (ob := []) rfl rfl (by kernel_rfl) trivial rfl ⟨rfl, fun _ => rfl, trivial⟩ ?_
    refine Safe.nil 3 10 42 2 (rowG encR []) rfl rfl ⟨rfl, fun _ => rfl, trivial⟩ ?_ rfl
    exact Safe.leH (H 0 ⟨Nat.zero_le _, by omega⟩) rfl (SlLe.refl _) ⟨ObLe.refl _, ObLe.refl _, trivial⟩ rfl ⟨rfl, fun _ => rfl, rfl, fun _ => rfl, trivial⟩
end Go.Proofs.Ytgfdmeaganhpiaa
