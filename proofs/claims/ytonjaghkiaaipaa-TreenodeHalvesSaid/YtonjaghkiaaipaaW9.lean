/- Entries: Find, tooMany, Clone, Delete. No conditions but those of each theorem. -/
import Derived.Test.YtonjaghkiaaipaaSyZ
import Derived.KernelRfl
import Derived.Test.YtonjaghkiaaipaaW4
namespace Go.Proofs.Ytonjaghkiaaipaa
open Go.RowKit
set_option linter.unusedVariables false
set_option linter.unnecessarySimpa false
set_option linter.unusedSimpArgs false
/-- the last of the first k entries whose key is at most key -/
def findK (L : List En) (key : Int) : Nat → Int
  | 0 => -1
  | k + 1 => if (L.getD k default).1 ≤ key then k else findK L key k
theorem findK_bd (L : List En) (key : Int) : ∀ k, -1 ≤ findK L key k ∧ findK L key k < k
  | 0 => by simp [findK]
  | k + 1 => by
    have := findK_bd L key k
    unfold findK
    split <;> omega
abbrev findF (L : List En) (key : Int) : Int := findK L key L.length
/-- whether the entry found has the key itself -/
def exactF (L : List En) (key : Int) : Bool := decide (0 ≤ findF L key ∧ (L.getD (findF L key).toNat default).1 = key)
set_option maxRecDepth 10000 in
set_option maxHeartbeats 4000000 in
theorem find_any (l s key : Int) (L : List En) (hl : L.length ≤ 1000000) : CallOK Try.prog 31 [.agg [I l, I s, .sl 1 0 2 L.length none], I key] [(1, .ro 2 L.length (rowG encE L))] (.tup [I (findF L key), B (exactF L key)]) [] := by
  refine CallOK.intro Try.call31 Try.func31 rfl rfl ⟨rfl, fun _ => rfl, trivial⟩ ?_
  refine Safe.withLoop (loopAt Try.f31 0) [1, 20] 32 (fun k : Nat => [(1, I key), (2, .ptr 20 0 0 0), (6, I ((k : Int) - 1))]) (fun k => [(1, .ro 2 L.length (rowG encE L)), (20, .blk 27 [I l, I s, .sl 1 0 2 L.length none])]) (fun k => k ≤ L.length ∧ findF L key = findK L key k) (fun k => k) ?_ ?_
  · rintro k ⟨hk, hf⟩ ih
    cases k with
    | zero =>
      have e : exactF L key = false := by rw [exactF, hf]; exact decide_eq_false (fun h => by simp [findK] at h)
      rw [hf, e]
      refine Safe.ends mixed Go.Proofs.Try.func31 7 [⟨1100, []⟩, ⟨1200, []⟩] (r := .tup [I ((-1 : Int)), B (false)]) (hp := [(1, .ro ((2 : Nat)) (L.length) (rowG encE L))]) (ob := []) rfl (by kernel_rfl) trivial ?_ ⟨ObLe.refl _, trivial⟩ ⟨rfl, fun _ => rfl, trivial⟩ rfl
      exact rfl
    | succ k =>
      have e1 : (((k + 1 : Nat) : Int) - 1) = (k : Int) := by omega
      rw [e1]
      by_cases hc : (L.getD k default).1 ≤ key
      · have hf2 : findF L key = k := by rw [hf, findK, if_pos hc]
        have e : exactF L key = decide ((L.getD k default).1 = key) := by
          rw [exactF, hf2]
          exact decide_eq_decide.2 ⟨fun h => h.2, fun h => ⟨by omega, h⟩⟩
        rw [hf2, e]
        refine Safe.ends mixed Go.Proofs.Try.func31 12 [⟨1100, []⟩, ⟨1200, [(7, .tt true)]⟩, ⟨1300, []⟩] (r := .tup [I ((↑k : Int)), B (decide ((L.getD k default).fst = key))]) (hp := [(1, .ro ((2 : Nat)) (L.length) (rowG encE L))]) (ob := [(0 : Int) ≤ (↑k : Int) ∧ (↑k : Int) < (↑L.length : Int), k < L.length, decide ((L.getD k default).fst ≤ key) = true, (0 : Int) ≤ (↑k : Int) ∧ (↑k : Int) < (↑L.length : Int), k < L.length]) rfl (by kernel_rfl) ⟨(by omega), (by omega), (decide_eq_true hc), (by omega), (by omega), trivial⟩ rfl ⟨ObLe.refl _, trivial⟩ ⟨rfl, fun _ => rfl, trivial⟩ rfl
      · skip
        refine Safe.goto mixed 14 [⟨1100, []⟩, ⟨1200, [(7, .tt false)]⟩, ⟨1300, []⟩] [1, 2, 6] [1, 20] (todo' := loopAt Go.Proofs.Try.f31 0) (sl := slotsOf 32 [(1, I (key)), (2, .ptr ((20 : Nat)) ((0 : Nat)) ((0 : Nat)) ((0 : Nat))), (6, I ((↑k : Int) - (1 : Int)))]) (hp := [(1, .ro ((2 : Nat)) (L.length) (rowG encE L)), (20, .blk ((27 : Nat)) [I (l), I (s), .sl ((1 : Nat)) ((0 : Nat)) ((2 : Nat)) (L.length) (none)])]) (ob := [(0 : Int) ≤ (↑k : Int) ∧ (↑k : Int) < (↑L.length : Int), k < L.length, decide ((L.getD k default).fst ≤ key) = false, inK IntKind.i64 ((↑k : Int) - (1 : Int))]) rfl rfl (by kernel_rfl) ⟨(by omega), (by omega), (decide_eq_false hc), (by simp only [inK]; omega), trivial⟩ rfl ⟨rfl, fun _ => rfl, rfl, rfl, trivial⟩ ?_
        exact ih k ⟨by omega, by rw [hf, findK, if_neg hc]⟩ (by omega)
  · intro H
    refine Safe.goto mixed 7 [⟨1100, []⟩, ⟨1200, []⟩] [1, 2, 6] [1, 1100] (todo' := loopAt Go.Proofs.Try.f31 0) (sl := slotsOf 32 [(1, I (key)), (2, .ptr ((1100 : Nat)) ((0 : Nat)) ((0 : Nat)) ((0 : Nat))), (6, I ((↑L.length : Int) - (1 : Int)))]) (hp := [(1, .ro ((2 : Nat)) (L.length) (rowG encE L)), (1100, .blk ((27 : Nat)) [I (l), I (s), .sl ((1 : Nat)) ((0 : Nat)) ((2 : Nat)) (L.length) (none)])]) (ob := [inK IntKind.i64 ((↑L.length : Int) - (1 : Int))]) rfl rfl (by kernel_rfl) ⟨(by simp only [inK]; omega), trivial⟩ rfl ⟨rfl, fun _ => rfl, rfl, rfl, trivial⟩ ?_
    refine Safe.ren [(1100, 20)] rfl rfl rfl rfl ⟨rfl, fun _ => rfl, rfl, rfl, trivial⟩ ?_
    exact H L.length ⟨Nat.le_refl _, rfl⟩
set_option maxRecDepth 10000 in
set_option maxHeartbeats 4000000 in
theorem rfind_any (l s key : Int) (L : List En) (hl : L.length ≤ 1000000) : CallOK Try.prog 32 [.agg [I l, I s, .sl 1 0 2 L.length none], I key] [(1, .ro 2 L.length (rowG encE L))] (.tup [I (findF L key), B (exactF L key)]) [] := by
  refine CallOK.intro Try.call32 Try.func32 rfl rfl ⟨rfl, fun _ => rfl, trivial⟩ ?_
  refine Safe.withLoop (loopAt Try.f32 0) [1, 20] 37 (fun k : Nat => [(1, I key), (2, .ptr 20 0 0 0), (6, I (findK L key k)), (7, I k)]) (fun k => [(1, .ro 2 L.length (rowG encE L)), (20, .blk 27 [I l, I s, .sl 1 0 2 L.length none])]) (fun k => k ≤ L.length) (fun k => L.length - k) ?_ ?_
  · rintro k hk ih
    have hb := findK_bd L key k
    have hs : findK L key (k + 1) = if (L.getD k default).1 ≤ key then (k : Int) else findK L key k := rfl
    by_cases hlt : (k : Int) < (L.length : Int)
    · by_cases hc : (L.getD k default).1 ≤ key
      · rw [if_pos hc] at hs
        refine Safe.goto mixed 14 [⟨1100, [(4, .tt true)]⟩, ⟨1200, [(7, .tt true)]⟩, ⟨1300, []⟩, ⟨1400, []⟩] [1, 2, 6, 7] [1, 20] (todo' := loopAt Go.Proofs.Try.f32 0) (sl := slotsOf 37 [(1, I (key)), (2, .ptr ((20 : Nat)) ((0 : Nat)) ((0 : Nat)) ((0 : Nat))), (6, I ((↑k : Int))), (7, I ((↑k : Int) + (1 : Int)))]) (hp := [(1, .ro ((2 : Nat)) (L.length) (rowG encE L)), (20, .blk ((27 : Nat)) [I (l), I (s), .sl ((1 : Nat)) ((0 : Nat)) ((2 : Nat)) (L.length) (none)])]) (ob := [decide ((↑k : Int) < (↑L.length : Int)) = true, (0 : Int) ≤ (↑k : Int) ∧ (↑k : Int) < (↑L.length : Int), k < L.length, decide ((L.getD k default).fst ≤ key) = true, inK IntKind.i64 ((↑k : Int) + (1 : Int))]) rfl rfl (by kernel_rfl) ⟨(decide_eq_true hlt), (by omega), (by omega), (decide_eq_true hc), (by simp only [inK]; omega), trivial⟩ rfl ⟨rfl, fun _ => rfl, rfl, rfl, trivial⟩ ?_
        have := ih (k + 1) (by omega) (by omega)
        rw [hs] at this
        exact this
      · rw [if_neg hc] at hs
        refine Safe.goto mixed 14 [⟨1100, [(4, .tt true)]⟩, ⟨1200, [(7, .tt false)]⟩, ⟨1300, []⟩] [1, 2, 6, 7] [1, 20] (todo' := loopAt Go.Proofs.Try.f32 0) (sl := slotsOf 37 [(1, I (key)), (2, .ptr ((20 : Nat)) ((0 : Nat)) ((0 : Nat)) ((0 : Nat))), (6, I (findK L key k)), (7, I ((↑k : Int) + (1 : Int)))]) (hp := [(1, .ro ((2 : Nat)) (L.length) (rowG encE L)), (20, .blk ((27 : Nat)) [I (l), I (s), .sl ((1 : Nat)) ((0 : Nat)) ((2 : Nat)) (L.length) (none)])]) (ob := [decide ((↑k : Int) < (↑L.length : Int)) = true, (0 : Int) ≤ (↑k : Int) ∧ (↑k : Int) < (↑L.length : Int), k < L.length, decide ((L.getD k default).fst ≤ key) = false, inK IntKind.i64 ((↑k : Int) + (1 : Int))]) rfl rfl (by kernel_rfl) ⟨(decide_eq_true hlt), (by omega), (by omega), (decide_eq_false hc), (by simp only [inK]; omega), trivial⟩ rfl ⟨rfl, fun _ => rfl, rfl, rfl, trivial⟩ ?_
        have := ih (k + 1) (by omega) (by omega)
        rw [hs] at this
        exact this
    · obtain rfl : k = L.length := by omega
      unfold exactF
      change -1 ≤ findF L key ∧ findF L key < _ at hb
      change Safe _ _ _ _ _ _ ⟨slotsOf 37 [(1, I key), (2, .ptr 20 0 0 0), (6, I (findF L key)), (7, I L.length)], _⟩ _
      generalize findF L key = f at *
      by_cases h0 : f ≥ 0
      · have e : decide (0 ≤ f ∧ (L.getD f.toNat default).1 = key) = decide ((L.getD f.toNat default).1 = key) := decide_eq_decide.2 ⟨fun h => h.2, fun h => ⟨h0, h⟩⟩
        rw [e]
        refine Safe.ends mixed Go.Proofs.Try.func32 7 [⟨1100, [(4, .tt false)]⟩, ⟨1200, [(2, .tt true)]⟩] (r := .tup [I (f), B (decide ((L.getD f.toNat default).fst = key))]) (hp := [(1, .ro ((2 : Nat)) (L.length) (rowG encE L))]) (ob := [decide ((↑L.length : Int) < (↑L.length : Int)) = false, decide (f ≥ (0 : Int)) = true, (0 : Int) ≤ f ∧ f < (↑L.length : Int), f.toNat < L.length]) rfl (by kernel_rfl) ⟨(decide_eq_false hlt), (decide_eq_true h0), (by omega), (by omega), trivial⟩ rfl ⟨ObLe.refl _, trivial⟩ ⟨rfl, fun _ => rfl, trivial⟩ rfl
      · rw [decide_eq_false (fun h => h0 h.1)]
        refine Safe.ends mixed Go.Proofs.Try.func32 7 [⟨1100, [(4, .tt false)]⟩, ⟨1200, [(2, .tt false)]⟩] (r := .tup [I (f), B (false)]) (hp := [(1, .ro ((2 : Nat)) (L.length) (rowG encE L))]) (ob := [decide ((↑L.length : Int) < (↑L.length : Int)) = false, decide (f ≥ (0 : Int)) = false]) rfl (by kernel_rfl) ⟨(decide_eq_false hlt), (decide_eq_false h0), trivial⟩ rfl ⟨ObLe.refl _, trivial⟩ ⟨rfl, fun _ => rfl, trivial⟩ rfl
  · intro H
    refine Safe.goto mixed 9 [⟨1100, []⟩, ⟨1200, []⟩, ⟨1300, []⟩] [1, 2, 6, 7] [1, 1100] (todo' := loopAt Go.Proofs.Try.f32 0) (sl := slotsOf 37 [(1, I (key)), (2, .ptr ((1100 : Nat)) ((0 : Nat)) ((0 : Nat)) ((0 : Nat))), (6, I ((-1 : Int))), (7, I ((0 : Int)))]) (hp := [(1, .ro ((2 : Nat)) (L.length) (rowG encE L)), (1100, .blk ((27 : Nat)) [I (l), I (s), .sl ((1 : Nat)) ((0 : Nat)) ((2 : Nat)) (L.length) (none)])]) (ob := []) rfl rfl (by kernel_rfl) trivial rfl ⟨rfl, fun _ => rfl, rfl, rfl, trivial⟩ ?_
    refine Safe.ren [(1100, 20)] rfl rfl rfl rfl ⟨rfl, fun _ => rfl, rfl, rfl, trivial⟩ ?_
    exact H 0 (Nat.zero_le _)
set_option maxRecDepth 10000 in
set_option maxHeartbeats 4000000 in
theorem tooMany_any (l s : Int) (L : List En) (hl : L.length ≤ 1000000) : CallOK Try.prog 46 [.agg [I l, I s, .sl 1 0 2 L.length none]] [(1, .ro 2 L.length (rowG encE L))] (B (decide ((L.length : Int) > 8))) [] := by
  refine CallOK.intro Try.call46 Try.func46 rfl rfl ⟨rfl, fun _ => rfl, trivial⟩ ?_
  refine Safe.ends mixed Go.Proofs.Try.func46 4 [⟨1100, []⟩, ⟨1200, []⟩] (r := B (decide ((↑L.length : Int) > (8 : Int)))) (hp := [(1, .ro ((2 : Nat)) (L.length) (rowG encE L))]) (ob := []) rfl (by kernel_rfl) trivial rfl ⟨ObLe.refl _, trivial⟩ ⟨rfl, fun _ => rfl, trivial⟩ rfl
theorem sub_at (L : List En) (i n q : Nat) (h : i + n ≤ L.length) (hq : q < n) : ((L.drop i).take n).getD q default = L.getD (i + q) default := by
  rw [List.getD_eq_getElem?_getD, List.getD_eq_getElem?_getD, List.getElem?_take_of_lt hq, List.getElem?_drop]
set_option maxRecDepth 10000 in
set_option maxHeartbeats 4000000 in
theorem cloneE_any (L : List En) (i n : Nat) (h : i + n ≤ L.length) (hl : L.length ≤ 1000000) : CallOK Try.prog 47 [.sl 0 i 2 n none] [(0, .ro 2 L.length (rowG encE L))] (.sl 10 0 2 n none) [(10, some (.vec 52 2 n (rowG encE ((L.drop i).take n))))] := by
  refine CallOK.intro Try.call47 Try.func47 rfl rfl ⟨rfl, fun _ => rfl, trivial⟩ ?_
  refine Safe.goto mixed 5 [⟨1100, []⟩, ⟨1200, []⟩] [0, 4] [0] (todo' := skipTo 5 (bodyOf Try.f47)) (sl := slotsOf 8 [(0, .sl 0 i 2 n none), (4, .anyB (n = 0) True)]) (hp := [(0, .ro 2 L.length (rowG encE L))]) (ob := []) rfl rfl (by kernel_rfl) trivial rfl ⟨rfl, fun _ => rfl, trivial⟩ ?_
  refine Safe.any 4 rfl (fun h0 => ?_) (fun _ => ?_)
  · skip
    refine Safe.gotoE mixed 3 [⟨1100, []⟩] [2] [0] (sl := slotsOf 8 [(2, .val (Value.slice none (0 : Nat) (0 : Nat)))]) (hp := [(0, .ro ((2 : Nat)) (L.length) (rowG encE L))]) (ob := []) rfl rfl (by kernel_rfl) trivial rfl ⟨rfl, fun _ => rfl, trivial⟩ fun td htd => ?_
    refine Safe.nil 2 10 52 2 (fun _ => []) rfl rfl ⟨rfl, fun _ => rfl, trivial⟩ ?_ rfl
    refine Safe.endsT Go.Proofs.Try.func47 htd (r := .sl ((10 : Nat)) ((0 : Nat)) ((2 : Nat)) ((0 : Nat)) (none)) (hp := [(0, .ro ((2 : Nat)) (L.length) (rowG encE L)), (10, .vec ((52 : Nat)) ((2 : Nat)) ((0 : Nat)) (fun q => []))]) (ob := []) rfl (by kernel_rfl) trivial ?_ ⟨ObLe.refl _, ?_, trivial⟩ ⟨rfl, fun _ => rfl, rfl, fun _ => rfl, trivial⟩ rfl
    · rw [h0]; rfl
    · exact ⟨rfl, rfl, h0.symm, fun q hq => by omega⟩
  · skip
    refine Safe.gotoE mixed 4 [⟨1100, []⟩] [2] [0, 1102] (sl := slotsOf 8 [(2, .sl ((1102 : Nat)) ((0 : Nat)) ((2 : Nat)) (n) (none))]) (hp := [(0, .ro ((2 : Nat)) (L.length) (rowG encE L)), (1102, .vec ((52 : Nat)) ((2 : Nat)) (n) (catR (0 : Nat) (fun x => []) (shiftR (rowG encE L) i)))]) (ob := [i + n ≤ L.length, (0 : Nat) = (0 : Nat), (0 : Nat) + n ≤ (1099511627776 : Nat)]) rfl rfl (by kernel_rfl) ⟨(by omega), (by omega), (by omega), trivial⟩ rfl ⟨rfl, fun _ => rfl, rfl, closed_cat (fun _ => rfl) (closed_shift (fun _ => rfl)), trivial⟩ fun td htd => ?_
    refine Safe.ren [(1102, 10)] rfl rfl rfl rfl ⟨rfl, fun _ => rfl, rfl, closed_cat (fun _ => rfl) (closed_shift (fun _ => rfl)), trivial⟩ ?_
    refine Safe.endsT Go.Proofs.Try.func47 htd (r := .sl ((10 : Nat)) ((0 : Nat)) ((2 : Nat)) (n) (none)) (hp := [(0, .ro ((2 : Nat)) (L.length) (fun q => renL [((1102 : Nat), (10 : Nat))] (rowG encE L q))), (10, .vec ((52 : Nat)) ((2 : Nat)) (n) (fun q => renL [((1102 : Nat), (10 : Nat))] (catR (0 : Nat) (fun x => []) (shiftR (rowG encE L) i) q)))]) (ob := []) rfl (by kernel_rfl) trivial rfl ⟨⟨rfl, rfl, fun _ _ => rfl⟩, ?_, trivial⟩ ⟨rfl, fun _ => rfl, rfl, fun _ => rfl, trivial⟩ rfl
    refine ⟨rfl, rfl, rfl, fun q hq => ?_⟩
    have hq : q < n := hq
    show renL _ (catR 0 _ (shiftR (rowG encE L) i) q) = encE _
    rw [sub_at L i n q h hq, catR, shiftR_at]
    rfl
theorem cloneE_all (L : List En) (hl : L.length ≤ 1000000) : CallOK Try.prog 47 [.sl 0 0 2 L.length none] [(0, .ro 2 L.length (rowG encE L))] (.sl 10 0 2 L.length none) [(10, some (.vec 52 2 L.length (rowG encE L)))] := by
  have := cloneE_any L 0 L.length (by omega) hl
  rwa [List.drop_zero, List.take_length] at this
theorem eraseE_row (L : List En) (i : Nat) (hi : i < L.length) (q : Nat) (hq : q < L.length) : (L.eraseIdx i ++ [(0, 0)]).getD q default = if q < i then L.getD q default else if q < L.length - 1 then L.getD (q + 1) default else (0, 0) := by
  have hl : (L.eraseIdx i).length = L.length - 1 := by rw [List.length_eraseIdx, if_pos hi]
  simp only [List.getD_eq_getElem?_getD, List.getElem?_append, hl, List.getElem?_eraseIdx]
  by_cases h1 : q < i
  · rw [if_pos (by omega), if_pos h1, if_pos h1]
  · rw [if_neg h1, if_neg h1]
    by_cases h2 : q < L.length - 1
    · rw [if_pos h2, if_pos h2]
    · rw [if_neg h2, if_neg h2, show q - (L.length - 1) = 0 by omega]
      rfl
set_option maxRecDepth 10000 in
set_option maxHeartbeats 4000000 in
theorem deleteE_any (L : List En) (i : Nat) (hi : i < L.length) (hl : L.length ≤ 1000000) : CallOK Try.prog 50 [.sl 0 0 2 L.length none, I i, I ((i : Int) + 1)] [(0, .vec 52 2 L.length (rowG encE L))] (.sl 0 0 2 (L.length - 1) none) [(0, some (.vec 52 2 L.length (rowG encE (L.eraseIdx i ++ [(0, 0)]))))] := by
  refine CallOK.intro Try.call50 Try.func50 rfl rfl ⟨rfl, fun _ => rfl, trivial⟩ ?_
  have hne : ¬ (i : Int) = i + 1 := by omega
  have ha : addN i (L.length - ((i : Int) + 1).toNat) = L.length - 1 := by rw [addN_eq]; omega
  have hb : addN 0 (L.length - 1) = L.length - 1 := by rw [addN_eq]; omega
  have hd : addN 0 (addN i (L.length - ((i : Int) + 1).toNat)) = L.length - 1 := by rw [ha, hb]
  refine Safe.ends mixed Go.Proofs.Try.func50 17 [⟨1100, []⟩, ⟨1200, []⟩, ⟨1300, [(2, .tt false)]⟩, ⟨1400, []⟩, ⟨1500, [(6, .inpl)]⟩, ⟨1600, [(4, .inpl)]⟩, ⟨1700, []⟩] (r := .sl ((0 : Nat)) ((0 : Nat)) ((2 : Nat)) (addN i (L.length - ((↑i : Int) + (1 : Int)).toNat)) (none)) (hp := [(0, .vec ((52 : Nat)) ((2 : Nat)) (L.length) (copyRow (copyRow (rowG encE L) ((0 : Nat) + i) (L.length - ((↑i : Int) + (1 : Int)).toNat) fun q => rowG encE L (i + (1 : Nat) + q)) (addN i (L.length - ((↑i : Int) + (1 : Int)).toNat)) (L.length - addN i (L.length - ((↑i : Int) + (1 : Int)).toNat)) fun x => List.map AV.val (Value.agg #[Value.int IntKind.i64 (0 : Int), Value.int IntKind.u64 (0 : Int)]).cells.toList))]) (ob := [(0 : Int) ≤ (↑i : Int) + (1 : Int) ∧ (↑i : Int) + (1 : Int) ≤ (↑L.length : Int), (0 : Int) ≤ (↑i : Int) ∧ (↑i : Int) ≤ (↑i : Int) + (1 : Int), (↑i : Int) + (1 : Int) ≤ (↑L.length : Int) ∧ (↑L.length : Int) ≤ (↑L.length : Int), decide ((↑i : Int) = (↑i : Int) + (1 : Int)) = false, (0 : Int) ≤ (↑i : Int) ∧ (↑i : Int) ≤ (↑L.length : Int), (0 : Int) ≤ (↑i : Int) + (1 : Int) ∧ (↑i : Int) + (1 : Int) ≤ (↑L.length : Int), ((↑i : Int) + (1 : Int)).toNat + (L.length - ((↑i : Int) + (1 : Int)).toNat) ≤ L.length, (0 : Nat) + i + (L.length - ((↑i : Int) + (1 : Int)).toNat) ≤ L.length, (0 : Int) ≤ (↑(addN i (L.length - ((↑i : Int) + (1 : Int)).toNat)) : Int) ∧ (↑(addN i (L.length - ((↑i : Int) + (1 : Int)).toNat)) : Int) ≤ (↑L.length : Int) ∧ (0 : Int) + (↑L.length : Int) ≤ (↑L.length : Int), addN i (L.length - ((↑i : Int) + (1 : Int)).toNat) + (L.length - addN i (L.length - ((↑i : Int) + (1 : Int)).toNat)) ≤ L.length]) rfl (by kernel_rfl) ⟨(by omega), (by omega), (by omega), (decide_eq_false hne), (by omega), (by omega), (by omega), (by omega), (by omega), (by omega), trivial⟩ ?_ ⟨?_, trivial⟩ ⟨rfl, fun _ => rfl, trivial⟩ rfl
  · show AV.sl _ _ _ _ _ = _
    rw [ha]
  · refine ⟨rfl, rfl, rfl, fun q hq => ?_⟩
    have hq : q < L.length := hq
    show copyRow (copyRow (rowG encE L) (0 + i) (L.length - ((i : Int) + 1).toNat) fun q => rowG encE L (i + 1 + q)) (addN 0 (addN i (L.length - ((i : Int) + 1).toNat))) (L.length - addN i (L.length - ((i : Int) + 1).toNat)) (fun _ => [I 0, U 0]) q = _
    rw [ha, hb]
    unfold copyRow rowG
    rw [eraseE_row L i hi q hq]
    by_cases h1 : L.length - 1 ≤ q
    · rw [if_pos ⟨h1, by omega⟩, if_neg (by omega), if_neg (by omega)]
      rfl
    · rw [if_neg (fun h => h1 h.1)]
      by_cases h2 : i ≤ q
      · rw [if_pos ⟨by omega, by omega⟩, if_neg (by omega), if_pos (by omega), show (fun q => encE (L.getD (i + 1 + q) default)) (q - (0 + i)) = encE (L.getD (i + 1 + (q - (0 + i))) default) from rfl, show i + 1 + (q - (0 + i)) = q + 1 by omega]
      · rw [if_neg (by omega), if_pos (by omega)]
set_option maxRecDepth 10000 in
set_option maxHeartbeats 4000000 in
theorem rem_err (l s i : Int) (L : List En) (hl : L.length ≤ 1000000) (h : ¬ (0 ≤ i ∧ i < L.length)) : CallOK Try.prog 35 [.agg [I l, I s, .sl 1 0 2 L.length none], I i] [(1, .ro 2 L.length (rowG encE L))] (.tup [.agg [I 0, I 0, .val (.slice none 0 0)], I 1]) [] := by
  refine CallOK.intro Try.call35 Try.func35 rfl rfl ⟨rfl, fun _ => rfl, trivial⟩ ?_
  by_cases h0 : i < 0
  · skip
    refine Safe.ends mixed Go.Proofs.Try.func35 8 [⟨1100, []⟩, ⟨1200, [(1, .tt true)]⟩, ⟨1300, []⟩] (r := .tup [.agg [I ((0 : Int)), I ((0 : Int)), .val (Value.slice none (0 : Nat) (0 : Nat))], I ((1 : Int))]) (hp := [(1, .ro ((2 : Nat)) (L.length) (rowG encE L))]) (ob := [decide (i < (0 : Int)) = true]) rfl (by kernel_rfl) ⟨(decide_eq_true h0), trivial⟩ rfl ⟨ObLe.refl _, trivial⟩ ⟨rfl, fun _ => rfl, trivial⟩ rfl
  · have h1 : i ≥ (L.length : Int) := by omega
    refine Safe.ends mixed Go.Proofs.Try.func35 8 [⟨1100, []⟩, ⟨1200, [(1, .tt false), (7, .tt true)]⟩, ⟨1300, []⟩] (r := .tup [.agg [I ((0 : Int)), I ((0 : Int)), .val (Value.slice none (0 : Nat) (0 : Nat))], I ((1 : Int))]) (hp := [(1, .ro ((2 : Nat)) (L.length) (rowG encE L))]) (ob := [decide (i < (0 : Int)) = false, decide (i ≥ (↑L.length : Int)) = true]) rfl (by kernel_rfl) ⟨(decide_eq_false h0), (decide_eq_true h1), trivial⟩ rfl ⟨ObLe.refl _, trivial⟩ ⟨rfl, fun _ => rfl, trivial⟩ rfl
set_option maxRecDepth 10000 in
set_option maxHeartbeats 4000000 in
theorem rem_ok (l s : Int) (i : Nat) (L : List En) (hl : L.length ≤ 1000000) (h : i < L.length) : CallOK Try.prog 35 [.agg [I l, I s, .sl 1 0 2 L.length none], I i] [(1, .ro 2 L.length (rowG encE L))] (.tup [.agg [I l, I s, .sl 10 0 2 (L.length - 1) none], I 0]) [(10, some (.vec 52 2 L.length (rowG encE (L.eraseIdx i ++ [(0, 0)]))))] := by
  refine CallOK.intro Try.call35 Try.func35 rfl rfl ⟨rfl, fun _ => rfl, trivial⟩ ?_
  have n1 : ¬ (i : Int) < 0 := by omega
  have n2 : ¬ (i : Int) ≥ L.length := by omega
  have q1 := cloneE_all L hl
  have q2 := deleteE_any L i h hl
  refine Safe.gotoE mixed 11 [⟨1100, []⟩, ⟨1200, [(7, .tt false)]⟩, ⟨1300, [(2, .call [1] (.sl ((1360 : Nat)) ((0 : Nat)) ((2 : Nat)) (L.length) (none)) [(1360, some (.vec ((52 : Nat)) ((2 : Nat)) (L.length) (fun q => renL [((0 : Nat), (1 : Nat)), ((10 : Nat), (1360 : Nat))] (rowG encE L q))))]), (6, .call [1360] (.sl ((1360 : Nat)) ((0 : Nat)) ((2 : Nat)) (L.length - (1 : Nat)) (none)) [(1360, some (.vec ((52 : Nat)) ((2 : Nat)) (L.length) (fun q => renL [((0 : Nat), (1360 : Nat))] (rowG encE (L.eraseIdx i ++ [((0 : Int), (0 : Int))]) q))))])]⟩, ⟨1400, []⟩] [4, 5] [1, 1360, 1101] (sl := slotsOf 25 [(4, .ptr ((1101 : Nat)) ((0 : Nat)) ((0 : Nat)) ((0 : Nat))), (5, I ((0 : Int)))]) (hp := [(1, .ro ((2 : Nat)) (L.length) (rowG encE L)), (1360, .vec ((52 : Nat)) ((2 : Nat)) (L.length) (fun q => renL [((0 : Nat), (1360 : Nat))] (rowG encE (L.eraseIdx i ++ [((0 : Int), (0 : Int))]) q))), (1101, .blk ((27 : Nat)) [I (l), I (s), .sl ((1360 : Nat)) ((0 : Nat)) ((2 : Nat)) (L.length - (1 : Nat)) (none)])]) (ob := [decide ((↑i : Int) ≥ (↑L.length : Int)) = false, CallOK Try.prog (47 : Nat) ([] ++ [AV.sl (1 : Nat) (0 : Nat) (2 : Nat) L.length none] ++ []) [((1 : Nat), Ob.ro (2 : Nat) L.length (rowG encE L))] (AV.sl (1360 : Nat) (0 : Nat) (2 : Nat) L.length none) [((1360 : Nat), some (Ob.vec (52 : Nat) (2 : Nat) L.length fun q => renL [((0 : Nat), (1 : Nat)), ((10 : Nat), (1360 : Nat))] (rowG encE L q)))], inK IntKind.i64 ((↑i : Int) + (1 : Int)), CallOK Try.prog (50 : Nat) ([] ++ [AV.sl (1360 : Nat) (0 : Nat) (2 : Nat) L.length none, AV.val (Value.int IntKind.i64 (↑i : Int)), AV.val (Value.int IntKind.i64 ((↑i : Int) + (1 : Int)))] ++ []) [((1360 : Nat), Ob.vec (52 : Nat) (2 : Nat) L.length fun q => renL [((0 : Nat), (1 : Nat)), ((10 : Nat), (1360 : Nat))] (rowG encE L q))] (AV.sl (1360 : Nat) (0 : Nat) (2 : Nat) (L.length - (1 : Nat)) none) [((1360 : Nat), some (Ob.vec (52 : Nat) (2 : Nat) L.length fun q => renL [((0 : Nat), (1360 : Nat))] (rowG encE (L.eraseIdx i ++ [((0 : Int), (0 : Int))]) q)))]]) rfl rfl (by kernel_rfl) ⟨(decide_eq_false n2), (CallOK.ren q1 [(0, 1), (10, 1360)] [0, 10] rfl rfl rfl rfl ⟨rfl, fun _ => rfl, trivial⟩ rfl ⟨rfl, fun _ => rfl, rfl, fun _ => rfl, trivial⟩), (by simp only [inK]; omega), (CallOK.ren q2 [(0, 1360)] [0] rfl rfl rfl rfl ⟨rfl, fun _ => rfl, trivial⟩ rfl ⟨rfl, fun _ => rfl, trivial⟩), trivial⟩ rfl ⟨rfl, fun _ => rfl, rfl, closed_renN (fun _ => rfl), rfl, rfl, trivial⟩ fun td htd => ?_
  refine Safe.ren [(1360, 10)] rfl rfl rfl rfl ⟨rfl, fun _ => rfl, rfl, closed_renN (fun _ => rfl), rfl, rfl, trivial⟩ ?_
  refine Safe.endsT Go.Proofs.Try.func35 htd (r := .tup [.agg [I (l), I (s), .sl ((10 : Nat)) ((0 : Nat)) ((2 : Nat)) (L.length - (1 : Nat)) (none)], I ((0 : Int))]) (hp := [(1, .ro ((2 : Nat)) (L.length) (fun q => renL [((1360 : Nat), (10 : Nat))] (rowG encE L q))), (10, .vec ((52 : Nat)) ((2 : Nat)) (L.length) (fun q => renL [((1360 : Nat), (10 : Nat))] (renL [((0 : Nat), (1360 : Nat))] (rowG encE (L.eraseIdx i ++ [((0 : Int), (0 : Int))]) q))))]) (ob := []) rfl (by kernel_rfl) trivial rfl ⟨⟨rfl, rfl, fun _ _ => rfl⟩, ?_, trivial⟩ ⟨rfl, fun _ => rfl, rfl, fun _ => rfl, trivial⟩ rfl
  exact ⟨rfl, rfl, rfl, fun _ _ => rfl⟩
set_option maxRecDepth 10000 in
set_option maxHeartbeats 4000000 in
theorem split_err (l s : Int) (L : List En) (hl : L.length ≤ 1000000) (h : L.length > 8) : CallOK Try.prog 37 [.agg [I l, I s, .sl 1 0 2 L.length none]] [(1, .ro 2 L.length (rowG encE L))] (.tup [.agg [I 0, I 0, .val (.slice none 0 0)], .agg [I 0, I 0, .val (.slice none 0 0)], I 4]) [] := by
  refine CallOK.intro Try.call37 Try.func37 rfl rfl ⟨rfl, fun _ => rfl, trivial⟩ ?_
  have q := tooMany_any l s L hl
  rw [decide_eq_true (by omega)] at q
  refine Safe.ends mixed Go.Proofs.Try.func37 8 [⟨1100, []⟩, ⟨1200, [(1, .call [1] (B (true)) [])]⟩, ⟨1300, []⟩] (r := .tup [.agg [I ((0 : Int)), I ((0 : Int)), .val (Value.slice none (0 : Nat) (0 : Nat))], .agg [I ((0 : Int)), I ((0 : Int)), .val (Value.slice none (0 : Nat) (0 : Nat))], I ((4 : Int))]) (hp := [(1, .ro ((2 : Nat)) (L.length) (rowG encE L))]) (ob := [CallOK Try.prog (46 : Nat) ([] ++ [AV.agg [AV.val (Value.int IntKind.i64 l), AV.val (Value.int IntKind.i64 s), AV.sl (1 : Nat) (0 : Nat) (2 : Nat) L.length none]] ++ []) [((1 : Nat), Ob.ro (2 : Nat) L.length (rowG encE L))] (AV.val (Value.bool true)) []]) rfl (by kernel_rfl) ⟨q, trivial⟩ rfl ⟨ObLe.refl _, trivial⟩ ⟨rfl, fun _ => rfl, trivial⟩ rfl
set_option maxRecDepth 10000 in
set_option maxHeartbeats 4000000 in
theorem split_ok (l s : Int) (L : List En) (h : L.length ≤ 8) : CallOK Try.prog 37 [.agg [I l, I s, .sl 1 0 2 L.length none]] [(1, .ro 2 L.length (rowG encE L))] (.tup [.agg [I l, I s, .sl 10 0 2 (L.length / 2) none], .agg [I l, I s, .sl 11 0 2 (L.length - L.length / 2) none], I 0]) [(10, some (.vec 52 2 (L.length / 2) (rowG encE (L.take (L.length / 2))))), (11, some (.vec 52 2 (L.length - L.length / 2) (rowG encE (L.drop (L.length / 2)))))] := by
  refine CallOK.intro Try.call37 Try.func37 rfl rfl ⟨rfl, fun _ => rfl, trivial⟩ ?_
  have q := tooMany_any l s L (by omega)
  rw [decide_eq_false (by omega)] at q
  have q1 := cloneE_any L 0 (L.length / 2) (by omega) (by omega)
  have q2 := cloneE_any L (L.length / 2) (L.length - L.length / 2) (by omega) (by omega)
  rw [List.drop_zero] at q1
  rw [List.take_of_length_le (by rw [List.length_drop]; omega)] at q2
  refine Safe.gotoE mixed 15 [⟨1100, []⟩, ⟨1200, [(1, .call [1] (B (false)) [])]⟩, ⟨1300, []⟩, ⟨1400, [(4, .call [1] (.sl ((1470 : Nat)) ((0 : Nat)) ((2 : Nat)) (L.length / (2 : Nat)) (none)) [(1470, some (.vec ((52 : Nat)) ((2 : Nat)) (L.length / (2 : Nat)) (fun q => renL [((0 : Nat), (1 : Nat)), ((10 : Nat), (1470 : Nat))] (rowG encE (List.take (L.length / (2 : Nat)) L) q))))])]⟩, ⟨1500, [(4, .call [1] (.sl ((1570 : Nat)) ((0 : Nat)) ((2 : Nat)) (L.length - L.length / (2 : Nat)) (none)) [(1570, some (.vec ((52 : Nat)) ((2 : Nat)) (L.length - L.length / (2 : Nat)) (fun q => renL [((0 : Nat), (1 : Nat)), ((10 : Nat), (1570 : Nat))] (rowG encE (List.drop (L.length / (2 : Nat)) L) q))))])]⟩, ⟨1600, []⟩] [2, 3, 4] [1, 1470, 1570, 1101, 1102] (sl := slotsOf 32 [(2, .ptr ((1101 : Nat)) ((0 : Nat)) ((0 : Nat)) ((0 : Nat))), (3, .ptr ((1102 : Nat)) ((0 : Nat)) ((0 : Nat)) ((0 : Nat))), (4, I ((0 : Int)))]) (hp := [(1, .ro ((2 : Nat)) (L.length) (rowG encE L)), (1470, .vec ((52 : Nat)) ((2 : Nat)) (L.length / (2 : Nat)) (fun q => renL [((0 : Nat), (1 : Nat)), ((10 : Nat), (1470 : Nat))] (rowG encE (List.take (L.length / (2 : Nat)) L) q))), (1570, .vec ((52 : Nat)) ((2 : Nat)) (L.length - L.length / (2 : Nat)) (fun q => renL [((0 : Nat), (1 : Nat)), ((10 : Nat), (1570 : Nat))] (rowG encE (List.drop (L.length / (2 : Nat)) L) q))), (1101, .blk ((27 : Nat)) [I (l), I (s), .sl ((1470 : Nat)) ((0 : Nat)) ((2 : Nat)) (L.length / (2 : Nat)) (none)]), (1102, .blk ((27 : Nat)) [I (l), I (s), .sl ((1570 : Nat)) ((0 : Nat)) ((2 : Nat)) (L.length - L.length / (2 : Nat)) (none)])]) (ob := [CallOK Try.prog (46 : Nat) ([] ++ [AV.agg [AV.val (Value.int IntKind.i64 l), AV.val (Value.int IntKind.i64 s), AV.sl (1 : Nat) (0 : Nat) (2 : Nat) L.length none]] ++ []) [((1 : Nat), Ob.ro (2 : Nat) L.length (rowG encE L))] (AV.val (Value.bool false)) [], (0 : Int) ≤ (↑L.length : Int) ∧ (0 : Int) < (2 : Int), inK IntKind.i64 ((↑L.length : Int) / (2 : Int)), (0 : Int) ≤ (↑L.length : Int) / (2 : Int) ∧ (↑L.length : Int) / (2 : Int) ≤ (↑L.length : Int), CallOK Try.prog (47 : Nat) ([] ++ [AV.sl (1 : Nat) (0 : Nat) (2 : Nat) ((↑L.length : Int) / (2 : Int)).toNat none] ++ []) [((1 : Nat), Ob.ro (2 : Nat) L.length (rowG encE L))] (AV.sl (1470 : Nat) (0 : Nat) (2 : Nat) (L.length / (2 : Nat)) none) [((1470 : Nat), some (Ob.vec (52 : Nat) (2 : Nat) (L.length / (2 : Nat)) fun q => renL [((0 : Nat), (1 : Nat)), ((10 : Nat), (1470 : Nat))] (rowG encE (List.take (L.length / (2 : Nat)) L) q)))], (0 : Int) ≤ (↑L.length : Int) / (2 : Int) ∧ (↑L.length : Int) / (2 : Int) ≤ (↑L.length : Int), CallOK Try.prog (47 : Nat) ([] ++ [AV.sl (1 : Nat) ((↑L.length : Int) / (2 : Int)).toNat (2 : Nat) (L.length - ((↑L.length : Int) / (2 : Int)).toNat) none] ++ []) [((1 : Nat), Ob.ro (2 : Nat) L.length (rowG encE L))] (AV.sl (1570 : Nat) (0 : Nat) (2 : Nat) (L.length - L.length / (2 : Nat)) none) [((1570 : Nat), some (Ob.vec (52 : Nat) (2 : Nat) (L.length - L.length / (2 : Nat)) fun q => renL [((0 : Nat), (1 : Nat)), ((10 : Nat), (1570 : Nat))] (rowG encE (List.drop (L.length / (2 : Nat)) L) q)))]]) rfl rfl (by kernel_rfl) ⟨q, (by omega), (by simp only [inK]; omega), (by omega), (CallOK.ren q1 [(0, 1), (10, 1470)] [0, 10] rfl rfl rfl rfl ⟨rfl, fun _ => rfl, trivial⟩ rfl ⟨rfl, fun _ => rfl, rfl, fun _ => rfl, trivial⟩), (by omega), (CallOK.ren q2 [(0, 1), (10, 1570)] [0, 10] rfl rfl rfl rfl ⟨rfl, fun _ => rfl, trivial⟩ rfl ⟨rfl, fun _ => rfl, rfl, fun _ => rfl, trivial⟩), trivial⟩ rfl ⟨rfl, fun _ => rfl, rfl, closed_renN (fun _ => rfl), rfl, closed_renN (fun _ => rfl), rfl, rfl, rfl, rfl, trivial⟩ fun td htd => ?_
  refine Safe.ren [(1470, 10), (1570, 11)] rfl rfl rfl rfl ⟨rfl, fun _ => rfl, rfl, closed_renN (fun _ => rfl), rfl, closed_renN (fun _ => rfl), rfl, rfl, rfl, rfl, trivial⟩ ?_
  refine Safe.endsT Go.Proofs.Try.func37 htd (r := .tup [.agg [I (l), I (s), .sl ((10 : Nat)) ((0 : Nat)) ((2 : Nat)) (L.length / (2 : Nat)) (none)], .agg [I (l), I (s), .sl ((11 : Nat)) ((0 : Nat)) ((2 : Nat)) (L.length - L.length / (2 : Nat)) (none)], I ((0 : Int))]) (hp := [(1, .ro ((2 : Nat)) (L.length) (fun q => renL [((1470 : Nat), (10 : Nat)), ((1570 : Nat), (11 : Nat))] (rowG encE L q))), (10, .vec ((52 : Nat)) ((2 : Nat)) (L.length / (2 : Nat)) (fun q => renL [((1470 : Nat), (10 : Nat)), ((1570 : Nat), (11 : Nat))] (renL [((0 : Nat), (1 : Nat)), ((10 : Nat), (1470 : Nat))] (rowG encE (List.take (L.length / (2 : Nat)) L) q)))), (11, .vec ((52 : Nat)) ((2 : Nat)) (L.length - L.length / (2 : Nat)) (fun q => renL [((1470 : Nat), (10 : Nat)), ((1570 : Nat), (11 : Nat))] (renL [((0 : Nat), (1 : Nat)), ((10 : Nat), (1570 : Nat))] (rowG encE (List.drop (L.length / (2 : Nat)) L) q))))]) (ob := []) rfl (by kernel_rfl) trivial rfl ⟨⟨rfl, rfl, fun _ _ => rfl⟩, ?_, ?_, trivial⟩ ⟨rfl, fun _ => rfl, rfl, fun _ => rfl, rfl, fun _ => rfl, trivial⟩ rfl
  · exact ⟨rfl, rfl, rfl, fun _ _ => rfl⟩
  · exact ⟨rfl, rfl, rfl, fun _ _ => rfl⟩
end Go.Proofs.Ytonjaghkiaaipaa
