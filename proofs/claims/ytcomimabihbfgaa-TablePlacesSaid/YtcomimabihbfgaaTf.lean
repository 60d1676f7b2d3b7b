/- Contains, Clone. -/
import Derived.Test.YtcomimabihbfgaaSyU
import Derived.KernelRfl
import Derived.Test.YtcomimabihbfgaaTe
namespace Go.Proofs.Ytcomimabihbfgaa
open Go.RowKit
set_option linter.unusedVariables false
theorem rowT_rowG (L : List Tg) : rowT L = rowG encT L := rfl
def encS (s : ByteArray) : List AV := [S s]
def getS (l : List ByteArray) (q : Nat) : ByteArray := l.getD q default
set_option maxRecDepth 10000 in
set_option maxHeartbeats 4000000 in
theorem index_any (l : List ByteArray) (x : ByteArray) (i : Nat) (hi : ∀ k, k < i → getS l k ≠ x) (hx : i < l.length → getS l i = x) (hle : i ≤ l.length) (hl : l.length ≤ 1000000) : CallOK Try.prog 46 [.sl 0 0 1 l.length none, S x] [(0, .ro 1 l.length (rowG encS l))] (I (if i < l.length then (i : Int) else -1)) [] := by
  refine CallOK.intro Try.call46 Try.func46 rfl rfl ⟨rfl, fun _ => rfl, trivial⟩ ?_
  refine Safe.withLoop (loopAt Try.f46 0) [0] 19 (fun g : Nat => [(0, .sl 0 0 1 l.length none), (1, S x), (7, I l.length), (8, I g)]) (fun _ => [(0, .ro 1 l.length (rowG encS l))]) (fun g => g ≤ i) (fun g => l.length - g) ?_ ?_
  · intro k hk ih
    have h1 := hi k
    refine (Classical.em ((↑k : Int) < (↑l.length : Int))).elim (fun hc1 => ?ga0) (fun hc1 => ?gb0)
    case' gb0 =>
      refine Safe.ends mixed Go.Proofs.Try.func46 7 [⟨1100, [(0, .tt false)]⟩, ⟨1200, []⟩] (r := I ((-1 : Int))) (hp := [(0, .ro ((1 : Nat)) (l.length) (rowG encS l))]) (ob := [decide ((↑k : Int) < (↑l.length : Int)) = false]) rfl (by kernel_rfl) ⟨(decide_eq_false hc1), trivial⟩ ?_ ⟨ObLe.refl _, trivial⟩ ⟨rfl, fun _ => rfl, trivial⟩ rfl
    case' ga0 =>
      refine (Classical.em (x = l.getD k default)).elim (fun hc2 => ?ga1) (fun hc2 => ?gb1)
      case' gb1 =>
        refine Safe.goto mixed 16 [⟨1100, [(0, .tt true)]⟩, ⟨1200, []⟩, ⟨1300, [(5, .tt false)]⟩, ⟨1400, []⟩] [0, 1, 7, 8] [0] (todo' := loopAt Go.Proofs.Try.f46 0) (sl := slotsOf 19 [(0, .sl ((0 : Nat)) ((0 : Nat)) ((1 : Nat)) (l.length) (none)), (1, S (x)), (7, I ((↑l.length : Int))), (8, I ((↑k : Int) + (1 : Int)))]) (hp := [(0, .ro ((1 : Nat)) (l.length) (rowG encS l))]) (ob := [decide ((↑k : Int) < (↑l.length : Int)) = true, (0 : Int) ≤ (↑k : Int) ∧ (↑k : Int) < (↑l.length : Int), k < l.length, decide (x = l.getD k default) = false, inK IntKind.i64 ((↑k : Int) + (1 : Int))]) rfl rfl (by kernel_rfl) ⟨(decide_eq_true hc1), (by omega), (by omega), (decide_eq_false hc2), (by simp only [inK]; omega), trivial⟩ rfl ⟨rfl, fun _ => rfl, trivial⟩ ?_
      case' ga1 =>
        refine Safe.ends mixed Go.Proofs.Try.func46 14 [⟨1100, [(0, .tt true)]⟩, ⟨1200, []⟩, ⟨1300, [(5, .tt true)]⟩, ⟨1400, []⟩] (r := I ((↑k : Int))) (hp := [(0, .ro ((1 : Nat)) (l.length) (rowG encS l))]) (ob := [decide ((↑k : Int) < (↑l.length : Int)) = true, (0 : Int) ≤ (↑k : Int) ∧ (↑k : Int) < (↑l.length : Int), k < l.length, decide (x = l.getD k default) = true]) rfl (by kernel_rfl) ⟨(decide_eq_true hc1), (by omega), (by omega), (decide_eq_true hc2), trivial⟩ ?_ ⟨ObLe.refl _, trivial⟩ ⟨rfl, fun _ => rfl, trivial⟩ rfl
    · show I _ = I _
      have : k = i := by
        rcases Nat.lt_or_eq_of_le hk with h | h
        · exact absurd hc2.symm (h1 h)
        · exact h
      rw [this, if_pos (by omega)]
    · have : k ≠ i := fun e => hc2 (by rw [← hx (by omega), ← e]; rfl)
      exact ih (k + 1) (by omega) (by omega)
    · show I _ = I _
      rw [if_neg (by omega)]
  · intro H
    refine Safe.goto mixed 7 [⟨1100, []⟩, ⟨1200, []⟩] [0, 1, 7, 8] [0] (todo' := loopAt Go.Proofs.Try.f46 0) (sl := slotsOf 19 [(0, .sl ((0 : Nat)) ((0 : Nat)) ((1 : Nat)) (l.length) (none)), (1, S (x)), (7, I ((↑l.length : Int))), (8, I ((0 : Int)))]) (hp := [(0, .ro ((1 : Nat)) (l.length) (rowG encS l))]) (ob := []) rfl rfl (by kernel_rfl) trivial rfl ⟨rfl, fun _ => rfl, trivial⟩ ?_
    exact H 0 (Nat.zero_le _)
theorem index_ex (l : List ByteArray) (x : ByteArray) : ∃ i, i ≤ l.length ∧ (∀ k, k < i → getS l k ≠ x) ∧ (i < l.length → getS l i = x) := by
  have : ∀ n, n ≤ l.length → (∃ i, i < n ∧ (∀ k, k < i → getS l k ≠ x) ∧ getS l i = x) ∨ ∀ k, k < n → getS l k ≠ x := by
    intro n
    induction n with
    | zero => intro _; exact .inr fun k hk => by omega
    | succ n ih =>
      intro hn
      rcases ih (by omega) with ⟨i, h1, h2⟩ | h
      · exact .inl ⟨i, by omega, h2⟩
      · by_cases e : getS l n = x
        · exact .inl ⟨n, by omega, h, e⟩
        · refine .inr fun k hk => ?_
          rcases Nat.lt_or_eq_of_le (Nat.le_of_lt_succ hk) with h3 | h3
          · exact h k h3
          · rw [h3]; exact e
  rcases this l.length (Nat.le_refl _) with ⟨i, h1, h2, h3⟩ | h
  · exact ⟨i, by omega, h2, fun _ => h3⟩
  · exact ⟨l.length, Nat.le_refl _, h, fun h => by omega⟩
/-- is a text in a list? -/
def hasF (l : List ByteArray) (x : ByteArray) : Bool := l.any fun y => decide (y = x)
theorem hasF_iff (l : List ByteArray) (x : ByteArray) : hasF l x = true ↔ x ∈ l := by
  unfold hasF
  rw [List.any_eq_true]
  exact ⟨fun ⟨y, h1, h2⟩ => by rw [← of_decide_eq_true h2]; exact h1, fun h => ⟨x, h, by simp⟩⟩
theorem mem_getS (l : List ByteArray) (x : ByteArray) : x ∈ l ↔ ∃ i, i < l.length ∧ getS l i = x := by
  constructor
  · intro h
    obtain ⟨i, hi, rfl⟩ := List.getElem_of_mem h
    exact ⟨i, hi, by unfold getS; rw [List.getD_eq_getElem?_getD, List.getElem?_eq_getElem hi]; rfl⟩
  · rintro ⟨i, hi, rfl⟩
    unfold getS
    rw [List.getD_eq_getElem?_getD, List.getElem?_eq_getElem hi]
    exact List.getElem_mem hi
set_option maxRecDepth 10000 in
set_option maxHeartbeats 4000000 in
theorem contains_any (l : List ByteArray) (x : ByteArray) (hl : l.length ≤ 1000000) : CallOK Try.prog 41 [.sl 0 0 1 l.length none, S x] [(0, .ro 1 l.length (rowG encS l))] (B (hasF l x)) [] := by
  obtain ⟨i, h1, h2, h3⟩ := index_ex l x
  refine CallOK.intro Try.call41 Try.func41 rfl rfl ⟨rfl, fun _ => rfl, trivial⟩ ?_
  refine Safe.ends mixed Go.Proofs.Try.func41 4 [⟨1100, []⟩, ⟨1200, [(2, .call [0] (I (if i < l.length then (↑i : Int) else (-1 : Int))) [])]⟩] (r := B (decide ((if i < l.length then (↑i : Int) else (-1 : Int)) ≥ (0 : Int)))) (hp := [(0, .ro ((1 : Nat)) (l.length) (rowG encS l))]) (ob := [CallOK Try.prog (46 : Nat) ([] ++ [AV.sl (0 : Nat) (0 : Nat) (1 : Nat) l.length none, AV.val (Value.string x)] ++ []) [((0 : Nat), Ob.ro (1 : Nat) l.length (rowG encS l))] (AV.val (Value.int IntKind.i64 (if i < l.length then (↑i : Int) else (-1 : Int)))) []]) rfl (by kernel_rfl) ⟨(CallOK.ren (index_any l x i h2 h3 h1 hl) [(0, 0)] [0] rfl rfl rfl rfl ⟨rfl, fun _ => rfl, trivial⟩ rfl ⟨rfl, fun _ => rfl, trivial⟩), trivial⟩ ?_ ⟨ObLe.refl _, trivial⟩ ⟨rfl, fun _ => rfl, trivial⟩ rfl
  show B _ = B _
  congr 3
  by_cases h : i < l.length
  · rw [if_pos h, (hasF_iff l x).2 ((mem_getS l x).2 ⟨i, h, h3 h⟩), decide_eq_true (by omega)]
  · rw [if_neg h, decide_eq_false (by omega)]
    have hn : ¬ hasF l x = true := fun hm => by
      obtain ⟨j, hj, hj2⟩ := (mem_getS l x).1 ((hasF_iff l x).1 hm)
      exact h2 j (by omega) hj2
    exact (by simpa using hn : hasF l x = false).symm
set_option maxRecDepth 10000 in
set_option maxHeartbeats 4000000 in
theorem clone_any (L : List Tg) (hl : L.length ≤ 1000000) : CallOK Try.prog 39 [.sl 0 0 5 L.length none] [(0, .ro 5 L.length (rowG encT L))] (.sl 10 0 5 L.length none) [(10, some (.vec 45 5 L.length (rowG encT L)))] := by
  refine CallOK.intro Try.call39 Try.func39 rfl rfl ⟨rfl, fun _ => rfl, trivial⟩ ?_
  refine Safe.goto mixed 5 [⟨1100, []⟩, ⟨1200, []⟩] [0, 4] [0] (todo' := skipTo 5 (bodyOf Try.f39)) (sl := slotsOf 8 [(0, .sl 0 0 5 L.length none), (4, .anyB (L.length = 0) True)]) (hp := [(0, .ro 5 L.length (rowG encT L))]) (ob := []) rfl rfl (by kernel_rfl) trivial rfl ⟨rfl, fun _ => rfl, trivial⟩ ?_
  refine Safe.any 4 rfl (fun h0 => ?_) (fun _ => ?_)
  · skip
    refine Safe.gotoE mixed 3 [⟨1100, []⟩] [2] [0] (sl := slotsOf 8 [(2, .val (Value.slice none (0 : Nat) (0 : Nat)))]) (hp := [(0, .ro ((5 : Nat)) (L.length) (rowG encT L))]) (ob := []) rfl rfl (by kernel_rfl) trivial rfl ⟨rfl, fun _ => rfl, trivial⟩ fun td htd => ?_
    refine Safe.nil 2 10 45 5 (fun _ => []) rfl rfl ⟨rfl, fun _ => rfl, trivial⟩ ?_ rfl
    refine Safe.endsT Go.Proofs.Try.func39 htd (r := .sl ((10 : Nat)) ((0 : Nat)) ((5 : Nat)) ((0 : Nat)) (none)) (hp := [(0, .ro ((5 : Nat)) (L.length) (rowG encT L)), (10, .vec ((45 : Nat)) ((5 : Nat)) ((0 : Nat)) (fun q => []))]) (ob := []) rfl (by kernel_rfl) trivial ?_ ⟨ObLe.refl _, ?_, trivial⟩ ⟨rfl, fun _ => rfl, rfl, fun _ => rfl, trivial⟩ rfl
    · rw [h0]; rfl
    · exact ⟨rfl, rfl, h0.symm, fun q hq => by omega⟩
  · skip
    refine Safe.gotoE mixed 4 [⟨1100, []⟩] [2] [0, 1102] (sl := slotsOf 8 [(2, .sl ((1102 : Nat)) ((0 : Nat)) ((5 : Nat)) (L.length) (none))]) (hp := [(0, .ro ((5 : Nat)) (L.length) (rowG encT L)), (1102, .vec ((45 : Nat)) ((5 : Nat)) (L.length) (rowG encT L))]) (ob := [(0 : Nat) + L.length ≤ L.length, (0 : Nat) = (0 : Nat), (0 : Nat) + L.length ≤ (1099511627776 : Nat)]) rfl rfl (by kernel_rfl) ⟨(by omega), (by omega), (by omega), trivial⟩ rfl ⟨rfl, fun _ => rfl, rfl, fun _ => rfl, trivial⟩ fun td htd => ?_
    refine Safe.ren [(1102, 10)] rfl rfl rfl rfl ⟨rfl, fun _ => rfl, rfl, fun _ => rfl, trivial⟩ ?_
    refine Safe.endsT Go.Proofs.Try.func39 htd (r := .sl ((10 : Nat)) ((0 : Nat)) ((5 : Nat)) (L.length) (none)) (hp := [(0, .ro ((5 : Nat)) (L.length) (fun q => renL [((1102 : Nat), (10 : Nat))] (rowG encT L q))), (10, .vec ((45 : Nat)) ((5 : Nat)) (L.length) (fun q => renL [((1102 : Nat), (10 : Nat))] (rowG encT L q)))]) (ob := []) rfl (by kernel_rfl) trivial rfl ⟨⟨rfl, rfl, fun _ _ => rfl⟩, ⟨rfl, rfl, rfl, fun _ _ => rfl⟩, trivial⟩ ⟨rfl, fun _ => rfl, rfl, fun _ => rfl, trivial⟩ rfl
end Go.Proofs.Ytcomimabihbfgaa
