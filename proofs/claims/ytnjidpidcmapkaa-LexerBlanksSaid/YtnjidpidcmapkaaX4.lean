/- The scanner: its table, places, moves, tokens added; line feeds, blanks, signs. No conditions but those of each theorem. -/
import Derived.Test.YtnjidpidcmapkaaSyZ
import Derived.KernelRfl
import Derived.Test.YtnjidpidcmapkaaX3
namespace Go.Proofs.Ytnjidpidcmapkaa
open Go.RowKit
set_option linter.unusedVariables false
set_option linter.unnecessarySimpa false
set_option linter.unusedSimpArgs false
def fnV : Option Nat → AV
  | some f => .fn (.func f) [] []
  | none => .val .nilFunc
/-- a table of functions -/
def tabTail (g : Nat → Option Nat) : List AV := (List.range 256).map fun n => fnV (g n)
theorem closed_fn (ids : List Nat) : ∀ x : Option Nat, closedV ids (fnV x) = true
  | some f => rfl
  | none => rfl
theorem closed_map (ids : List Nat) (g : Nat → Option Nat) : ∀ l : List Nat, closedL ids (l.map fun n => fnV (g n)) = true
  | [] => rfl
  | x :: l => closed_cons (closed_fn ids _) (closed_map ids g l)
theorem tabTail_closed (ids : List Nat) (g : Nat → Option Nat) : closedL ids (tabTail g) = true := closed_map ids g _
/-- the table with a function for the first k bytes of a text -/
def setU (g : Nat → Option Nat) (t : ByteArray) (f k : Nat) : Nat → Option Nat := fun n => if (List.range k).any (fun j => byteAt t j == (n : Int)) = true then some f else g n
theorem setU_succ (g : Nat → Option Nat) (t : ByteArray) (f k : Nat) (n : Nat) : setU g t f (k + 1) n = if byteAt t k = (n : Int) then some f else setU g t f k n := by
  unfold setU
  rw [List.range_succ, List.any_append]
  by_cases h : byteAt t k = (n : Int)
  · simp [h]
  · simp [h]
theorem tab_len (g : Nat → Option Nat) : (tabTail g).length = 256 := by simp [tabTail]
theorem put_tab (a b c d e v : AV) (g g' : Nat → Option Nat) (z : Nat) (f : Nat) (hz : z < 256) (hv : v = fnV (some f)) (hg : ∀ n, g' n = if z = n then some f else g n) : putC (a :: b :: c :: d :: e :: tabTail g) (5 + z) [v] = a :: b :: c :: d :: e :: tabTail g' := by
  have key : (tabTail g).take z ++ [v] ++ (tabTail g).drop (z + 1) = tabTail g' := by
    apply List.ext_getElem?
    intro n
    have hl : ((tabTail g).take z).length = z := by rw [List.length_take, tab_len]; omega
    have hat : ∀ (h : Nat → Option Nat) n, (tabTail h)[n]? = if n < 256 then some (fnV (h n)) else none := fun h n => by
      unfold tabTail
      rw [List.getElem?_map]
      by_cases hn : n < 256
      · rw [List.getElem?_range hn, if_pos hn]; rfl
      · rw [List.getElem?_eq_none (by simpa using hn), if_neg hn]; rfl
    rw [List.append_assoc]
    by_cases h1 : n < z
    · rw [List.getElem?_append_left (by omega), List.getElem?_take, if_pos h1, hat, hat, hg, if_neg (show ¬ z = n by omega)]
    · rw [List.getElem?_append_right (by omega), hl, List.singleton_append, List.getElem?_cons]
      by_cases h2 : n = z
      · rw [if_pos (by omega), hat, hg, if_pos h2.symm, if_pos (by omega), hv]
      · rw [if_neg (by omega), List.getElem?_drop, show z + 1 + (n - z - 1) = n by omega, hat, hat, hg, if_neg (show ¬ z = n by omega)]
  unfold putC
  rw [show 5 + z = z + 1 + 1 + 1 + 1 + 1 by omega]
  simp only [List.take_succ_cons, List.cons_append, List.length_singleton, show z + 1 + 1 + 1 + 1 + 1 + 1 = z + 1 + 1 + 1 + 1 + 1 + 1 from rfl, List.drop_succ_cons]
  rw [key]
set_option maxRecDepth 10000 in
set_option maxHeartbeats 4000000 in
theorem set_any (t s : ByteArray) (f : Nat) (g : Nat → Option Nat) (a l c : Int) (hl : t.size ≤ 1000000) (hb : ∀ k, 0 ≤ byteAt t k ∧ byteAt t k < 256) : CallOK Try.prog 30 [.ptr 20 0 0 0, S t, .fn (.func f) [] []] [(20, .blk 53 (S s :: I a :: I l :: I c :: nilS :: tabTail g))] (.tup []) [(20, some (.blk 53 (S s :: I a :: I l :: I c :: nilS :: tabTail (setU g t f t.size))))] := by
  refine CallOK.intro Try.call30 Try.func30 rfl rfl ⟨rfl, closed_cons rfl (closed_cons rfl (closed_cons rfl (closed_cons rfl (closed_cons rfl (tabTail_closed ..))))), trivial⟩ ?_
  refine Safe.withLoop (loopAt Try.f30 0) [20] 21 (fun k : Nat => [(0, .ptr 20 0 0 0), (1, S t), (2, .fn (.func f) [] []), (8, I t.size), (9, I k)]) (fun k => [(20, .blk 53 (S s :: I a :: I l :: I c :: nilS :: tabTail (setU g t f k)))]) (fun k => k ≤ t.size) (fun k => t.size - k) ?_ ?_
  · intro k hk ih
    have hb1 := hb k
    have hlen : (S s :: I a :: I l :: I c :: nilS :: tabTail (setU g t f k)).length = 261 := by simp [tab_len]
    have hput : putC (S s :: I a :: I l :: I c :: nilS :: tabTail (setU g t f k)) (5 + (byteAt t k).toNat) [.fn (.func f) [] []] = S s :: I a :: I l :: I c :: nilS :: tabTail (setU g t f (k + 1)) := by
      refine put_tab _ _ _ _ _ _ _ _ _ f (by omega) rfl fun n => ?_
      rw [setU_succ]
      by_cases h : byteAt t k = (n : Int)
      · rw [if_pos h, if_pos (by omega)]
      · rw [if_neg h, if_neg (by omega)]
    refine (Classical.em ((↑k : Int) < (↑t.size : Int))).elim (fun hc1 => ?ga0) (fun hc1 => ?gb0)
    case' gb0 =>
      refine Safe.ends mixed Go.Proofs.Try.func30 5 [⟨1100, [(0, .tt false)]⟩] (r := .tup []) (hp := [(20, .blk ((53 : Nat)) (S (s) :: I (a) :: I (l) :: I (c) :: .val (Value.slice none (0 : Nat) (0 : Nat)) :: tabTail (setU g t f k)))]) (ob := [decide ((↑k : Int) < (↑t.size : Int)) = false]) rfl (by kernel_rfl) ⟨(decide_eq_false hc1), trivial⟩ rfl ⟨?_, trivial⟩ ⟨rfl, (closed_cons rfl (closed_cons rfl (closed_cons rfl (closed_cons rfl (closed_cons rfl (tabTail_closed ..)))))), trivial⟩ rfl
    case' ga0 =>
      refine Safe.goto mixed 13 [⟨1100, [(0, .tt true)]⟩, ⟨1200, []⟩, ⟨1300, [(8, .row (S (s) :: I (a) :: I (l) :: I (c) :: .val (Value.slice none (0 : Nat) (0 : Nat)) :: tabTail (setU g t f (k + (1 : Nat)))))]⟩, ⟨1400, []⟩] [0, 1, 2, 8, 9] [20] (todo' := loopAt Go.Proofs.Try.f30 0) (sl := slotsOf 21 [(0, .ptr ((20 : Nat)) ((0 : Nat)) ((0 : Nat)) ((0 : Nat))), (1, S (t)), (2, .fn (Fn.func f) [] []), (8, I ((↑t.size : Int))), (9, I ((↑k : Int) + (1 : Int)))]) (hp := [(20, .blk ((53 : Nat)) (S (s) :: I (a) :: I (l) :: I (c) :: .val (Value.slice none (0 : Nat) (0 : Nat)) :: tabTail (setU g t f (k + (1 : Nat)))))]) (ob := [decide ((↑k : Int) < (↑t.size : Int)) = true, (0 : Int) ≤ (↑k : Int) ∧ (↑k : Int) < (↑t.size : Int), (0 : Int) ≤ byteAt t k ∧ byteAt t k < (↑(256 : Nat) : Int), (5 : Nat) + (byteAt t k).toNat + (1 : Nat) ≤ (AV.val (Value.string s) :: AV.val (Value.int IntKind.i64 a) :: AV.val (Value.int IntKind.i64 l) :: AV.val (Value.int IntKind.i64 c) :: AV.val (Value.slice none (0 : Nat) (0 : Nat)) :: tabTail (setU g t f k)).length ∧ putC (AV.val (Value.string s) :: AV.val (Value.int IntKind.i64 a) :: AV.val (Value.int IntKind.i64 l) :: AV.val (Value.int IntKind.i64 c) :: AV.val (Value.slice none (0 : Nat) (0 : Nat)) :: tabTail (setU g t f k)) ((5 : Nat) + (byteAt t k).toNat) [AV.fn (Fn.func f) [] []] = AV.val (Value.string s) :: AV.val (Value.int IntKind.i64 a) :: AV.val (Value.int IntKind.i64 l) :: AV.val (Value.int IntKind.i64 c) :: AV.val (Value.slice none (0 : Nat) (0 : Nat)) :: tabTail (setU g t f (k + (1 : Nat))), inK IntKind.i64 ((↑k : Int) + (1 : Int))]) rfl rfl (by kernel_rfl) ⟨(decide_eq_true hc1), (by first | omega | exact ⟨by rw [hlen]; omega, hput⟩), (by first | omega | exact ⟨by rw [hlen]; omega, hput⟩), (by first | omega | exact ⟨by rw [hlen]; omega, hput⟩), (by simp only [inK]; first | omega | exact ⟨by rw [hlen]; omega, hput⟩), trivial⟩ rfl ⟨rfl, (closed_cons rfl (closed_cons rfl (closed_cons rfl (closed_cons rfl (closed_cons rfl (tabTail_closed ..)))))), trivial⟩ ?_
    · exact ih (k + 1) (by omega) (by omega)
    · rw [show k = t.size by omega]; exact ObLe.refl _
  · intro H
    refine Safe.goto mixed 4 [⟨1100, []⟩] [0, 1, 2, 8, 9] [20] (todo' := loopAt Go.Proofs.Try.f30 0) (sl := slotsOf 21 [(0, .ptr ((20 : Nat)) ((0 : Nat)) ((0 : Nat)) ((0 : Nat))), (1, S (t)), (2, .fn (Fn.func f) [] []), (8, I ((↑t.size : Int))), (9, I ((0 : Int)))]) (hp := [(20, .blk ((53 : Nat)) (S (s) :: I (a) :: I (l) :: I (c) :: .val (Value.slice none (0 : Nat) (0 : Nat)) :: tabTail g))]) (ob := []) rfl rfl (by kernel_rfl) trivial rfl ⟨rfl, (closed_cons rfl (closed_cons rfl (closed_cons rfl (closed_cons rfl (closed_cons rfl (tabTail_closed ..)))))), trivial⟩ ?_
    have := H 0 (Nat.zero_le _)
    rw [show setU g t f 0 = g from rfl] at this
    exact this
/-- the function for a byte -/
def kindG (n : Nat) : Option Nat := if isW n = true then some 31 else if n = 123 ∨ n = 125 ∨ n = 91 ∨ n = 93 ∨ n = 44 ∨ n = 61 then some 32 else if n = 32 ∨ n = 9 then some 33 else if n = 10 then some 34 else if n = 35 then some 35 else if n = 34 then some 36 else none
def kindsTail : List AV := tabTail kindG
theorem kindsTail_closed (ids : List Nat) : closedL ids kindsTail = true := tabTail_closed ids kindG
def noneG : Nat → Option Nat := fun _ => none
theorem lit_bytes (l : List Int) (h : Bts l) (k : Nat) : 0 ≤ byteAt (str l) k ∧ byteAt (str l) k < 256 := by
  rw [str_byte h]; exact h.at k
theorem tab_eq (g : Nat → Option Nat) (h : ∀ n : Fin 256, g n.val = kindG n.val) : tabTail g = kindsTail := by
  unfold kindsTail tabTail
  refine List.map_congr_left fun n hn => ?_
  rw [h ⟨n, List.mem_range.1 hn⟩]
end Go.Proofs.Ytnjidpidcmapkaa
