/- The iterator over the bytes of words: its contract. No conditions but those of each theorem. -/
import Derived.Test.YtonjaghkiaaipaaOAD
import Derived.RangeFuncBox
import Derived.RangeFuncLeaves
import Derived.RangeFuncFrom
import Derived.RangeFuncWrites
import Derived.Shelf.Abstract
import Derived.Shelf.RegionOpen
import Derived.WalkKit
import Derived.OwnWalkIn
import Derived.TacticsInMore
import Derived.LoopNIn
import Derived.LoopIn
namespace Go.Proofs.Ytonjaghkiaaipaa.OldA
open Go.RowKit Go.Shelf
set_option linter.unusedVariables false
attribute [local go_sem] Oper.semAt_some

abbrev B8 := { x : Nat // x < 256 }
def upto {α : Type} (f : Nat → α) (k : Nat) : List α := (List.range k).map f
theorem upto_succ {α : Type} (f : Nat → α) (k : Nat) : upto f (k + 1) = upto f k ++ [f k] := by simp [upto, List.range_succ]
theorem upto_length {α : Type} (f : Nat → α) (k : Nat) : (upto f k).length = k := by simp [upto]

/-- byte number q of words -/
def bt8 (ws : List Nat) (q : Nat) : B8 := ⟨(ws[q / 8]?.getD 0) / 256 ^ (q % 8) % 256, Nat.mod_lt _ (by omega)⟩

theorem bt8_at (ws : List Nat) (k i v : Nat) (hi : i < 8) (hv : v = (ws[k]?.getD 0) / 256 ^ i) : bt8 ws (8 * k + i) = ⟨v % 256, Nat.mod_lt _ (by omega)⟩ := by
  unfold bt8
  congr 1
  rw [show (8 * k + i) / 8 = k by omega, show (8 * k + i) % 8 = i by omega, hv]

set_option maxRecDepth 100000 in
set_option maxHeartbeats 2000000 in
theorem it1_in (F : Fence) (n : Nat) (h29 : F.fn 72) (hro : F.round = none) (hn : 1 ≤ n) (l Bs n₀ b off len cap : Nat) (ws : List Nat) (hreach : len * 8 ≤ 140737488351232) (hb : b < n₀) (J Jx : List B8 → World → Prop)
    (hY : ∀ pre (x : B8) W, J pre W → pre.length < 8 * len → YieldAt F (n - 1) Try.prog l #[.int .u8 (x.1 : Int)] W fun e W' =>
      (e = .returned (.bool true) ∧ J (pre ++ [x]) W' ∧ Below n₀ W W') ∨ (e = .returned (.bool false) ∧ Jx (pre ++ [x]) W'))
    (W : World) (hBs : W.cell? ⟨Bs, 0, none⟩ = some (.slice (some ⟨b, off, none⟩) len cap)) (hw : ∀ j, j < len → ws[j]?.getD 0 < 18446744073709551616) (hc : ∀ j, j < len → W.cell? ⟨b, off + j, none⟩ = some (.int .u64 (ws[j]?.getD 0 : Nat))) (h0 : J [] W) :
    CallsIn F n Try.prog 72 #[.func (.yield l) #[] #[], .pointer (some ⟨Bs, 0, none⟩)] W fun e W' => (∃ v, e = .returned v) ∧
      ((∃ ys, ys = upto (bt8 ws) (8 * len) ∧ J ys W') ∨ (∃ pre : List B8, Jx pre W')) := by
  refine callsIn_of_wp Try.func72 rfl h29 ?_ hro
  simp only [Try.ntmps72, List.size_toArray, List.length_cons, List.length_nil, Nat.reduceAdd, Nat.reduceSub, Array.replicate_succ, Array.replicate_zero, List.push_toArray, List.append_toArray, List.nil_append, List.cons_append]
  have HY := hid hY
  clear hY
  have HW := hid hw
  have HC := hid hc
  clear hw hc
  gi_wp2
  gi_loopw [7] (fun i wr => ∃ k : Nat, k ≤ len ∧ i = .int .i64 (k : Int) ∧ J (upto (bt8 ws) (8 * k)) wr ∧ Below n₀ W wr)
    (fun i _ => len - (intOf i).toNat)
  case atStart => exact ⟨0, Nat.zero_le _, rfl, h0, Below.refl _ _⟩
  case round =>
    obtain ⟨k, hk, rfl, hJs, hnx⟩ := hrel
    have HJ := hid hJs
    clear hJs
    by_cases hlt : k < len
    · have hck := (hnx.cell (p := ⟨b, off + k, none⟩) hb).trans (HC.out k hlt)
      have hwk := HW.out k hlt
      generalize hword : ws[k]?.getD 0 = word at hck hwk
      have HWD := hid hword
      clear hword
      have hlt2 : (k : Int) < (len : Int) := by omega
      gi_wp2
      gi_loopw [4, 11] (fun v i w5 => ∃ i' v' : Nat, i' ≤ 8 ∧ v' < 18446744073709551616 ∧ i = .int .i64 (i' : Int) ∧ v = .int .u64 (v' : Int) ∧ Hid (v' = word / 256 ^ i') ∧ J (upto (bt8 ws) (8 * k + i')) w5 ∧ Below n₀ W w5) (fun _ i _ => 8 - (intOf i).toNat)
      case atStart => exact ⟨0, word, by omega, hwk, rfl, rfl, (by simp : word = word / 256 ^ 0), HJ.out, hnx⟩
      case round =>
        obtain ⟨i, v, hi, hv, rfl, rfl, hvv, hJ5, hn5⟩ := hrel
        by_cases hi8 : i < 8
        · obtain ⟨fn, tmps, assign, body, hy, hR⟩ := HY.out _ (⟨v % 256, Nat.mod_lt _ (by omega)⟩ : B8) _ hJ5 (by rw [upto_length]; omega)
          dsimp only at hy
          rw [show ((v % 256 : Nat) : Int) = (v : Int) % 256 from by omega] at hy
          have HR := hid hR
          clear hR
          have hi2 : (i : Int) < 8 := by omega
          have HB := hid (bt8_at ws k i v hi8 (by rw [HWD.out]; exact hvv.out))
          have HV := hid (show v / 256 = word / 256 ^ (i + 1) by rw [hvv.out, Nat.div_div_eq_div_mul, Nat.pow_succ])
          gi_wp2
          refine HR.out.mono ?_
          rintro e W3 (⟨rfl, hJ3, hk3⟩ | ⟨rfl, hJx3⟩)
          · gi_wp2
            go_roundw
            case rel => exact ⟨i + 1, v / 256, by omega, by omega, by go_num, by go_num, HV.out, by rw [← Nat.add_assoc, upto_succ, HB.out]; exact hJ3, hn5.trans hk3⟩
            case measure => simp [intOf]; omega
          · gi_wp2
            refine bodyPost_ret (results_none rfl _ _ _) rfl ?_
            exact ⟨⟨_, rfl⟩, .inr ⟨_, hJx3⟩⟩
        · obtain rfl : i = 8 := by omega
          have hi2 : ¬ ((8 : Nat) : Int) < 8 := by omega
          gi_wp2
          go_roundw
          case rel => exact ⟨k + 1, by omega, by go_num, by rw [show 8 * (k + 1) = 8 * k + 8 by omega]; exact hJ5, hn5⟩
          case measure => simp [intOf]; omega
    · obtain rfl : k = len := by omega
      have hlt2 : ¬ (k : Int) < (k : Int) := by omega
      gi_wp2
      go_end0
      exact ⟨⟨_, rfl⟩, by first | exact .inl ⟨_, rfl, HJ.out⟩ | exact .inl HJ.out | exact HJ.out⟩

set_option maxRecDepth 100000 in
set_option maxHeartbeats 1000000 in
theorem it1_nil_in (F : Fence) (n : Nat) (h29 : F.fn 72) (hro : F.round = none) (l Bs cap : Nat) (a : Option Addr) (J : List B8 → World → Prop) (W : World) (hBs : W.cell? ⟨Bs, 0, none⟩ = some (.slice a 0 cap)) (h0 : J [] W) :
    CallsIn F n Try.prog 72 #[.func (.yield l) #[] #[], .pointer (some ⟨Bs, 0, none⟩)] W fun e W' => (∃ v, e = .returned v) ∧ J [] W' := by
  refine callsIn_of_wp Try.func72 rfl h29 ?_ hro
  simp only [Try.ntmps72, List.size_toArray, List.length_cons, List.length_nil, Nat.reduceAdd, Nat.reduceSub, Array.replicate_succ, Array.replicate_zero, List.push_toArray, List.append_toArray, List.nil_append, List.cons_append]
  gi_wp2
  gi_loopw [7] (fun i wr => i = .int .i64 0 ∧ J [] wr) (fun _ _ => 0)
  case atStart => exact ⟨rfl, h0⟩
  case round =>
    obtain ⟨rfl, hJs⟩ := hrel
    gi_wp2
    go_end0
    exact ⟨⟨_, rfl⟩, hJs⟩

set_option maxHeartbeats 1000000 in
theorem bytesOf_in (F : Fence) (n : Nat) (h23 : F.fn 68) (hro : F.round = none) (a : Option Addr) (len cap : Nat) (w : World) :
    CallsIn F n Try.prog 68 #[.slice a len cap] w fun e w' => e = .returned (.func (.func 72) #[] #[.pointer (some ⟨w.heap.size, 0, none⟩)]) ∧ w' = w.alloc (.cells #[.slice a len cap] 30) := by
  refine callsIn_of_wp Try.func68 rfl h23 ?_ hro
  simp only [Try.ntmps68, List.size_toArray, List.length_cons, List.length_nil, Nat.reduceAdd, Nat.reduceSub, Array.replicate_succ, Array.replicate_zero, List.push_toArray, List.append_toArray, List.nil_append, List.cons_append]
  gi_wp2
  go_ret
  exact ⟨rfl, rfl⟩

/-- the slice value holds the words, in a block below n₀; or it has none -/
def Wo (n₀ : Nat) (W : World) (a : Option Addr) (len : Nat) (ws : List Nat) : Prop :=
  (∀ j, j < len → ws[j]?.getD 0 < 18446744073709551616) ∧ (len = 0 ∨ ∃ b off, a = some ⟨b, off, none⟩ ∧ b < n₀ ∧ ∀ j, j < len → W.cell? ⟨b, off + j, none⟩ = some (.int .u64 (ws[j]?.getD 0 : Nat)))
theorem Wo.below {n₀ : Nat} {A B : World} (h : Below n₀ A B) {a : Option Addr} {len : Nat} {ws : List Nat} : Wo n₀ A a len ws → Wo n₀ B a len ws
  | ⟨h1, .inl e⟩ => ⟨h1, .inl e⟩
  | ⟨h1, .inr ⟨b, off, e, hb, hc⟩⟩ => ⟨h1, .inr ⟨b, off, e, hb, fun j hj => (h.cell (p := ⟨b, off + j, none⟩) hb).trans (hc j hj)⟩⟩

theorem bytesOf_stops (F : Fence) (n : Nat) (h29 : F.fn 72) (hro : F.round = none) (hn : 1 ≤ n) (Bs n₀ : Nat) (a : Option Addr) (len cap : Nat) (ws : List Nat) (hreach : len * 8 ≤ 140737488351232) (w : World) (hBs : Bs < w.heap.size) (hn₀ : n₀ ≤ w.heap.size)
    (hc : w.cell? ⟨Bs, 0, none⟩ = some (.slice a len cap)) (hI : Wo n₀ w a len ws) :
    SeqStopsK F n Try.prog 72 #[.pointer (some ⟨Bs, 0, none⟩)] (fun x : B8 => #[Value.int .u8 (x.1 : Int)]) (Below n₀) (fun ys => ys = upto (bt8 ws) (8 * len)) (fun _ => True) (8 * len) w := fun l J Jx W hW _ _ hY h0 => by
  have hc' := (hW.cell (p := ⟨Bs, 0, none⟩) hBs).trans hc
  obtain ⟨hw, hI'⟩ := hI.below (hW.mono hn₀)
  rcases hI' with rfl | ⟨b, off, rfl, hb, hcs⟩
  · exact (it1_nil_in F n h29 hro l Bs cap a J W hc' h0).mono fun e W' ⟨he, hj⟩ => ⟨he, .inl ⟨_, by simp [upto], hj⟩⟩
  · refine (it1_in F n h29 hro hn l Bs n₀ b off len cap ws hreach hb J Jx hY W hc' hw hcs h0).mono ?_
    rintro e W' ⟨he, ⟨ys, rfl, hj⟩ | ⟨pre, hj⟩⟩
    · exact ⟨he, .inl ⟨_, rfl, hj⟩⟩
    · exact ⟨he, .inr ⟨_, trivial, hj⟩⟩
end Go.Proofs.Ytonjaghkiaaipaa.OldA
