/- Src: the reader of numbers. No conditions but those of each theorem. -/
import Derived.Test.YtcoilldcghamdaaSyZ
import Derived.KernelRfl
import Derived.Test.YtcoilldcghamdaaD3
namespace Go.Proofs.Ytcoilldcghamdaa
open Go.RowKit
set_option linter.unusedVariables false
set_option linter.unnecessarySimpa false
/-- the next number as it is; how many are read then -/
def rawV (z : List Int) (m p : Nat) : Int := if p < m then z.getD p default else 0
def rawA (m p : Nat) : Nat := if p < m then p + 1 else p
def nV (z : List Int) (m p : Nat) (n : Int) : Int := if n < 1 then 0 else rawV z m p % n
def nA (m p : Nat) (n : Int) : Nat := if n < 1 then p else rawA m p
theorem tmod_facts (x n : Int) (h : 0 < n) : -n < x.tmod n ∧ x.tmod n < n ∧ (x.tmod n < 0 → x.tmod n + n = x % n) ∧ (0 ≤ x.tmod n → x.tmod n = x % n) := by
  have h1 := Int.emod_nonneg x (show n ≠ 0 by omega)
  have h2 := Int.emod_lt_of_pos x h
  rw [Int.tmod_eq_emod]
  split
  · omega
  · rename_i hh
    have h3 : x % n ≠ 0 := fun e => hh (.inr (Int.dvd_of_emod_eq_zero e))
    omega
/-- a reader -/
abbrev srcO (m p : Nat) : Ob := .blk 130 [.sl 1 0 1 m none, I p]
set_option maxRecDepth 10000 in
set_option maxHeartbeats 4000000 in
theorem raw1_any (z : List Int) (m p : Nat) (hm : m ≤ 1000) (hz : m ≤ z.length) (hp : p ≤ m) : CallOK Try.prog 60 [.ptr 0 0 0 0] [(0, .blk 130 [.sl 1 0 1 m none, I p]), (1, .ro 1 z.length (rowG encI z))] (I (rawV z m p)) [(0, some (.blk 130 [.sl 1 0 1 m none, I (rawA m p)]))] := by
  refine CallOK.intro Try.call60 Try.func60 rfl rfl ⟨rfl, rfl, rfl, fun _ => rfl, trivial⟩ ?_
  refine (Classical.em ((↑p : Int) ≥ (↑m : Int))).elim (fun hc1 => ?ga0) (fun hc1 => ?gb0)
  case' gb0 =>
    refine Safe.ends mixed Go.Proofs.Try.func60 11 [⟨1100, []⟩, ⟨1200, [(9, .tt false)]⟩, ⟨1300, []⟩, ⟨1400, []⟩] (r := I (z.getD ((↑p : Int) + (1 : Int) - (1 : Int)).toNat default)) (hp := [(0, .blk ((130 : Nat)) [.sl ((1 : Nat)) ((0 : Nat)) ((1 : Nat)) (m) (none), I ((↑p : Int) + (1 : Int))]), (1, .ro ((1 : Nat)) (z.length) (rowG encI z))]) (ob := [decide ((↑p : Int) ≥ (↑m : Int)) = false, inK IntKind.i64 ((↑p : Int) + (1 : Int)), inK IntKind.i64 ((↑p : Int) + (1 : Int) - (1 : Int)), (0 : Int) ≤ (↑p : Int) + (1 : Int) - (1 : Int) ∧ (↑p : Int) + (1 : Int) - (1 : Int) < (↑m : Int), ((↑p : Int) + (1 : Int) - (1 : Int)).toNat < z.length]) rfl (by kernel_rfl) ⟨(decide_eq_false hc1), (by simp only [inK]; omega), (by simp only [inK]; omega), (by omega), (by omega), trivial⟩ ?_ ⟨?_, ObLe.refl _, trivial⟩ ⟨rfl, rfl, rfl, fun _ => rfl, trivial⟩ rfl
  case' ga0 =>
    refine Safe.ends mixed Go.Proofs.Try.func60 8 [⟨1100, []⟩, ⟨1200, [(9, .tt true)]⟩, ⟨1300, []⟩] (r := I ((0 : Int))) (hp := [(0, .blk ((130 : Nat)) [.sl ((1 : Nat)) ((0 : Nat)) ((1 : Nat)) (m) (none), I ((↑p : Int))]), (1, .ro ((1 : Nat)) (z.length) (rowG encI z))]) (ob := [decide ((↑p : Int) ≥ (↑m : Int)) = true]) rfl (by kernel_rfl) ⟨(decide_eq_true hc1), trivial⟩ ?_ ⟨?_, ObLe.refl _, trivial⟩ ⟨rfl, rfl, rfl, fun _ => rfl, trivial⟩ rfl
  · show I _ = I _
    rw [rawV, if_neg (by omega)]
  · rw [rawA, if_neg (by omega)]; exact ObLe.refl _
  · show I _ = I _
    rw [rawV, if_pos (by omega), show ((p : Int) + 1 - 1).toNat = p by omega]
  · rw [rawA, if_pos (by omega)]; exact ObLe.refl _
set_option maxRecDepth 10000 in
set_option maxHeartbeats 4000000 in
theorem n_any (z : List Int) (m p : Nat) (n : Int) (hm : m ≤ 1000) (hz : m ≤ z.length) (hp : p ≤ m) (hn : n ≤ 1000000) : CallOK Try.prog 37 [.ptr 0 0 0 0, I n] [(0, .blk 130 [.sl 1 0 1 m none, I p]), (1, .ro 1 z.length (rowG encI z))] (I (nV z m p n)) [(0, some (.blk 130 [.sl 1 0 1 m none, I (nA m p n)]))] := by
  refine CallOK.intro Try.call37 Try.func37 rfl rfl ⟨rfl, rfl, rfl, fun _ => rfl, trivial⟩ ?_
  have h1 : ¬ n < 1 → _ := fun h => tmod_facts (rawV z m p) n (by omega)
  have h2 : ¬ n < 1 → nV z m p n = rawV z m p % n ∧ nA m p n = rawA m p := fun h => ⟨if_neg h, if_neg h⟩
  have h3 : n < 1 → nV z m p n = 0 ∧ nA m p n = p := fun h => ⟨if_pos h, if_pos h⟩
  refine (Classical.em (n < (1 : Int))).elim (fun hc1 => ?ga1) (fun hc1 => ?gb1)
  case' gb1 =>
    refine (Classical.em ((rawV z m p).tmod n < (0 : Int))).elim (fun hc2 => ?ga2) (fun hc2 => ?gb2)
    case' gb2 =>
      refine Safe.ends mixed Go.Proofs.Try.func37 16 [⟨1100, []⟩, ⟨1200, [(1, .tt false)]⟩, ⟨1300, [(1, .call [0, 1] (I (rawV z m p)) [(0, some (.blk ((130 : Nat)) [.sl ((1 : Nat)) ((0 : Nat)) ((1 : Nat)) (m) (none), I ((↑(rawA m p) : Int))]))]), (3, .wrap)]⟩, ⟨1400, [(1, .tt false)]⟩, ⟨1500, []⟩] (r := I ((rawV z m p).tmod n)) (hp := [(0, .blk ((130 : Nat)) [.sl ((1 : Nat)) ((0 : Nat)) ((1 : Nat)) (m) (none), I ((↑(rawA m p) : Int))]), (1, .ro ((1 : Nat)) (z.length) (rowG encI z))]) (ob := [decide (n < (1 : Int)) = false, CallOK Try.prog (60 : Nat) ([] ++ [AV.ptr (0 : Nat) (0 : Nat) (0 : Nat) (0 : Nat)] ++ []) [((0 : Nat), Ob.blk (130 : Nat) [AV.sl (1 : Nat) (0 : Nat) (1 : Nat) m none, AV.val (Value.int IntKind.i64 (↑p : Int))]), ((1 : Nat), Ob.ro (1 : Nat) z.length (rowG encI z))] (AV.val (Value.int IntKind.i64 (rawV z m p))) [((0 : Nat), some (Ob.blk (130 : Nat) [AV.sl (1 : Nat) (0 : Nat) (1 : Nat) m none, AV.val (Value.int IntKind.i64 (↑(rawA m p) : Int))]))], n ≠ (0 : Int), decide ((rawV z m p).tmod n < (0 : Int)) = false]) rfl (by kernel_rfl) ⟨(decide_eq_false hc1), (raw1_any (z) (m) (p) (by omega) (by omega) (by omega)), (by omega), (decide_eq_false hc2), trivial⟩ ?_ ⟨?_, ObLe.refl _, trivial⟩ ⟨rfl, rfl, rfl, fun _ => rfl, trivial⟩ rfl
    case' ga2 =>
      refine Safe.ends mixed Go.Proofs.Try.func37 16 [⟨1100, []⟩, ⟨1200, [(1, .tt false)]⟩, ⟨1300, [(1, .call [0, 1] (I (rawV z m p)) [(0, some (.blk ((130 : Nat)) [.sl ((1 : Nat)) ((0 : Nat)) ((1 : Nat)) (m) (none), I ((↑(rawA m p) : Int))]))]), (3, .wrap)]⟩, ⟨1400, [(1, .tt true)]⟩, ⟨1500, []⟩, ⟨1600, []⟩] (r := I ((rawV z m p).tmod n + n)) (hp := [(0, .blk ((130 : Nat)) [.sl ((1 : Nat)) ((0 : Nat)) ((1 : Nat)) (m) (none), I ((↑(rawA m p) : Int))]), (1, .ro ((1 : Nat)) (z.length) (rowG encI z))]) (ob := [decide (n < (1 : Int)) = false, CallOK Try.prog (60 : Nat) ([] ++ [AV.ptr (0 : Nat) (0 : Nat) (0 : Nat) (0 : Nat)] ++ []) [((0 : Nat), Ob.blk (130 : Nat) [AV.sl (1 : Nat) (0 : Nat) (1 : Nat) m none, AV.val (Value.int IntKind.i64 (↑p : Int))]), ((1 : Nat), Ob.ro (1 : Nat) z.length (rowG encI z))] (AV.val (Value.int IntKind.i64 (rawV z m p))) [((0 : Nat), some (Ob.blk (130 : Nat) [AV.sl (1 : Nat) (0 : Nat) (1 : Nat) m none, AV.val (Value.int IntKind.i64 (↑(rawA m p) : Int))]))], n ≠ (0 : Int), decide ((rawV z m p).tmod n < (0 : Int)) = true, inK IntKind.i64 ((rawV z m p).tmod n + n)]) rfl (by kernel_rfl) ⟨(decide_eq_false hc1), (raw1_any (z) (m) (p) (by omega) (by omega) (by omega)), (by omega), (decide_eq_true hc2), (by simp only [inK]; omega), trivial⟩ ?_ ⟨?_, ObLe.refl _, trivial⟩ ⟨rfl, rfl, rfl, fun _ => rfl, trivial⟩ rfl
  case' ga1 =>
    refine Safe.ends mixed Go.Proofs.Try.func37 8 [⟨1100, []⟩, ⟨1200, [(1, .tt true)]⟩, ⟨1300, []⟩] (r := I ((0 : Int))) (hp := [(0, .blk ((130 : Nat)) [.sl ((1 : Nat)) ((0 : Nat)) ((1 : Nat)) (m) (none), I ((↑p : Int))]), (1, .ro ((1 : Nat)) (z.length) (rowG encI z))]) (ob := [decide (n < (1 : Int)) = true]) rfl (by kernel_rfl) ⟨(decide_eq_true hc1), trivial⟩ ?_ ⟨?_, ObLe.refl _, trivial⟩ ⟨rfl, rfl, rfl, fun _ => rfl, trivial⟩ rfl
  · rw [(h3 hc1).1]; rfl
  · rw [(h3 hc1).2]; exact ObLe.refl _
  · rw [(h2 hc1).1, ← (h1 hc1).2.2.1 hc2]; rfl
  · rw [(h2 hc1).2]; exact ObLe.refl _
  · rw [(h2 hc1).1, ← (h1 hc1).2.2.2 (by omega)]; rfl
  · rw [(h2 hc1).2]; exact ObLe.refl _
theorem nV_bd (z : List Int) (m p : Nat) (n : Int) (h : 1 ≤ n) : 0 ≤ nV z m p n ∧ nV z m p n < n := by
  rw [nV, if_neg (by omega)]
  exact ⟨Int.emod_nonneg _ (by omega), Int.emod_lt_of_pos _ (by omega)⟩
theorem nA_bd (m p : Nat) (n : Int) (h : p ≤ m) : p ≤ nA m p n ∧ nA m p n ≤ m := by
  unfold nA rawA
  split
  · omega
  · split <;> omega
set_option maxRecDepth 10000 in
set_option maxHeartbeats 4000000 in
theorem range_any (z : List Int) (m p : Nat) (lo hi : Int) (hm : m ≤ 1000) (hz : m ≤ z.length) (hp : p ≤ m) (hl : -1000 ≤ lo ∧ lo ≤ 100000) (hh : lo ≤ hi ∧ hi ≤ 100000) : CallOK Try.prog 36 [.ptr 0 0 0 0, I lo, I hi] [(0, .blk 130 [.sl 1 0 1 m none, I p]), (1, .ro 1 z.length (rowG encI z))] (I (lo + nV z m p (hi - lo + 1))) [(0, some (.blk 130 [.sl 1 0 1 m none, I (nA m p (hi - lo + 1))]))] := by
  refine CallOK.intro Try.call36 Try.func36 rfl rfl ⟨rfl, rfl, rfl, fun _ => rfl, trivial⟩ ?_
  have h1 := nV_bd z m p (hi - lo + 1) (by omega)
  refine Safe.ends mixed Go.Proofs.Try.func36 4 [⟨1100, []⟩, ⟨1200, [(6, .call [0, 1] (I (nV z m p (hi - lo + (1 : Int)))) [(0, some (.blk ((130 : Nat)) [.sl ((1 : Nat)) ((0 : Nat)) ((1 : Nat)) (m) (none), I ((↑(nA m p (hi - lo + (1 : Int))) : Int))]))])]⟩] (r := I (lo + nV z m p (hi - lo + (1 : Int)))) (hp := [(0, .blk ((130 : Nat)) [.sl ((1 : Nat)) ((0 : Nat)) ((1 : Nat)) (m) (none), I ((↑(nA m p (hi - lo + (1 : Int))) : Int))]), (1, .ro ((1 : Nat)) (z.length) (rowG encI z))]) (ob := [inK IntKind.i64 (hi - lo), inK IntKind.i64 (hi - lo + (1 : Int)), CallOK Try.prog (37 : Nat) ([] ++ [AV.ptr (0 : Nat) (0 : Nat) (0 : Nat) (0 : Nat), AV.val (Value.int IntKind.i64 (hi - lo + (1 : Int)))] ++ []) [((0 : Nat), Ob.blk (130 : Nat) [AV.sl (1 : Nat) (0 : Nat) (1 : Nat) m none, AV.val (Value.int IntKind.i64 (↑p : Int))]), ((1 : Nat), Ob.ro (1 : Nat) z.length (rowG encI z))] (AV.val (Value.int IntKind.i64 (nV z m p (hi - lo + (1 : Int))))) [((0 : Nat), some (Ob.blk (130 : Nat) [AV.sl (1 : Nat) (0 : Nat) (1 : Nat) m none, AV.val (Value.int IntKind.i64 (↑(nA m p (hi - lo + (1 : Int))) : Int))]))], inK IntKind.i64 (lo + nV z m p (hi - lo + (1 : Int)))]) rfl (by kernel_rfl) ⟨(by simp only [inK]; omega), (by simp only [inK]; omega), (n_any (z) (m) (p) (hi - lo + (1 : Int)) (by omega) (by omega) (by omega) (by omega)), (by simp only [inK]; omega), trivial⟩ rfl ⟨ObLe.refl _, ObLe.refl _, trivial⟩ ⟨rfl, rfl, rfl, fun _ => rfl, trivial⟩ rfl
set_option maxRecDepth 10000 in
set_option maxHeartbeats 4000000 in
theorem new_any (z : List Int) (hz : z.length ≤ 9223372036854775807) : CallOK Try.prog 35 [.sl 1 0 1 z.length none] [(1, .ro 1 z.length (rowG encI z))] (.ptr 10 0 0 0) [(10, some (.blk 130 [.sl 1 0 1 (min 1000 z.length) none, I 0]))] := by
  refine CallOK.intro Try.call35 Try.func35 rfl rfl ⟨rfl, fun _ => rfl, trivial⟩ ?_
  refine (Classical.em ((↑z.length : Int) > (1000 : Int))).elim (fun hc1 => ?ga3) (fun hc1 => ?gb3)
  case' gb3 =>
    refine Safe.gotoE mixed 9 [⟨1100, []⟩, ⟨1200, [(2, .tt false)]⟩, ⟨1300, []⟩] [2] [1, 1302] (sl := slotsOf 11 [(2, .ptr ((1302 : Nat)) ((0 : Nat)) ((0 : Nat)) ((0 : Nat)))]) (hp := [(1, .ro ((1 : Nat)) (z.length) (rowG encI z)), (1302, .blk ((130 : Nat)) [.sl ((1 : Nat)) ((0 : Nat)) ((1 : Nat)) (z.length) (none), I ((0 : Int))])]) (ob := [decide ((↑z.length : Int) > (1000 : Int)) = false]) rfl rfl (by kernel_rfl) ⟨(decide_eq_false hc1), trivial⟩ rfl ⟨rfl, fun _ => rfl, rfl, rfl, trivial⟩ fun td htd => ?_
    refine Safe.ren [(1302, 10)] rfl rfl rfl rfl ⟨rfl, fun _ => rfl, rfl, rfl, trivial⟩ ?_
    refine Safe.endsT Go.Proofs.Try.func35 htd (r := .ptr ((10 : Nat)) ((0 : Nat)) ((0 : Nat)) ((0 : Nat))) (hp := [(1, .ro ((1 : Nat)) (z.length) (fun q => renL [((1302 : Nat), (10 : Nat))] (rowG encI z q))), (10, .blk ((130 : Nat)) [.sl ((1 : Nat)) ((0 : Nat)) ((1 : Nat)) (z.length) (none), I ((0 : Int))])]) (ob := []) rfl (by kernel_rfl) trivial rfl ⟨⟨rfl, rfl, fun _ _ => rfl⟩, ?_, trivial⟩ ⟨rfl, fun _ => rfl, rfl, rfl, trivial⟩ rfl
  case' ga3 =>
    refine Safe.gotoE mixed 9 [⟨1100, []⟩, ⟨1200, [(2, .tt true)]⟩, ⟨1300, []⟩, ⟨1400, []⟩] [2] [1, 1402] (sl := slotsOf 11 [(2, .ptr ((1402 : Nat)) ((0 : Nat)) ((0 : Nat)) ((0 : Nat)))]) (hp := [(1, .ro ((1 : Nat)) (z.length) (rowG encI z)), (1402, .blk ((130 : Nat)) [.sl ((1 : Nat)) ((0 : Nat)) ((1 : Nat)) ((1000 : Nat)) (none), I ((0 : Int))])]) (ob := [decide ((↑z.length : Int) > (1000 : Int)) = true, (0 : Int) ≤ (1000 : Int) ∧ (1000 : Int) ≤ (↑z.length : Int)]) rfl rfl (by kernel_rfl) ⟨(decide_eq_true hc1), (by omega), trivial⟩ rfl ⟨rfl, fun _ => rfl, rfl, rfl, trivial⟩ fun td htd => ?_
    refine Safe.ren [(1402, 10)] rfl rfl rfl rfl ⟨rfl, fun _ => rfl, rfl, rfl, trivial⟩ ?_
    refine Safe.endsT Go.Proofs.Try.func35 htd (r := .ptr ((10 : Nat)) ((0 : Nat)) ((0 : Nat)) ((0 : Nat))) (hp := [(1, .ro ((1 : Nat)) (z.length) (fun q => renL [((1402 : Nat), (10 : Nat))] (rowG encI z q))), (10, .blk ((130 : Nat)) [.sl ((1 : Nat)) ((0 : Nat)) ((1 : Nat)) ((1000 : Nat)) (none), I ((0 : Int))])]) (ob := []) rfl (by kernel_rfl) trivial rfl ⟨⟨rfl, rfl, fun _ _ => rfl⟩, ?_, trivial⟩ ⟨rfl, fun _ => rfl, rfl, rfl, trivial⟩ rfl
  · rw [show min 1000 z.length = 1000 by omega]; exact ObLe.refl _
  · rw [show min 1000 z.length = z.length by omega]; exact ObLe.refl _
end Go.Proofs.Ytcoilldcghamdaa
