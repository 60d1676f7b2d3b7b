/- Length, Text and Words of layer 2 and of the reference: the words of a text. No conditions but those of each theorem. -/
import Derived.Test.YtflmfjfeeajkfaaRows
import Derived.WalkKit
import Derived.ProofKit
import Derived.OpenShut
import Derived.LoopTactic
import Derived.Outline
import Derived.Below
import Derived.WalkLawsBesides
import Derived.WalkSpells
import Derived.Deep.QuietTactic
import Derived.BigQuiet
import Derived.Laws.BitsAllLaws
import Derived.Laws.OwnMore
import Derived.Laws.AppendOwn
import Derived.OwnWalk
import Derived.Lib.SmallJoins
import Derived.StillTailTactics
namespace Go.Proofs.Ytflmfjfeeajkfaa
open Go.ChangeShapes Go.WideShapes Go.ChangeAt Go.RowKit
set_option linter.unusedVariables false

theorem hid {p : Prop} (h : p) : Hid p := h
theorem bt {W a b : World} (h : Below W.heap.size W a) (k : Below a.heap.size a b) : Below W.heap.size W b := h.trans (k.mono h.size)
theorem info_parts {o : Option TypeInfo} {z : Option Value} {s b : Nat} (h : o.map (fun i => (i.zero, i.size, i.bytes)) = some (z, s, b)) : ∃ i, o = some i ∧ i.zero = z ∧ i.size = s ∧ i.bytes = b := by
  cases o with
  | none => simp at h
  | some i => simp at h; exact ⟨i, rfl, h.1, h.2.1, h.2.2⟩
theorem Try.info32 : (Try.prog.info? 32).map (fun i => (i.zero, i.size, i.bytes)) = some (some (.int .u64 0), 1, 8) := by kernel_rfl
theorem own_kept {w w' : World} {base : Nat} {e : TypeId} {size : Nat} {v : Value} {n : Nat} {xs : List Value} (h : w.ownsRow base e size v n xs) (hb : Below w.heap.size w w') : w'.ownsRow base e size v n xs := by
  refine ⟨h.1, h.2.imp id fun ⟨g, cap, cur, hv, hg, hh, rest⟩ => ⟨g, cap, cur, hv, hg, ?_, rest⟩⟩
  rw [hb.block g (Array.getElem?_eq_some_iff.1 hh).1]; exact hh
theorem own_base {w : World} {base : Nat} {e : TypeId} {size : Nat} {v : Value} {n : Nat} {xs : List Value} (h : w.ownsRow base e size v n xs) : ∀ k, v.ownBlock = some k → base ≤ k := by
  intro k hk
  rcases h.2 with ⟨rfl, _⟩ | ⟨g, cap, cur, rfl, hg, _⟩
  · simp [Value.ownBlock] at hk
  · simp [Value.ownBlock] at hk; omega

/-- the number of words of a text of n bytes -/
def ln (n : Nat) : Nat := 1 + n / 8 + (n % 8 + 7) / 8
theorem length_nat (n : Nat) (hn : n ≤ 9223372036854775000) (w : World) :
    Calls Try.prog 13 #[.int .i64 (n : Int)] w fun e w' => e = .returned (.int .i64 (ln n : Nat)) ∧ w = w' := by
  have e1 := hid (show (1 + (n : Int) / 8 + ((n : Int) % 8 + 8 - 1) / 8) = (ln n : Nat) by unfold ln; omega)
  go_enter Try.func13, Try.ntmps13
  go_wp2
  go_ret
  exact ⟨by rw [← e1.out]; rfl, rfl⟩
theorem rlength_nat (n : Nat) (hn : n ≤ 9223372036854775000) (w : World) :
    Calls Try.prog 14 #[.int .i64 (n : Int)] w fun e w' => e = .returned (.int .i64 (ln n : Nat)) ∧ w = w' := by
  by_cases h : (n : Int) % 8 ≤ 1
  · have e1 := hid (show (1 + (n : Int) / 8 + (n : Int) % 8) = (ln n : Nat) by unfold ln; omega)
    go_enter Try.func14, Try.ntmps14
    go_wp2
    go_ret
    exact ⟨by rw [← e1.out]; rfl, rfl⟩
  · have h' : 1 < (n : Int) % 8 := by omega
    have e1 := hid (show (1 + (n : Int) / 8 + 1) = (ln n : Nat) by unfold ln; omega)
    go_enter Try.func14, Try.ntmps14
    go_wp2
    go_ret
    exact ⟨by rw [← e1.out]; rfl, rfl⟩
theorem length_neg (n : Int) (hn : n < 0) (w : World) : Calls Try.prog 13 #[.int .i64 n] w fun e w' => e = .returned (.int .i64 0) ∧ w = w' := by
  go_enter Try.func13, Try.ntmps13
  go_wp2
  go_ret
  exact ⟨rfl, rfl⟩
theorem rlength_neg (n : Int) (hn : n < 0) (w : World) : Calls Try.prog 14 #[.int .i64 n] w fun e w' => e = .returned (.int .i64 0) ∧ w = w' := by
  go_enter Try.func14, Try.ntmps14
  go_wp2
  go_ret
  exact ⟨rfl, rfl⟩

/-- a row of words -/
def rowu (k : Nat) (f : Nat → Nat) : List Value := (List.range k).map fun j => Value.int .u64 (f j : Nat)
theorem rowu_at (k : Nat) (f : Nat → Nat) (j : Nat) (hj : j < k) : (rowu k f)[j]? = some (.int .u64 (f j : Nat)) := by simp [rowu, hj]
theorem rowu_zero (k : Nat) (f : Nat → Nat) (h : ∀ j, j < k → f j = 0) : (madeCells (Value.int .u64 0).cells (k * 1)).toList = rowu k f := by
  rw [show (Value.int .u64 0).cells = #[Value.int .u64 0] from rfl, toList_madeCells_one]
  apply List.ext_getElem?
  intro j
  by_cases hj : j < k
  · rw [rowu_at _ _ _ hj, h j hj]; simp [hj]
  · simp [rowu, hj]
theorem rowu_set (k : Nat) (f g : Nat → Nat) (L x : Nat) (h : ∀ j, j < k → g j = if j = L then x else f j) : (rowu k f).set L (.int .u64 (x : Int)) = rowu k g := by
  apply List.ext_getElem?
  intro j
  rw [List.getElem?_set]
  by_cases hj : j < k
  · rw [rowu_at _ _ _ hj, rowu_at _ _ _ hj, h j hj]
    by_cases e : L = j
    · subst e; simp [hj, rowu]
    · rw [if_neg e, if_neg (fun h => e h.symm)]
  · have e1 : (rowu k f)[j]? = none := by rw [List.getElem?_eq_none_iff]; simp [rowu]; omega
    have e2 : (rowu k g)[j]? = none := by rw [List.getElem?_eq_none_iff]; simp [rowu]; omega
    have e3 : (rowu k f).length = k := by simp [rowu]
    rw [e1, e2]
    split
    · rw [if_neg (by omega)]
    · rfl
theorem own_at {w : World} {base g cap n k : Nat} {f : Nat → Nat} (h : w.ownsRow base 32 1 (.slice (some ⟨g, 0, none⟩) n cap) n (rowu k f)) (j : Nat) (hj : j < n) (hn : n = k) : w.cell? ⟨g, j, none⟩ = some (.int .u64 (f j : Nat)) := by
  rw [h.cellAt j (by omega), rowu_at _ _ _ (by omega)]

/-- the bytes of a string -/
def byt (s : ByteArray) (i : Nat) : Nat := if h : i < s.size then s[i].toNat else 0
theorem byt_lt (s : ByteArray) (i : Nat) : byt s i < 256 := by
  unfold byt
  split
  · exact UInt8.toNat_lt _
  · omega
theorem or_byte (x b r : Nat) (hx : x < 2 ^ 64) (hb : b < 256) (hr : r < 8) : bits .or .u64 (x : Int) (IntKind.u64.wrap ((b : Int) * 2 ^ (8 * r))) = ((x ||| (b <<< (8 * r)) : Nat) : Int) := by
  have h1 : b <<< (8 * r) < 2 ^ 8 * 2 ^ (8 * r) := by rw [Nat.shiftLeft_eq]; exact Nat.mul_lt_mul_of_pos_right hb (Nat.two_pow_pos _)
  rw [← Nat.pow_add] at h1
  have h2 : b <<< (8 * r) < 2 ^ 64 := Nat.lt_of_lt_of_le h1 (Nat.pow_le_pow_right (by omega) (by omega))
  have e : (b : Int) * 2 ^ (8 * r) = ((b <<< (8 * r) : Nat) : Int) := by rw [Nat.shiftLeft_eq, Int.natCast_mul, Int.natCast_pow]; rfl
  rw [e]
  generalize b <<< (8 * r) = y at h2
  have e2 : IntKind.u64.wrap (y : Int) = (y : Int) := by simp [IntKind.wrap, IntKind.bits, IntKind.signed]; omega
  rw [e2, u64_or_nat _ _ hx h2]
/-- word j of the words of n bytes, behind the first k of them -/
def tw (b : Nat → Nat) (n : Nat) : Nat → Nat → Nat
  | 0, j => if j = 0 then n else 0
  | k + 1, j => if j = 1 + k / 8 then tw b n k j ||| (b k <<< (8 * (k % 8))) else tw b n k j
theorem tw_lt (b : Nat → Nat) (hb : ∀ i, b i < 256) (n : Nat) (hn : n < 2 ^ 64) (k j : Nat) : tw b n k j < 2 ^ 64 := by
  induction k with
  | zero => unfold tw; split <;> omega
  | succ k ih =>
    unfold tw
    split
    · refine Nat.or_lt_two_pow ih ?_
      have h1 : b k <<< (8 * (k % 8)) < 2 ^ 8 * 2 ^ (8 * (k % 8)) := by rw [Nat.shiftLeft_eq]; exact Nat.mul_lt_mul_of_pos_right (hb k) (Nat.two_pow_pos _)
      rw [← Nat.pow_add] at h1
      exact Nat.lt_of_lt_of_le h1 (Nat.pow_le_pow_right (by omega) (by omega))
    · exact ih

theorem text_ok (s : ByteArray) (hs : s.size ≤ 8192) (w : World) :
    Calls Try.prog 10 #[.string s] w fun e w' => ∃ g cap, e = .returned (.tuple #[.slice (some ⟨g, 0, none⟩) (ln s.size) cap, .int .i64 0]) ∧ Hid (w'.ownsRow w.heap.size 32 1 (.slice (some ⟨g, 0, none⟩) (ln s.size) cap) (ln s.size) (rowu (ln s.size) (tw (byt s) s.size s.size))) ∧ Below w.heap.size w w' := by
  obtain ⟨i0, hi, hz0, hz1, hz2⟩ := info_parts Try.info32
  have HI := hid hi; have HZ0 := hid hz0; have HZ1 := hid hz1; have HZ2 := hid hz2
  have hl : ln s.size ≤ 2000 := by unfold ln; omega
  have hl1 : 1 ≤ ln s.size := by unfold ln; omega
  have M1 := hid (show i0.bytes * ln s.size ≤ 281474976710656 by rw [hz2]; omega)
  have M2 := hid (show ln s.size ≤ maxLen by unfold maxLen; omega)
  have Z1 := hid (rowu_zero (ln s.size) (fun _ => 0) (fun _ _ => rfl))
  have Z2 := hid (rowu_set (ln s.size) (fun _ => 0) (tw (byt s) s.size 0) 0 s.size (fun j _ => rfl))
  have hs2 : (s.size : Int) ≤ 8192 := by omega
  have HLN := hid (length_nat s.size (by omega))
  have HL := hid (show ∀ k, k < s.size → 1 + k / 8 < ln s.size from fun k hk => by unfold ln; omega)
  clear hi hz0 hz1 hz2
  generalize ln s.size = N at *
  go_enter Try.func10, Try.ntmps10
  go_wp2_with fail
  refine (HLN.out _).mono ?_
  rintro e w1 ⟨rfl, rfl⟩
  go_wp2_with (first | (refine wpList_make_full _ rfl _ _ 23 rfl w.heap.size 32 i0 (.int .u64 0) 1 Try.underlying23 HI.out HZ0.out HZ1.out .i64 .i64 (N : Int) (N : Int) N rfl rfl rfl rfl M1.out M2.out (Nat.le_refl _) ?_; intro w3 hown3 hgrow3; rw [Z1.out] at hown3; have s1 := hown3.frozenAt 0; have s2 := own_at hown3 0 hl1 rfl))
  have HD := hid (hown3.stored 0 (.int .u64 (s.size : Int))).1
  rw [Z2.out] at HD
  have hb3 := hid (((Below.refl w.heap.size w).grown hgrow3 (Nat.le_refl _) (fun k e => by cases e)).setCell (p := ⟨w.heap.size, 0, none⟩) (Nat.le_refl _) (.int .u64 (s.size : Int)))
  clear hown3 hgrow3 s1 s2
  go_loopw [20] (fun iv wr => ∃ k : Nat, k ≤ s.size ∧ iv = .int .i64 (k : Int) ∧ Hid (wr.ownsRow w.heap.size 32 1 (.slice (some ⟨w.heap.size, 0, none⟩) N N) N (rowu N (tw (byt s) s.size k))) ∧ Hid (Below w.heap.size w wr)) (fun iv _ => s.size - (intOf iv).toNat)
  case atStart => exact ⟨0, by omega, rfl, HD, hb3⟩
  case round =>
    obtain ⟨k, hk, rfl, HD, HB⟩ := hrel
    by_cases hlt : k < s.size
    · have hlt2 : (k : Int) < (s.size : Int) := by omega
      have hq := HL.out k hlt
      have HT := hid (show ∀ j, tw (byt s) s.size (k + 1) j = if j = 1 + k / 8 then tw (byt s) s.size k j ||| (byt s k <<< (8 * (k % 8))) else tw (byt s) s.size k j from fun j => rfl)
      obtain ⟨q, hq1⟩ : ∃ q, q = k / 8 := ⟨_, rfl⟩
      obtain ⟨r, hr1⟩ : ∃ r, r = k % 8 := ⟨_, rfl⟩
      rw [← hq1] at hq
      rw [← hq1, ← hr1] at HT
      have q2 : (k : Int) / 8 = (q : Int) := by omega
      have r2 : (k : Int) % 8 = (r : Int) := by omega
      have r3 : r < 8 := by omega
      have q3 : 1 + (q : Int) < (N : Int) := by omega
      have q4 : 0 ≤ 1 + (q : Int) := by omega
      have q5 : (1 + (q : Int)).toNat = 1 + q := by omega
      have r4 : 0 ≤ 8 * (r : Int) := by omega
      have r5 : (8 * (r : Int)).toNat = 8 * r := by omega
      have w1 : IntKind.i64.wrap (q : Int) = (q : Int) := IntWalk.i64_in _ (by omega)
      have w2 : IntKind.i64.wrap (1 + (q : Int)) = 1 + (q : Int) := IntWalk.i64_in _ (by omega)
      have w3 : IntKind.i64.wrap (r : Int) = (r : Int) := IntWalk.i64_in _ (by omega)
      have w4 : IntKind.i64.wrap (8 * (r : Int)) = 8 * (r : Int) := IntWalk.i64_in _ (by omega)
      have w5 : (k : Int).tmod 8 = (r : Int) := by rw [Int.tmod_eq_emod_of_nonneg (by omega)]; exact r2
      have w6 : IntKind.u64.wrap ((s[k].toNat : Nat) : Int) = (byt s k : Int) := by
        have h1 := UInt8.toNat_lt s[k]
        unfold byt
        rw [dif_pos hlt]
        generalize s[k].toNat = y at h1
        simp [IntKind.wrap, IntKind.bits, IntKind.signed]; omega
      have w7 := or_byte (tw (byt s) s.size k (1 + q)) (byt s k) r (tw_lt _ (byt_lt s) _ (by omega) _ _) (byt_lt s k) r3
      have t1 := own_at HD.out (1 + q) hq rfl
      have t2 := HD.out.frozenAt (1 + q)
      clear hq1 hr1
      go_wp2_with fail
      go_still_tail 16, (by kernel_rfl)
      repeat still_step
      change wpList _ _ _ _ _ wr.drew
      have t3 : wr.drew.cell? ⟨w.heap.size, 1 + q, none⟩ = some (.int .u64 (tw (byt s) s.size k (1 + q) : Nat)) := t1
      have t4 : wr.drew.frozen? ⟨w.heap.size, 1 + q, none⟩ = false := t2
      have HN := hid (rowu_set N (tw (byt s) s.size k) (tw (byt s) s.size (k + 1)) (1 + q) (tw (byt s) s.size k (1 + q) ||| (byt s k <<< (8 * r))) (fun j _ => by
        rw [HT.out j]
        by_cases e : j = 1 + q
        · rw [if_pos e, if_pos e, e]
        · rw [if_neg e, if_neg e]))
      have HD2 := hid (HD.out.drew.stored (1 + q) (.int .u64 ((tw (byt s) s.size k (1 + q) ||| (byt s k <<< (8 * r)) : Nat) : Int))).1
      rw [HN.out] at HD2
      have HB2 := hid (HB.out.drew.setCell (p := ⟨w.heap.size, 1 + q, none⟩) (Nat.le_refl _) (.int .u64 ((tw (byt s) s.size k (1 + q) ||| (byt s k <<< (8 * r)) : Nat) : Int)))
      generalize tw (byt s) s.size k (1 + q) ||| (byt s k <<< (8 * r)) = x at HD2 HB2 ⊢
      clear t1 t2 HD HB HN HT w6 w7
      generalize wr.drew = w5 at *
      go_wp2_with fail
      go_roundw
      case rel => exact ⟨k + 1, by omega, by go_num, HD2, HB2⟩
      case measure => simp [intOf]; omega
    · obtain rfl : k = s.size := by omega
      have hlt2 : ¬ (s.size : Int) < (s.size : Int) := by omega
      go_wp2_with fail
      go_ret2
      exact ⟨_, _, rfl, HD, HB.out⟩

theorem rwords_ok (s : ByteArray) (hs : s.size ≤ 100000) (w : World) :
    Calls Try.prog 16 #[.string s] w fun e w' => ∃ g cap, e = .returned (.slice (some ⟨g, 0, none⟩) (ln s.size) cap) ∧ Hid (w'.ownsRow w.heap.size 32 1 (.slice (some ⟨g, 0, none⟩) (ln s.size) cap) (ln s.size) (rowu (ln s.size) (tw (byt s) s.size s.size))) ∧ Below w.heap.size w w' := by
  obtain ⟨i0, hi, hz0, hz1, hz2⟩ := info_parts Try.info32
  have HI := hid hi; have HZ0 := hid hz0; have HZ1 := hid hz1; have HZ2 := hid hz2
  have hl : ln s.size ≤ 20000 := by unfold ln; omega
  have hl1 : 1 ≤ ln s.size := by unfold ln; omega
  have M1 := hid (show i0.bytes * ln s.size ≤ 281474976710656 by rw [hz2]; omega)
  have M2 := hid (show ln s.size ≤ maxLen by unfold maxLen; omega)
  have Z1 := hid (rowu_zero (ln s.size) (fun _ => 0) (fun _ _ => rfl))
  have Z2 := hid (rowu_set (ln s.size) (fun _ => 0) (tw (byt s) s.size 0) 0 s.size (fun j _ => rfl))
  have hs2 : (s.size : Int) ≤ 100000 := by omega
  have HLN := hid (rlength_nat s.size (by omega))
  have HL := hid (show ∀ k, k < s.size → 1 + k / 8 < ln s.size from fun k hk => by unfold ln; omega)
  clear hi hz0 hz1 hz2
  generalize ln s.size = N at *
  go_enter Try.func16, Try.ntmps16
  go_wp2_with fail
  refine (HLN.out _).mono ?_
  rintro e w1 ⟨rfl, rfl⟩
  go_wp2_with (first | (refine wpList_make_full _ rfl _ _ 23 rfl w.heap.size 32 i0 (.int .u64 0) 1 Try.underlying23 HI.out HZ0.out HZ1.out .i64 .i64 (N : Int) (N : Int) N rfl rfl rfl rfl M1.out M2.out (Nat.le_refl _) ?_; intro w3 hown3 hgrow3; rw [Z1.out] at hown3; have s1 := hown3.frozenAt 0; have s2 := own_at hown3 0 hl1 rfl))
  have HD := hid (hown3.stored 0 (.int .u64 (s.size : Int))).1
  rw [Z2.out] at HD
  have hb3 := hid (((Below.refl w.heap.size w).grown hgrow3 (Nat.le_refl _) (fun k e => by cases e)).setCell (p := ⟨w.heap.size, 0, none⟩) (Nat.le_refl _) (.int .u64 (s.size : Int)))
  clear hown3 hgrow3 s1 s2
  go_loopw [4] (fun iv wr => ∃ k : Nat, k ≤ s.size ∧ iv = .int .i64 (k : Int) ∧ Hid (wr.ownsRow w.heap.size 32 1 (.slice (some ⟨w.heap.size, 0, none⟩) N N) N (rowu N (tw (byt s) s.size k))) ∧ Hid (Below w.heap.size w wr)) (fun iv _ => s.size - (intOf iv).toNat)
  case atStart => exact ⟨0, by omega, rfl, HD, hb3⟩
  case round =>
    obtain ⟨k, hk, rfl, HD, HB⟩ := hrel
    by_cases hlt : k < s.size
    · have hlt2 : (k : Int) < (s.size : Int) := by omega
      have hq := HL.out k hlt
      have HT := hid (show ∀ j, tw (byt s) s.size (k + 1) j = if j = 1 + k / 8 then tw (byt s) s.size k j ||| (byt s k <<< (8 * (k % 8))) else tw (byt s) s.size k j from fun j => rfl)
      obtain ⟨q, hq1⟩ : ∃ q, q = k / 8 := ⟨_, rfl⟩
      obtain ⟨r, hr1⟩ : ∃ r, r = k % 8 := ⟨_, rfl⟩
      rw [← hq1] at hq
      rw [← hq1, ← hr1] at HT
      have q2 : (k : Int) / 8 = (q : Int) := by omega
      have r2 : (k : Int) % 8 = (r : Int) := by omega
      have r3 : r < 8 := by omega
      have q3 : 1 + (q : Int) < (N : Int) := by omega
      have q4 : 0 ≤ 1 + (q : Int) := by omega
      have q5 : (1 + (q : Int)).toNat = 1 + q := by omega
      have r4 : 0 ≤ 8 * (r : Int) := by omega
      have r5 : (8 * (r : Int)).toNat = 8 * r := by omega
      have w1 : IntKind.i64.wrap (q : Int) = (q : Int) := IntWalk.i64_in _ (by omega)
      have w2 : IntKind.i64.wrap (1 + (q : Int)) = 1 + (q : Int) := IntWalk.i64_in _ (by omega)
      have w3 : IntKind.i64.wrap (r : Int) = (r : Int) := IntWalk.i64_in _ (by omega)
      have w4 : IntKind.i64.wrap (8 * (r : Int)) = 8 * (r : Int) := IntWalk.i64_in _ (by omega)
      have w5 : (k : Int).tmod 8 = (r : Int) := by rw [Int.tmod_eq_emod_of_nonneg (by omega)]; exact r2
      have w6 : IntKind.u64.wrap ((s[k].toNat : Nat) : Int) = (byt s k : Int) := by
        have h1 := UInt8.toNat_lt s[k]
        unfold byt
        rw [dif_pos hlt]
        generalize s[k].toNat = y at h1
        simp [IntKind.wrap, IntKind.bits, IntKind.signed]; omega
      have w7 := or_byte (tw (byt s) s.size k (1 + q)) (byt s k) r (tw_lt _ (byt_lt s) _ (by omega) _ _) (byt_lt s k) r3
      have t1 := own_at HD.out (1 + q) hq rfl
      have t2 := HD.out.frozenAt (1 + q)
      clear hq1 hr1
      go_wp2_with fail
      go_still_tail 16, (by kernel_rfl)
      repeat still_step
      change wpList _ _ _ _ _ wr.drew
      have t3 : wr.drew.cell? ⟨w.heap.size, 1 + q, none⟩ = some (.int .u64 (tw (byt s) s.size k (1 + q) : Nat)) := t1
      have t4 : wr.drew.frozen? ⟨w.heap.size, 1 + q, none⟩ = false := t2
      have HN := hid (rowu_set N (tw (byt s) s.size k) (tw (byt s) s.size (k + 1)) (1 + q) (tw (byt s) s.size k (1 + q) ||| (byt s k <<< (8 * r))) (fun j _ => by
        rw [HT.out j]
        by_cases e : j = 1 + q
        · rw [if_pos e, if_pos e, e]
        · rw [if_neg e, if_neg e]))
      have HD2 := hid (HD.out.drew.stored (1 + q) (.int .u64 ((tw (byt s) s.size k (1 + q) ||| (byt s k <<< (8 * r)) : Nat) : Int))).1
      rw [HN.out] at HD2
      have HB2 := hid (HB.out.drew.setCell (p := ⟨w.heap.size, 1 + q, none⟩) (Nat.le_refl _) (.int .u64 ((tw (byt s) s.size k (1 + q) ||| (byt s k <<< (8 * r)) : Nat) : Int)))
      generalize tw (byt s) s.size k (1 + q) ||| (byt s k <<< (8 * r)) = x at HD2 HB2 ⊢
      clear t1 t2 HD HB HN HT w6 w7
      generalize wr.drew = w5 at *
      go_wp2_with fail
      go_roundw
      case rel => exact ⟨k + 1, by omega, by go_num, HD2, HB2⟩
      case measure => simp [intOf]; omega
    · obtain rfl : k = s.size := by omega
      have hlt2 : ¬ (s.size : Int) < (s.size : Int) := by omega
      go_wp2_with fail
      go_ret
      exact ⟨_, _, rfl, HD, HB.out⟩

theorem text_no (s : ByteArray) (hs : 8192 < s.size) (w : World) : Calls Try.prog 10 #[.string s] w fun e w' => e = .returned (.tuple #[.slice none 0 0, .int .i64 4]) ∧ w = w' := by
  have hs2 : 8192 < (s.size : Int) := by omega
  go_enter Try.func10, Try.ntmps10
  go_wp2_with fail
  go_ret2
  exact ⟨rfl, rfl⟩
theorem rtext_no (s : ByteArray) (hs : 8192 < s.size) (w : World) : Calls Try.prog 11 #[.string s] w fun e w' => e = .returned (.tuple #[.slice none 0 0, .int .i64 4]) ∧ w = w' := by
  have hs2 : 8192 < (s.size : Int) := by omega
  go_enter Try.func11, Try.ntmps11
  go_wp2_with fail
  go_ret2
  exact ⟨rfl, rfl⟩
theorem rtext_ok (s : ByteArray) (hs : s.size ≤ 8192) (w : World) :
    Calls Try.prog 11 #[.string s] w fun e w' => ∃ g cap, e = .returned (.tuple #[.slice (some ⟨g, 0, none⟩) (ln s.size) cap, .int .i64 0]) ∧ Hid (w'.ownsRow w.heap.size 32 1 (.slice (some ⟨g, 0, none⟩) (ln s.size) cap) (ln s.size) (rowu (ln s.size) (tw (byt s) s.size s.size))) ∧ Below w.heap.size w w' := by
  have hs2 : ¬ 8192 < (s.size : Int) := by omega
  go_enter Try.func11, Try.ntmps11
  go_wp2_with fail
  refine (rwords_ok s (by omega) _).mono ?_
  rintro e w1 ⟨g, cap, rfl, HD, HB⟩
  go_wp2_with fail
  go_ret2
  exact ⟨_, _, rfl, HD, HB⟩
end Go.Proofs.Ytflmfjfeeajkfaa
