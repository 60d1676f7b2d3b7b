/- What the law needs, one text behind the other. No conditions but those of each theorem. -/
import Derived.Test.YtbgbjgedjmhcaaaRows
import Derived.WalkKit
import Derived.ProofKit
import Derived.OpenShut
import Derived.LoopTactic
import Derived.Outline
import Derived.Below
import Derived.WalkLawsBesides
import Derived.Laws.Rows
import Derived.Laws.Tables
import Derived.Laws.BitsAllLaws
import Derived.Lib.SlBytesConst
import Derived.RangeFuncBox
import Derived.RangeFuncLeaves
import Derived.RangeFuncFrom
import Derived.RangeFuncWrites
import Derived.Shelf.Abstract
import Derived.Shelf.RegionOpen
import Derived.OwnWalkIn
import Derived.TacticsInMore
import Derived.LoopNIn
import Derived.LoopIn
import Derived.RangeFuncCalls
import Derived.KernelRfl
import Derived.Test.YtbgbjgedjmhcaaaProg
import Derived.Test.YtbgbjgedjmhcaaaKDc
set_option linter.unnecessarySimpa false
set_option linter.unusedSimpArgs false
set_option linter.unusedVariables false
set_option maxHeartbeats 16000000
set_option maxRecDepth 10000
namespace Go.Proofs.Ytbgbjgedjmhcaaa.OldA
open Go.ChangeShapes Go.WideShapes Go.ChangeAt Go.RowKit
theorem hid {p : Prop} (h : p) : Hid p := h
def sh (r : Nat) : Nat := if r % 2 = 1 then (r / 2) ^^^ 2197175160 else r / 2
theorem sh_lt (r : Nat) (h : r < 4294967296) : sh r < 4294967296 := by
  unfold sh
  split
  · have : r / 2 ^^^ 2197175160 < 2 ^ 32 := Nat.xor_lt_two_pow (by omega) (by omega)
    omega
  · omega
theorem and1 (r : Nat) (h : r < 4294967296) : bits .and .u32 (r : Int) 1 = ((r % 2 : Nat) : Int) := by
  rw [show (1 : Int) = ((1 : Nat) : Int) from rfl, u32_and_nat r 1 h (by omega), Nat.and_one_is_mod]
theorem shift_any (r : Nat) (h : r < 4294967296) (w : World) :
    Calls Try.prog 131 #[.int .u32 (r : Int)] w fun e w' => e = .returned (.int .u32 (sh r : Nat)) ∧ w = w' := by
  have e1 := and1 r h
  by_cases hr : r % 2 = 1
  · have H := hid (show bits .xor .u32 ((r : Int) / 2) 2197175160 = (sh r : Nat) by
      rw [sh, if_pos hr, show (2197175160 : Int) = ((2197175160 : Nat) : Int) from rfl, show ((r : Int) / 2) = ((r / 2 : Nat) : Int) by omega, u32_xor_nat _ _ (by omega) (by omega)])
    have t : (bits .and .u32 (r : Int) 1 == 1) = true := by rw [e1, hr]; rfl
    clear e1
    go_enter Try.func131, Try.ntmps131
    go_wp2
    go_ret
    exact ⟨by rw [← H.out]; rfl, rfl⟩
  · have H := hid (show ((r : Int) / 2) = (sh r : Nat) by rw [sh, if_neg hr]; omega)
    have t : (bits .and .u32 (r : Int) 1 == 1) = false := by rw [e1, show r % 2 = 0 by omega]; rfl
    clear e1
    go_enter Try.func131, Try.ntmps131
    go_wp2
    go_ret
    exact ⟨by rw [← H.out]; rfl, rfl⟩
def sh8 (r : Nat) : Nat := sh (sh (sh (sh (sh (sh (sh (sh r)))))))
def rr : Nat → Nat
  | 0 => 1
  | k + 1 => sh (rr k)
theorem rr_lt (k : Nat) : rr k < 4294967296 := by
  induction k with
  | zero => decide
  | succ k ih => exact sh_lt _ ih
theorem tab_sum : ∀ K, K < 8 → ∀ j, j < 256 → j % (256 >>> K) = 0 → sh8 ((128 >>> K) + j) = rr (K + 1) ^^^ sh8 j := by decide +kernel
theorem sh8_lt (r : Nat) (h : r < 4294967296) : sh8 r < 4294967296 :=
  sh_lt _ (sh_lt _ (sh_lt _ (sh_lt _ (sh_lt _ (sh_lt _ (sh_lt _ (sh_lt _ h)))))))
def Z256 : Array Value := Array.replicate 256 (.int .u32 0)
theorem zero45 (w : World) : (zeroValue 190).run Try.prog w = .ok (.agg Z256) w := by kernel_rfl
def TB (B : Nat) (w : World) (P : Nat → Prop) : Prop :=
  ∃ cs : Array Value, w.heap[B]? = some (.cells cs 190 (0, 0)) ∧ cs.size = 256 ∧ (∀ x, x < 256 → ∃ v : Int, cs[x]? = some (.int .u32 v)) ∧ ∀ x, x < 256 → P x → cs[x]? = some (.int .u32 (sh8 x : Nat))
theorem TB.cell {B : Nat} {w : World} {P : Nat → Prop} (h : TB B w P) (x : Nat) (hx : x < 256) (hP : P x) : w.cell? ⟨B, x, none⟩ = some (.int .u32 (sh8 x : Nat)) := by
  obtain ⟨cs, h1, h2, _, h3⟩ := h
  rw [cell_of_row w B x cs 190 (0, 0) h1, h3 x hx hP]
theorem TB.some {B : Nat} {w : World} {P : Nat → Prop} (h : TB B w P) (x : Nat) (hx : x < 256) : ∃ v : Int, w.cell? ⟨B, x, none⟩ = .some (.int .u32 v) := by
  obtain ⟨cs, h1, h2, h4, h3⟩ := h
  obtain ⟨v, hv⟩ := h4 x hx
  exact ⟨v, by rw [cell_of_row w B x cs 190 (0, 0) h1, hv]⟩
theorem TB.frozen {B : Nat} {w : World} {P : Nat → Prop} (h : TB B w P) (x : Nat) : w.frozen? ⟨B, x, none⟩ = false := by
  obtain ⟨cs, h1, _⟩ := h
  exact frozen_of_row w B x cs 190 h1
theorem TB.store {B : Nat} {w : World} {P Q : Nat → Prop} (h : TB B w P) (y : Nat) (hy : y < 256) (v : Nat) (hv : v = sh8 y) (hQ : ∀ x, x < 256 → Q x → P x ∨ x = y) :
    TB B (w.setCell ⟨B, y, none⟩ (.int .u32 (v : Int))) Q := by
  obtain ⟨cs, h1, h2, h4, h3⟩ := h
  refine ⟨cs.setIfInBounds y (.int .u32 (v : Int)), heap_setCell_same w B y cs 190 _ h1, by simpa using h2, fun x hx => ?_, fun x hx hq => ?_⟩
  · rw [Array.getElem?_setIfInBounds]
    by_cases e : y = x
    · rw [if_pos e, if_pos (by omega)]; exact ⟨_, rfl⟩
    · rw [if_neg e]; exact h4 x hx
  · rw [Array.getElem?_setIfInBounds]
    by_cases e : y = x
    · rw [if_pos e, if_pos (by omega), hv, e]
    · rw [if_neg e]
      rcases hQ x hx hq with h | h
      · exact h3 x hx h
      · omega
theorem TB.mono {B : Nat} {w : World} {P Q : Nat → Prop} (h : TB B w P) (hQ : ∀ x, x < 256 → Q x → P x) : TB B w Q := by
  obtain ⟨cs, h1, h2, h4, h3⟩ := h
  exact ⟨cs, h1, h2, h4, fun x hx hq => h3 x hx (hQ x hx hq)⟩
theorem TB.new (w : World) (B : Nat) (h : w.heap[B]? = .some (.cells Z256 190 (0, 0))) : TB B w (fun x => x % 256 = 0) := by
  refine ⟨Z256, h, by simp [Z256], fun x hx => ⟨0, by simp [Z256, hx]⟩, fun x hx h0 => ?_⟩
  obtain rfl : x = 0 := by omega
  have h8 : sh8 0 = 0 := by decide
  rw [h8]
  simp [Z256]
def TabV (cs : Array Value) : Prop := cs.size = 256 ∧ ∀ x, x < 256 → cs[x]? = some (.int .u32 (sh8 x : Nat))
structure Lv (K n S : Nat) : Prop where
  le : n ≤ 128
  ge : 1 ≤ n
  dbl : S = 2 * n
  nx : ∀ j, j < 256 → j % S = 0 → j + S ≤ 256 ∧ (j + S) % S = 0
  cov : ∀ j x, j < 256 → x < 256 → j % S = 0 → (x % S = 0 ∨ (x % S = n ∧ x < j + S + n)) → (x % S = 0 ∨ (x % S = n ∧ x < j + n)) ∨ x = n + j
  lst : ∀ x, x < 256 → x % n = 0 → x % S = 0 ∨ x % S = n
  sum : ∀ j, j < 256 → j % S = 0 → sh8 (n + j) = rr (K + 1) ^^^ sh8 j
theorem lv (K : Nat) (h : K < 8) : Lv K (128 >>> K) (256 >>> K) := by
  have TS := tab_sum K h
  have hK' : K = 0 ∨ K = 1 ∨ K = 2 ∨ K = 3 ∨ K = 4 ∨ K = 5 ∨ K = 6 ∨ K = 7 := by omega
  rcases hK' with rfl | rfl | rfl | rfl | rfl | rfl | rfl | rfl
  all_goals
    refine ⟨by decide, by decide, by decide, fun j h1 h2 => ?_, fun j x h1 h2 h3 h4 => ?_, fun x h1 h2 => ?_, TS⟩
    all_goals
      simp only [Nat.reduceShiftRight] at *
      omega
set_option maxRecDepth 100000 in
theorem table_any (w : World) :
    Calls Try.prog 122 #[] w fun e w' => ∃ cs, e = .returned (.agg cs) ∧ TabV cs ∧ Below w.heap.size w w' := by
  have hz := zero45
  go_enter Try.func122, Try.ntmps122
  go_wp2
  clear hz
  go_loopw [2, 3] (fun r i wr => ∃ K n S : Nat, K ≤ 8 ∧ i = .int .i64 (n : Int) ∧ r = .int .u32 (rr K : Nat) ∧ Hid (n = 128 >>> K ∧ S = 256 >>> K) ∧ TB (w.heap.size + 1) wr (fun x => x % S = 0) ∧ wr.heap[w.heap.size]? = some (.cells Z256 190 (0, 0)) ∧ Below w.heap.size w wr) (fun _ i _ => (intOf i).toNat)
  case atStart =>
    refine ⟨0, 128, 256, by omega, rfl, rfl, ⟨rfl, rfl⟩, (TB.new _ _ ?_), ?_, ((Below.refl _ _).alloc (Nat.le_refl _) _).alloc (by simp) _⟩
    · exact heap_alloc2_new w _ _
    · exact heap_alloc2_old w _ _
  case round =>
    obtain ⟨K, n, S, hK, rfl, rfl, HI, hT, hO, hB⟩ := hrel
    by_cases hk8 : K = 8
    · subst hk8
      obtain rfl : n = 0 := HI.out.1
      obtain ⟨cs, g1, g2, _, g3⟩ := hT
      have hg1 := hid g1
      have hO' := hid hO
      have HV := hid (show TabV cs from ⟨g2, fun x hx => g3 x hx (by rw [HI.out.2]; exact Nat.mod_one x)⟩)
      have hsz : w.heap.size + 1 < wr.heap.size := (Array.getElem?_eq_some_iff.1 g1).1
      clear g1 g2 g3 hO HI hK
      have hi := hid (show (Try.prog.info? 190).map (·.size) = some cs.size by rw [HV.out.1]; kernel_rfl)
      have h1c := hid (show cs.all (·.oneCell') = true by
        rw [Array.all_eq_true]
        intro x hx
        have := HV.out.2 x (by have := HV.out.1; omega)
        rw [Array.getElem?_eq_getElem hx] at this
        rw [Option.some.inj this]; rfl)
      go_wp2_with (first | (refine wpList_load_row rfl 190 _ rfl (w.heap.size + 1) rfl 190 cs (0, 0) _ hg1.out Try.underlying190 rfl hi.out ?_) | (refine wpList_store_row rfl 190 _ _ rfl w.heap.size cs rfl rfl 190 Z256 hO'.out hi.out (by rw [HV.out.1]; rfl) h1c.out ?_))
      refine bodyPost_ret (v := .agg cs) (results_cell_row (fn := Try.f122) (p := 0) (ty := 190) rfl _ _ w.heap.size 190 cs (0, 0) _ rfl (setRow_heap _ _ Z256 _ 190 _ hO'.out) Try.underlying190 rfl hi.out) rfl ⟨cs, rfl, HV.out, ?_⟩
      exact hB.trans ⟨rfl, rfl, rfl, by simp, fun k hk => setRow_other _ _ _ _ (by omega)⟩
    · have L := hid (lv K (by omega))
      rw [← HI.out.1, ← HI.out.2] at L
      have hr1 := rr_lt K
      have hr2 := rr_lt (K + 1)
      have hT' := hid hT
      have hO' := hid hO
      have hn1 := L.out.le
      have hn2 := L.out.ge
      have HR := hid (show rr (K + 1) = sh (rr K) from rfl)
      have hK7 : K + 1 ≤ 8 := by omega
      clear hT hO hK hk8
      go_wp2_with fail
      refine (shift_any _ hr1 _).mono ?_
      rintro e w1 ⟨rfl, rfl⟩
      rw [← HR.out]
      go_wp2_with fail
      go_loopw [4] (fun jv w5 => ∃ j : Nat, j ≤ 256 ∧ Hid (j % S = 0) ∧ jv = .int .i64 (j : Int) ∧ TB (w.heap.size + 1) w5 (fun x => x % S = 0 ∨ (x % S = n ∧ x < j + n)) ∧ w5.heap[w.heap.size]? = some (.cells Z256 190 (0, 0)) ∧ Below w.heap.size w w5) (fun jv _ => 256 - (intOf jv).toNat)
      case atStart => exact ⟨0, by omega, Nat.zero_mod _, rfl, hT'.out.mono (fun x hx h => by
        rcases h with h | ⟨h, h'⟩
        · exact h
        · have hd := L.out.dbl; rw [Nat.mod_eq_of_lt (by omega)] at h; omega), hO'.out, hB⟩
      case round =>
        obtain ⟨j, hj1, hj2, rfl, hT5, hO5, hB5⟩ := hrel
        have hT5' := hid hT5
        have hO5' := hid hO5
        clear hT5 hO5
        by_cases hj : j < 256
        · have c1 := hT5'.out.cell j hj (.inl hj2.out)
          have hd := L.out.dbl
          obtain ⟨hj3, hj4⟩ := L.out.nx j hj hj2.out
          obtain ⟨v0, c2⟩ := hT5'.out.some (n + j) (by omega)
          have c3 := hT5'.out.frozen (n + j)
          have hb := sh8_lt j (by omega)
          have HX := hid (u32_xor_nat (rr (K + 1)) (sh8 j) hr2 hb)
          have HS := hid (L.out.sum j hj hj2.out)
          have hj5 : n + j < 256 := by omega
          have hj6 : (n : Int) + j < 256 := by omega
          have HJ3 := hid hj3
          have HJ4 := hid hj4
          have HD := hid hd
          clear hj3 hj4 hd
          go_wp2_with fail
          go_roundw
          case rel =>
            rw [HX.out]
            exact ⟨j + S, HJ3.out, HJ4.out, by rw [HD.out]; go_num, hT5'.out.store (n + j) hj5 _ HS.out.symm (fun x hx hq => L.out.cov j x hj hx hj2.out hq), (heap_setCell_other _ _ _ _ (by simp)).trans hO5'.out, hB5.setCell (by simp) _⟩
          case measure => simp [intOf]; omega
        · obtain rfl : j = 256 := by omega
          go_wp2_with fail
          go_roundw
          case rel => exact ⟨K + 1, n / 2, n, hK7, by go_num, rfl, ⟨by rw [Nat.shiftRight_succ, ← HI.out.1], by rw [Nat.shiftRight_succ, ← HI.out.2, L.out.dbl]; omega⟩, hT5'.out.mono (fun x hx h => by
            rcases L.out.lst x hx h with h | h
            · exact .inl h
            · exact .inr ⟨h, by omega⟩), hO5'.out, hB5⟩
          case measure => simp [intOf]; omega
end Go.Proofs.Ytbgbjgedjmhcaaa.OldA
namespace Go.Proofs.Ytbgbjgedjmhcaaa.OldA
open Go.RowKit
def Lin (f : Nat → Nat) : Prop := ∀ x y, x < 2 ^ 32 → y < 2 ^ 32 → f (x ^^^ y) = f x ^^^ f y
theorem sh_eq (x : Nat) : sh x = x / 2 ^^^ (if x.testBit 0 then 2197175160 else 0) := by
  unfold sh
  rw [Nat.testBit_zero]
  by_cases h : x % 2 = 1 <;> simp [h]
theorem sh_lin : Lin sh := by
  intro x y _ _
  have h1 : (x ^^^ y) / 2 = x / 2 ^^^ y / 2 := by
    have := Nat.shiftRight_xor_distrib (a := x) (b := y) (i := 1)
    simpa [Nat.shiftRight_eq_div_pow] using this
  rw [sh_eq, sh_eq, sh_eq, h1, Nat.testBit_xor]
  apply Nat.eq_of_testBit_eq; intro i
  cases x.testBit 0 <;> cases y.testBit 0 <;> simp only [Nat.testBit_xor, Bool.xor_false, Bool.xor_true, Bool.not_false, Bool.not_true, if_true, if_false, Bool.false_eq_true, Nat.zero_testBit] <;> cases (x / 2).testBit i <;> cases (y / 2).testBit i <;> cases Nat.testBit 2197175160 i <;> rfl
theorem sh_lt' {r : Nat} (h : r < 2 ^ 32) : sh r < 2 ^ 32 := sh_lt r h
def shn : Nat → Nat → Nat
  | 0, r => r
  | n + 1, r => sh (shn n r)
theorem shn_lt (n : Nat) {r : Nat} (h : r < 2 ^ 32) : shn n r < 2 ^ 32 := by
  induction n with
  | zero => exact h
  | succ n ih => exact sh_lt' ih
theorem shn_lin (n : Nat) : Lin (shn n) := by
  intro x y hx hy
  induction n with
  | zero => rfl
  | succ n ih => rw [shn, shn, shn, ih, sh_lin _ _ (shn_lt n hx) (shn_lt n hy)]
theorem zero_of_lin {f : Nat → Nat} (h : Lin f) : f 0 = 0 := by
  have := h 0 0 (by omega) (by omega)
  simpa using this
theorem lin_ext {f g : Nat → Nat} (hf : Lin f) (hg : Lin g) (h : ∀ t, t < 32 → f (2 ^ t) = g (2 ^ t)) : ∀ x, x < 2 ^ 32 → f x = g x := by
  have H : ∀ k, k ≤ 32 → ∀ x, x < 2 ^ k → f x = g x := by
    intro k
    induction k with
    | zero => intro _ x hx; obtain rfl : x = 0 := by omega
              rw [zero_of_lin hf, zero_of_lin hg]
    | succ k ih =>
      intro hk x hx
      have hp : 2 ^ (k + 1) ≤ 2 ^ 32 := Nat.pow_le_pow_right (by omega) hk
      have hp0 : 2 ^ k ≤ 2 ^ 32 := Nat.pow_le_pow_right (by omega) (by omega)
      by_cases hx' : x < 2 ^ k
      · exact ih (by omega) x hx'
      · have e : x = (x - 2 ^ k) ^^^ 2 ^ k := by
          have h1 : x - 2 ^ k < 2 ^ k := by rw [Nat.pow_succ] at hx; omega
          have := Nat.two_pow_add_eq_or_of_lt h1 1
          apply Nat.eq_of_testBit_eq; intro i
          rw [Nat.testBit_xor, Nat.testBit_two_pow]
          have hx2 : x = 2 ^ k + (x - 2 ^ k) := by omega
          rw [hx2]
          by_cases hi : i = k
          · subst hi
            rw [Nat.testBit_two_pow_add_eq, show 2 ^ i + (x - 2 ^ i) - 2 ^ i = x - 2 ^ i by omega]
            simp
          · rw [show 2 ^ k + (x - 2 ^ k) - 2 ^ k = x - 2 ^ k by omega]
            by_cases hlt : i < k
            · rw [Nat.testBit_two_pow_add_gt hlt]; simp [show ¬ k = i by omega]
            · have hki : k < i := by omega
              rw [Nat.testBit_lt_two_pow (Nat.lt_of_lt_of_le (by omega : 2 ^ k + (x - 2 ^ k) < 2 ^ (k + 1)) (Nat.pow_le_pow_right (by omega) hki)), Nat.testBit_lt_two_pow (Nat.lt_of_lt_of_le h1 (Nat.pow_le_pow_right (by omega) (by omega)))]
              simp [show ¬ k = i by omega]
        have h1 : x - 2 ^ k < 2 ^ k := by rw [Nat.pow_succ] at hx; omega
        rw [e, hf _ _ (by omega) (Nat.pow_lt_pow_right (by omega) (by omega)), hg _ _ (by omega) (Nat.pow_lt_pow_right (by omega) (by omega)), ih (by omega) _ h1, h k (by omega)]
  exact H 32 (by omega)
def mp (a b : Nat) : Nat → Nat
  | 0 => 0
  | k + 1 => if a.testBit (31 - k) then mp a b k ^^^ shn k b else mp a b k
end Go.Proofs.Ytbgbjgedjmhcaaa.OldA
namespace Go.Proofs.Ytbgbjgedjmhcaaa.OldA
open Go.ChangeShapes Go.WideShapes Go.ChangeAt Go.RowKit
def fd (r c : Nat) : Nat := (r / 256) ^^^ sh8 ((r % 256) ^^^ c)
theorem fd_lt (r c : Nat) (h : r < 4294967296) (hc : c < 256) : fd r c < 4294967296 := by
  have h1 : (r % 256) ^^^ c < 2 ^ 8 := Nat.xor_lt_two_pow (by omega) (by omega)
  have h2 := sh8_lt ((r % 256) ^^^ c) (by omega)
  have h3 : (r / 256) ^^^ sh8 ((r % 256) ^^^ c) < 2 ^ 32 := Nat.xor_lt_two_pow (by omega) (by omega)
  exact h3
theorem TabV.one {cs : Array Value} (h : TabV cs) : cs.all (·.oneCell') = true := by
  rw [Array.all_eq_true]
  intro x hx
  have := h.2 x (by have := h.1; omega)
  rw [Array.getElem?_eq_getElem hx] at this
  rw [Option.some.inj this]; rfl
def InB (B : Nat) (w : World) : Prop := ∀ x, x < 256 → w.cell? ⟨B, x, none⟩ = some (.int .u32 (sh8 x : Nat))
def nt (r : Nat) : Nat := 4294967295 ^^^ r
theorem nt_lt (r : Nat) (h : r < 4294967296) : nt r < 4294967296 := by
  have h1 : 4294967295 ^^^ r < 2 ^ 32 := Nat.xor_lt_two_pow (by omega) (by omega)
  exact h1
theorem nt_eq (r : Nat) (h : r < 4294967296) : bits .xor .u32 IntKind.u32.max (r : Int) = (nt r : Nat) := by
  rw [show IntKind.u32.max = ((4294967295 : Nat) : Int) by decide, u32_xor_nat _ _ (by omega) h]
  rfl
theorem idx_lt (r c : Nat) (hc : c < 256) : (r % 256) ^^^ c < 256 := by
  have h1 : (r % 256) ^^^ c < 2 ^ 8 := Nat.xor_lt_two_pow (by omega) (by omega)
  exact h1
theorem idx_eq (r c : Nat) (h : r < 4294967296) (hc : c < 256) : bits .xor .u8 ((r : Int) % 256) (c : Int) = (((r % 256) ^^^ c : Nat) : Int) := by
  have : ((r : Int) % 256) = ((r % 256 : Nat) : Int) := by omega
  rw [this, u8_xor_nat _ _ (by omega) hc]
theorem fd_eq (r c : Nat) (h : r < 4294967296) (hc : c < 256) : bits .xor .u32 ((r : Int) / 256) (sh8 ((r % 256) ^^^ c) : Nat) = (fd r c : Nat) := by
  have := sh8_lt ((r % 256) ^^^ c) (by have := idx_lt r c hc; omega)
  rw [show ((r : Int) / 256) = ((r / 256 : Nat) : Int) by omega, u32_xor_nat _ _ (by omega) this]
  rfl
theorem inB_new (w1 : World) (cs : Array Value) (h : TabV cs) : InB w1.heap.size ((w1.alloc (Obj.cells Z256 190)).setRow w1.heap.size cs) := by
  intro x hx
  rw [cell_setRow_same _ _ x Z256 cs 190 (0, 0) (heap_alloc_new _ _)]
  exact h.2 x hx
theorem below_new (w w1 : World) (cs : Array Value) (h : Below w.heap.size w w1) : Below w.heap.size w ((w1.alloc (Obj.cells Z256 190)).setRow w1.heap.size cs) :=
  (h.alloc h.size _).trans ⟨rfl, rfl, rfl, by simp, fun k hk => setRow_other _ _ _ _ (by have := h.size; omega)⟩
set_option maxRecDepth 100000 in
theorem short_any (r : Nat) (h : r < 4294967296) (w : World) :
    Calls Try.prog 120 #[.int .u32 (r : Int)] w fun e w' => e = .returned (.int .u16 ((r / 65536) ^^^ (r % 65536) : Nat)) ∧ w = w' := by
  have H := hid (show bits .xor .u16 ((r : Int) / 65536) (IntKind.u16.wrap (r : Int)) = ((r / 65536) ^^^ (r % 65536) : Nat) by
    have : IntKind.u16.wrap (r : Int) = ((r % 65536 : Nat) : Int) := by simp [IntKind.wrap, IntKind.bits, IntKind.signed]
    rw [this, show ((r : Int) / 65536) = ((r / 65536 : Nat) : Int) by omega, u16_xor_nat _ _ (by omega) (by omega)])
  go_enter Try.func120, Try.ntmps120
  go_wp2
  go_ret
  exact ⟨by rw [← H.out]; rfl, rfl⟩
def IsRow (k : IntKind) (w : World) (a : Option Addr) (len cap : Nat) (zs : List Int) : Prop :=
  (a = none ∧ len = 0 ∧ cap = 0 ∧ zs = []) ∨
  ∃ x, a = some x ∧ len ≤ cap ∧ cap ≤ maxLen ∧ zs.length = cap ∧ (∀ i, i < zs.length → w.cell? (x.add i) = some (.int k (zs.getD i 0))) ∧ ∀ n ∈ zs, (Lit.int k n).wf = true
end Go.Proofs.Ytbgbjgedjmhcaaa.OldA
namespace Go.Proofs.Ytbgbjgedjmhcaaa.OldA
open Go.RowKit Go.Shelf
attribute [local go_sem] Oper.semAt_some
abbrev B8 := { x : Nat // x < 256 }
def upto {α : Type} (f : Nat → α) (k : Nat) : List α := (List.range k).map f
theorem upto_succ {α : Type} (f : Nat → α) (k : Nat) : upto f (k + 1) = upto f k ++ [f k] := by simp [upto, List.range_succ]
theorem upto_length {α : Type} (f : Nat → α) (k : Nat) : (upto f k).length = k := by simp [upto]
def bt8 (ws : List Nat) (q : Nat) : B8 := ⟨(ws[q / 8]?.getD 0) / 256 ^ (q % 8) % 256, Nat.mod_lt _ (by omega)⟩
theorem bt8_at (ws : List Nat) (k i v : Nat) (hi : i < 8) (hv : v = (ws[k]?.getD 0) / 256 ^ i) : bt8 ws (8 * k + i) = ⟨v % 256, Nat.mod_lt _ (by omega)⟩ := by
  unfold bt8
  congr 1
  rw [show (8 * k + i) / 8 = k by omega, show (8 * k + i) % 8 = i by omega, hv]
set_option maxRecDepth 100000 in
theorem it1_in (F : Fence) (n : Nat) (h29 : F.fn 132) (hro : F.round = none) (hn : 1 ≤ n) (l Bs n₀ b off len cap : Nat) (ws : List Nat) (hreach : len * 8 ≤ 140737488351232) (hb : b < n₀) (J Jx : List B8 → World → Prop)
    (hY : ∀ pre (x : B8) W, J pre W → pre.length < 8 * len → YieldAt F (n - 1) Try.prog l #[.int .u8 (x.1 : Int)] W fun e W' =>
      (e = .returned (.bool true) ∧ J (pre ++ [x]) W' ∧ Below n₀ W W') ∨ (e = .returned (.bool false) ∧ Jx (pre ++ [x]) W'))
    (W : World) (hBs : W.cell? ⟨Bs, 0, none⟩ = some (.slice (some ⟨b, off, none⟩) len cap)) (hw : ∀ j, j < len → ws[j]?.getD 0 < 18446744073709551616) (hc : ∀ j, j < len → W.cell? ⟨b, off + j, none⟩ = some (.int .u64 (ws[j]?.getD 0 : Nat))) (h0 : J [] W) :
    CallsIn F n Try.prog 132 #[.func (.yield l) #[] #[], .pointer (some ⟨Bs, 0, none⟩)] W fun e W' => (∃ v, e = .returned v) ∧
      ((∃ ys, ys = upto (bt8 ws) (8 * len) ∧ J ys W') ∨ (∃ pre : List B8, Jx pre W')) := by
  refine callsIn_of_wp Try.func132 rfl h29 ?_ hro
  simp only [Try.ntmps132, List.size_toArray, List.length_cons, List.length_nil, Nat.reduceAdd, Nat.reduceSub, Array.replicate_succ, Array.replicate_zero, List.push_toArray, List.append_toArray, List.nil_append, List.cons_append]
  have HY := hid hY
  clear hY
  have HW := hid hw
  have HC := hid hc
  clear hw hc
  gi_wp2
  gi_loopw [7] (fun i wr => ∃ k : Nat, k ≤ len ∧ i = .int .i64 (k : Int) ∧ J (upto (bt8 ws) (8 * k)) wr ∧ Below n₀ W wr)
    (fun i _ => len - (intOf i).toNat)
  case atStart => exact ⟨0, Nat.zero_le _, rfl, h0, Below.refl _ _⟩
  case round =>
    obtain ⟨k, hk, rfl, hJs, hnx⟩ := hrel
    have HJ := hid hJs
    clear hJs
    by_cases hlt : k < len
    · have hck := (hnx.cell (p := ⟨b, off + k, none⟩) hb).trans (HC.out k hlt)
      have hwk := HW.out k hlt
      generalize hword : ws[k]?.getD 0 = word at hck hwk
      have HWD := hid hword
      clear hword
      have hlt2 : (k : Int) < (len : Int) := by omega
      gi_wp2
      gi_loopw [4, 11] (fun v i w5 => ∃ i' v' : Nat, i' ≤ 8 ∧ v' < 18446744073709551616 ∧ i = .int .i64 (i' : Int) ∧ v = .int .u64 (v' : Int) ∧ Hid (v' = word / 256 ^ i') ∧ J (upto (bt8 ws) (8 * k + i')) w5 ∧ Below n₀ W w5) (fun _ i _ => 8 - (intOf i).toNat)
      case atStart => exact ⟨0, word, by omega, hwk, rfl, rfl, (by simp : word = word / 256 ^ 0), HJ.out, hnx⟩
      case round =>
        obtain ⟨i, v, hi, hv, rfl, rfl, hvv, hJ5, hn5⟩ := hrel
        by_cases hi8 : i < 8
        · obtain ⟨fn, tmps, assign, body, hy, hR⟩ := HY.out _ (⟨v % 256, Nat.mod_lt _ (by omega)⟩ : B8) _ hJ5 (by rw [upto_length]; omega)
          dsimp only at hy
          rw [show ((v % 256 : Nat) : Int) = (v : Int) % 256 from by omega] at hy
          have HR := hid hR
          clear hR
          have hi2 : (i : Int) < 8 := by omega
          have HB := hid (bt8_at ws k i v hi8 (by rw [HWD.out]; exact hvv.out))
          have HV := hid (show v / 256 = word / 256 ^ (i + 1) by rw [hvv.out, Nat.div_div_eq_div_mul, Nat.pow_succ])
          gi_wp2
          refine HR.out.mono ?_
          rintro e W3 (⟨rfl, hJ3, hk3⟩ | ⟨rfl, hJx3⟩)
          · gi_wp2
            go_roundw
            case rel => exact ⟨i + 1, v / 256, by omega, by omega, by go_num, by go_num, HV.out, by rw [← Nat.add_assoc, upto_succ, HB.out]; exact hJ3, hn5.trans hk3⟩
            case measure => simp [intOf]; omega
          · gi_wp2
            refine bodyPost_ret (results_none rfl _ _ _) rfl ?_
            exact ⟨⟨_, rfl⟩, .inr ⟨_, hJx3⟩⟩
        · obtain rfl : i = 8 := by omega
          have hi2 : ¬ ((8 : Nat) : Int) < 8 := by omega
          gi_wp2
          go_roundw
          case rel => exact ⟨k + 1, by omega, by go_num, by rw [show 8 * (k + 1) = 8 * k + 8 by omega]; exact hJ5, hn5⟩
          case measure => simp [intOf]; omega
    · obtain rfl : k = len := by omega
      have hlt2 : ¬ (k : Int) < (k : Int) := by omega
      gi_wp2
      go_end0
      exact ⟨⟨_, rfl⟩, by first | exact .inl ⟨_, rfl, HJ.out⟩ | exact .inl HJ.out | exact HJ.out⟩
set_option maxRecDepth 100000 in
theorem it1_nil_in (F : Fence) (n : Nat) (h29 : F.fn 132) (hro : F.round = none) (l Bs cap : Nat) (a : Option Addr) (J : List B8 → World → Prop) (W : World) (hBs : W.cell? ⟨Bs, 0, none⟩ = some (.slice a 0 cap)) (h0 : J [] W) :
    CallsIn F n Try.prog 132 #[.func (.yield l) #[] #[], .pointer (some ⟨Bs, 0, none⟩)] W fun e W' => (∃ v, e = .returned v) ∧ J [] W' := by
  refine callsIn_of_wp Try.func132 rfl h29 ?_ hro
  simp only [Try.ntmps132, List.size_toArray, List.length_cons, List.length_nil, Nat.reduceAdd, Nat.reduceSub, Array.replicate_succ, Array.replicate_zero, List.push_toArray, List.append_toArray, List.nil_append, List.cons_append]
  gi_wp2
  gi_loopw [7] (fun i wr => i = .int .i64 0 ∧ J [] wr) (fun _ _ => 0)
  case atStart => exact ⟨rfl, h0⟩
  case round =>
    obtain ⟨rfl, hJs⟩ := hrel
    gi_wp2
    go_end0
    exact ⟨⟨_, rfl⟩, hJs⟩
theorem bytesOf_in (F : Fence) (n : Nat) (h23 : F.fn 123) (hro : F.round = none) (a : Option Addr) (len cap : Nat) (w : World) :
    CallsIn F n Try.prog 123 #[.slice a len cap] w fun e w' => e = .returned (.func (.func 132) #[] #[.pointer (some ⟨w.heap.size, 0, none⟩)]) ∧ w' = w.alloc (.cells #[.slice a len cap] 25) := by
  refine callsIn_of_wp Try.func123 rfl h23 ?_ hro
  simp only [Try.ntmps123, List.size_toArray, List.length_cons, List.length_nil, Nat.reduceAdd, Nat.reduceSub, Array.replicate_succ, Array.replicate_zero, List.push_toArray, List.append_toArray, List.nil_append, List.cons_append]
  gi_wp2
  go_ret
  exact ⟨rfl, rfl⟩
def Wo (n₀ : Nat) (W : World) (a : Option Addr) (len : Nat) (ws : List Nat) : Prop :=
  (∀ j, j < len → ws[j]?.getD 0 < 18446744073709551616) ∧ (len = 0 ∨ ∃ b off, a = some ⟨b, off, none⟩ ∧ b < n₀ ∧ ∀ j, j < len → W.cell? ⟨b, off + j, none⟩ = some (.int .u64 (ws[j]?.getD 0 : Nat)))
theorem Wo.below {n₀ : Nat} {A B : World} (h : Below n₀ A B) {a : Option Addr} {len : Nat} {ws : List Nat} : Wo n₀ A a len ws → Wo n₀ B a len ws
  | ⟨h1, .inl e⟩ => ⟨h1, .inl e⟩
  | ⟨h1, .inr ⟨b, off, e, hb, hc⟩⟩ => ⟨h1, .inr ⟨b, off, e, hb, fun j hj => (h.cell (p := ⟨b, off + j, none⟩) hb).trans (hc j hj)⟩⟩
theorem bytesOf_stops (F : Fence) (n : Nat) (h29 : F.fn 132) (hro : F.round = none) (hn : 1 ≤ n) (Bs n₀ : Nat) (a : Option Addr) (len cap : Nat) (ws : List Nat) (hreach : len * 8 ≤ 140737488351232) (w : World) (hBs : Bs < w.heap.size) (hn₀ : n₀ ≤ w.heap.size)
    (hc : w.cell? ⟨Bs, 0, none⟩ = some (.slice a len cap)) (hI : Wo n₀ w a len ws) :
    SeqStopsK F n Try.prog 132 #[.pointer (some ⟨Bs, 0, none⟩)] (fun x : B8 => #[Value.int .u8 (x.1 : Int)]) (Below n₀) (fun ys => ys = upto (bt8 ws) (8 * len)) (fun _ => True) (8 * len) w := fun l J Jx W hW _ _ hY h0 => by
  have hc' := (hW.cell (p := ⟨Bs, 0, none⟩) hBs).trans hc
  obtain ⟨hw, hI'⟩ := hI.below (hW.mono hn₀)
  rcases hI' with rfl | ⟨b, off, rfl, hb, hcs⟩
  · exact (it1_nil_in F n h29 hro l Bs cap a J W hc' h0).mono fun e W' ⟨he, hj⟩ => ⟨he, .inl ⟨_, by simp [upto], hj⟩⟩
  · refine (it1_in F n h29 hro hn l Bs n₀ b off len cap ws hreach hb J Jx hY W hc' hw hcs h0).mono ?_
    rintro e W' ⟨he, ⟨ys, rfl, hj⟩ | ⟨pre, hj⟩⟩
    · exact ⟨he, .inl ⟨_, rfl, hj⟩⟩
    · exact ⟨he, .inr ⟨_, trivial, hj⟩⟩
end Go.Proofs.Ytbgbjgedjmhcaaa.OldA
namespace Go.Proofs.Ytbgbjgedjmhcaaa.OldA
open Go.ChangeShapes Go.WideShapes Go.ChangeAt Go.RowKit
def fdl' (r : Nat) (bs : List B8) : Nat := bs.foldl (fun r x => fd r x.1) r
theorem step_any (r : Nat) (h : r < 4294967296) (w : World) :
    Calls Try.prog 136 #[.int .u32 (r : Int)] w fun e w' => e = .returned (.int .u32 (sh r : Nat)) ∧ w = w' := by
  have e1 := and1 r h
  by_cases hr : r % 2 = 1
  · have H := hid (show bits .xor .u32 ((r : Int) / 2) 2197175160 = (sh r : Nat) by
      rw [sh, if_pos hr, show (2197175160 : Int) = ((2197175160 : Nat) : Int) from rfl, show ((r : Int) / 2) = ((r / 2 : Nat) : Int) by omega, u32_xor_nat _ _ (by omega) (by omega)])
    have t : (bits .and .u32 (r : Int) 1 == 1) = true := by rw [e1, hr]; rfl
    clear e1
    go_enter Try.func136, Try.ntmps136
    go_wp2
    go_ret
    exact ⟨by rw [← H.out]; rfl, rfl⟩
  · have H := hid (show ((r : Int) / 2) = (sh r : Nat) by rw [sh, if_neg hr]; omega)
    have t : (bits .and .u32 (r : Int) 1 == 1) = false := by rw [e1, show r % 2 = 0 by omega]; rfl
    clear e1
    go_enter Try.func136, Try.ntmps136
    go_wp2
    go_ret
    exact ⟨by rw [← H.out]; rfl, rfl⟩
theorem shn8 (r : Nat) : shn 8 r = sh8 r := rfl
theorem sh_even (m : Nat) : sh (2 * m) = m := by
  unfold sh
  rw [if_neg (by omega)]; omega
theorem sh8_256 (m : Nat) : sh8 (256 * m) = m := by
  unfold sh8
  rw [show 256 * m = 2 * (128 * m) by omega, sh_even, show 128 * m = 2 * (64 * m) by omega, sh_even, show 64 * m = 2 * (32 * m) by omega, sh_even, show 32 * m = 2 * (16 * m) by omega, sh_even, show 16 * m = 2 * (8 * m) by omega, sh_even, show 8 * m = 2 * (4 * m) by omega, sh_even, show 4 * m = 2 * (2 * m) by omega, sh_even, sh_even]
theorem fd_sh8 (r c : Nat) (hr : r < 4294967296) (hc : c < 256) : fd r c = sh8 (r ^^^ c) := by
  have e : r ^^^ c = 256 * (r / 256) ^^^ ((r % 256) ^^^ c) := by
    have h1 : r = 256 * (r / 256) ^^^ (r % 256) := by
      have h := Nat.two_pow_add_eq_or_of_lt (i := 8) (b := r % 256) (by omega) (r / 256)
      apply Nat.eq_of_testBit_eq; intro i
      rw [Nat.testBit_xor]
      have hd : r = 2 ^ 8 * (r / 256) + r % 256 := by omega
      have hb := Nat.testBit_two_pow_mul_add (r / 256) (show r % 256 < 2 ^ 8 by omega) i
      rw [← hd] at hb
      rw [hb, show 256 * (r / 256) = 2 ^ 8 * (r / 256) by omega, Nat.testBit_two_pow_mul]
      by_cases hi : i < 8
      · simp [hi, show ¬ 8 ≤ i by omega]
      · have : (r % 256).testBit i = false := Nat.testBit_lt_two_pow (Nat.lt_of_lt_of_le (by omega : r % 256 < 2 ^ 8) (Nat.pow_le_pow_right (by omega) (by omega)))
        simp [hi, show 8 ≤ i by omega, this]
    rw [← Nat.xor_assoc, ← h1]
  have h2 := idx_lt r c hc
  rw [e, ← shn8, shn_lin 8 _ _ (by omega) (by omega), shn8, shn8, sh8_256]
  rfl
theorem feed_any (x b : Nat) (hx : x < 4294967296) (hb : b < 256) (w : World) :
    Calls Try.prog 135 #[.int .u32 (x : Int), .int .u8 (b : Int)] w fun e w' => e = .returned (.int .u32 (fd x b : Nat)) ∧ w = w' := by
  have hxb : x ^^^ b < 2 ^ 32 := Nat.xor_lt_two_pow (by omega) (by omega)
  have HX := u32_xor_nat x b hx (by omega)
  have HF := hid (show fd x b = shn 8 (x ^^^ b) by rw [shn8, fd_sh8 x b hx hb])
  generalize x ^^^ b = y at hxb HX HF
  have HY := hid hxb
  clear hxb
  go_enter Try.func135, Try.ntmps135
  go_wp2
  clear HX
  go_loop [0, 5] (fun xv i => ∃ k : Nat, k ≤ 8 ∧ i = .int .i64 (k : Int) ∧ xv = .int .u32 (shn k y : Nat)) (fun _ i => 8 - (intOf i).toNat)
  case atStart => exact ⟨0, by omega, rfl, rfl⟩
  case round =>
    obtain ⟨k, hk, rfl, rfl⟩ := hrel
    by_cases hlt : k < 8
    · have hs := hid (shn_lt k HY.out)
      have hn := hid (show sh (shn k y) = shn (k + 1) y from rfl)
      generalize shn k y = s at *
      have h2 : (k : Int) < 8 := by omega
      go_wp2_with fail
      refine (step_any _ hs.out _).mono ?_
      rintro e w1 ⟨rfl, rfl⟩
      go_wp2_with fail
      go_round
      case rel => exact ⟨k + 1, by omega, by go_num, by rw [hn.out]⟩
      case measure => simp [intOf]; omega
    · obtain rfl : k = 8 := by omega
      have h2 : ¬ ((8 : Nat) : Int) < 8 := by omega
      go_wp2_with fail
      go_ret
      exact ⟨by rw [HF.out]; rfl, rfl⟩
def wd (x v : Nat) : Nat → Nat
  | 0 => x
  | k + 1 => fd (wd x v k) (v / 256 ^ k % 256)
theorem wd_lt (x v k : Nat) (h : x < 4294967296) : wd x v k < 4294967296 := by
  induction k with
  | zero => exact h
  | succ k ih => exact fd_lt _ _ ih (Nat.mod_lt _ (by omega))
theorem word_any (x v : Nat) (hx : x < 4294967296) (hv : v < 18446744073709551616) (w : World) :
    Calls Try.prog 133 #[.int .u32 (x : Int), .int .u64 (v : Int)] w fun e w' => e = .returned (.int .u32 (wd x v 8 : Nat)) ∧ w = w' := by
  have HX := hid hx
  clear hx
  go_enter Try.func133, Try.ntmps133
  go_wp2
  go_loop [0, 5] (fun xv i => ∃ k : Nat, k ≤ 8 ∧ i = .int .i64 (k : Int) ∧ xv = .int .u32 (wd x v k : Nat)) (fun _ i => 8 - (intOf i).toNat)
  case atStart => exact ⟨0, by omega, rfl, rfl⟩
  case round =>
    obtain ⟨k, hk, rfl, rfl⟩ := hrel
    by_cases hlt : k < 8
    · have hs := hid (wd_lt x v k HX.out)
      have hn := hid (show wd x v (k + 1) = fd (wd x v k) (v / 256 ^ k % 256) from rfl)
      generalize wd x v k = s at *
      have h2 : (k : Int) < 8 := by omega
      have hb : v / 256 ^ k % 256 < 256 := Nat.mod_lt _ (by omega)
      have harg : ((v : Int) / 2 ^ (8 * k) % 256) = ((v / 256 ^ k % 256 : Nat) : Int) := by
        rw [Int.natCast_emod, Int.natCast_ediv, show (256 : Nat) ^ k = 2 ^ (8 * k) by rw [Nat.pow_mul], Int.natCast_pow]; rfl
      have HA := hid harg
      clear harg
      go_wp2_with fail
      rw [HA.out]
      refine (feed_any _ _ hs.out hb _).mono ?_
      rintro e w1 ⟨rfl, rfl⟩
      go_wp2_with fail
      go_round
      case rel => exact ⟨k + 1, by omega, by go_num, by rw [hn.out]⟩
      case measure => simp [intOf]; omega
    · obtain rfl : k = 8 := by omega
      have h2 : ¬ ((8 : Nat) : Int) < 8 := by omega
      go_wp2_with fail
      go_ret
      exact ⟨rfl, rfl⟩
def wds (x : Nat) (ws : List Nat) : Nat → Nat
  | 0 => x
  | k + 1 => wd (wds x ws k) (ws[k]?.getD 0) 8
theorem wds_lt (x : Nat) (ws : List Nat) (k : Nat) (h : x < 4294967296) : wds x ws k < 4294967296 := by
  induction k with
  | zero => exact h
  | succ k ih => exact wd_lt _ _ _ ih
theorem rextend_any (sum : Nat) (hsum : sum < 4294967296) (a : Option Addr) (len cap : Nat) (ws : List Nat) (hbig : len ≤ 9223372036854775807) (n₀ : Nat) (w : World) (hI : Wo n₀ w a len ws) :
    Calls Try.prog 124 #[.int .u32 (sum : Int), .slice a len cap] w fun e w' => e = .returned (.int .u32 (nt (wds (nt sum) ws len) : Nat)) ∧ w = w' := by
  have HI := hid hI
  have HN := nt_eq sum hsum
  have HL := hid (nt_lt sum hsum)
  clear hI
  go_enter Try.func124, Try.ntmps124
  go_wp2
  clear HN
  go_loop [5, 6] (fun xv i => ∃ k : Nat, k ≤ len ∧ i = .int .i64 (k : Int) ∧ xv = .int .u32 (wds (nt sum) ws k : Nat)) (fun _ i => len - (intOf i).toNat)
  case atStart => exact ⟨0, by omega, rfl, rfl⟩
  case round =>
    obtain ⟨k, hk, rfl, rfl⟩ := hrel
    by_cases hlt : k < len
    · have hs := hid (wds_lt (nt sum) ws k HL.out)
      have hn := hid (show wds (nt sum) ws (k + 1) = wd (wds (nt sum) ws k) (ws[k]?.getD 0) 8 from rfl)
      generalize wds (nt sum) ws k = s at *
      obtain ⟨b, off, rfl, _, hall⟩ := HI.out.2.resolve_left (by omega)
      have hck := hall k hlt
      clear hall
      have hv := hid (HI.out.1 k hlt)
      generalize ws[k]?.getD 0 = v at hn hck hv
      have h2 : (k : Int) < (len : Int) := by omega
      go_wp2_with fail
      refine (word_any _ _ hs.out hv.out _).mono ?_
      rintro e w1 ⟨rfl, rfl⟩
      go_wp2_with fail
      go_round
      case rel => exact ⟨k + 1, by omega, by go_num, by rw [hn.out]⟩
      case measure => simp [intOf]; omega
    · obtain rfl : k = len := by omega
      have h2 : ¬ (k : Int) < (k : Int) := by omega
      have hr := nt_eq _ (wds_lt (nt sum) ws k HL.out)
      go_wp2_with fail
      go_ret
      exact ⟨rfl, rfl⟩
theorem rshort_any (r : Nat) (h : r < 4294967296) (w : World) :
    Calls Try.prog 126 #[.int .u32 (r : Int)] w fun e w' => e = .returned (.int .u16 ((r / 65536) ^^^ (r % 65536) : Nat)) ∧ w = w' := by
  have H := hid (show bits .xor .u16 ((r : Int) / 65536) (IntKind.u16.wrap (r : Int)) = ((r / 65536) ^^^ (r % 65536) : Nat) by
    have : IntKind.u16.wrap (r : Int) = ((r % 65536 : Nat) : Int) := by simp [IntKind.wrap, IntKind.bits, IntKind.signed]
    rw [this, show ((r : Int) / 65536) = ((r / 65536 : Nat) : Int) by omega, u16_xor_nat _ _ (by omega) (by omega)])
  go_enter Try.func126, Try.ntmps126
  go_wp2
  go_ret
  exact ⟨by rw [← H.out]; rfl, rfl⟩
theorem upto_add {α : Type} (f : Nat → α) (n m : Nat) : upto f (n + m) = upto f n ++ upto (fun i => f (n + i)) m := by
  induction m with
  | zero => simp [upto]
  | succ m ih => rw [← Nat.add_assoc, upto_succ, ih, upto_succ, List.append_assoc]
theorem fdl_append (r : Nat) (a b : List B8) : fdl' r (a ++ b) = fdl' (fdl' r a) b := by simp [fdl']
theorem wd_fdl (x : Nat) (ws : List Nat) (k i : Nat) (hi : i ≤ 8) : fdl' x (upto (fun j => bt8 ws (8 * k + j)) i) = wd x (ws[k]?.getD 0) i := by
  induction i with
  | zero => rfl
  | succ i ih =>
    rw [upto_succ, fdl_append, ih (by omega), wd, bt8_at ws k i _ (by omega) rfl]
    rfl
theorem wds_fdl (x : Nat) (ws : List Nat) (k : Nat) : fdl' x (upto (bt8 ws) (8 * k)) = wds x ws k := by
  induction k with
  | zero => rfl
  | succ k ih =>
    rw [show 8 * (k + 1) = 8 * k + 8 by omega, upto_add, fdl_append, ih, wds, wd_fdl _ _ _ _ (by omega)]
end Go.Proofs.Ytbgbjgedjmhcaaa.OldA
namespace Go.Proofs.Ytbgbjgedjmhcaaa.OldA
open Go.ChangeShapes Go.WideShapes Go.ChangeAt Go.RowKit Go.Shelf
attribute [local go_sem] Oper.semAt_some
def fdl (r : Nat) (bs : List B8) : Nat := bs.foldl (fun r x => fd r x.1) r
theorem fdl_snoc (r : Nat) (bs : List B8) (x : B8) : fdl r (bs ++ [x]) = fd (fdl r bs) x.1 := by simp [fdl]
theorem fdl_lt (r : Nat) (h : r < 4294967296) (bs : List B8) : fdl r bs < 4294967296 := by
  induction bs generalizing r with
  | nil => exact h
  | cons x l ih => exact ih _ (fd_lt _ _ h x.2)
theorem inS {w w1 w5 wS : World} {s : Nat} {a : Option Addr} {len cap : Nat} (hwS : wS = (w5.alloc (Obj.cells #[Value.int IntKind.u32 (s : Int)] 58)).alloc (Obj.cells #[Value.slice a len cap] 25)) (hb : Below w.heap.size w w5) (hI : InB w1.heap.size w5) (hsz : w5.heap.size = w1.heap.size + 1) :
    wS.cell? ⟨w1.heap.size + 1, 0, none⟩ = some (.int .u32 (s : Int)) ∧ wS.frozen? ⟨w1.heap.size + 1, 0, none⟩ = false ∧ InB w1.heap.size wS ∧ wS.cell? ⟨w1.heap.size + 1 + 1, 0, none⟩ = some (.slice a len cap) ∧ Below w.heap.size w wS ∧ wS.heap.size = w1.heap.size + 3 := by
  have b1 : Below w5.heap.size w5 wS := by rw [hwS]; exact ((Below.refl _ _).alloc (Nat.le_refl _) _).alloc (by simp) _
  have h1 : wS.heap[w5.heap.size]? = some (.cells #[Value.int IntKind.u32 (s : Int)] 58 (0, 0)) := by rw [hwS]; exact heap_alloc2_old _ _ _
  have h2 : wS.heap[w5.heap.size + 1]? = some (.cells #[Value.slice a len cap] 25 (0, 0)) := by rw [hwS]; exact heap_alloc2_new _ _ _
  rw [hsz] at h1 h2
  exact ⟨by rw [cell_of_row _ _ _ _ _ _ h1]; rfl, frozen_of_row _ _ _ _ _ h1, fun x hx => (b1.cell (p := ⟨w1.heap.size, x, none⟩) (by show w1.heap.size < _; omega)).trans (hI x hx), by rw [cell_of_row _ _ _ _ _ _ h2]; rfl, hb.trans (b1.mono hb.size), by rw [hwS]; simp; omega⟩
theorem body_end {w w1 W : World} {r v : Nat} (hBW : Below w.heap.size w W) (hc : W.cell? ⟨w1.heap.size + 1, 0, none⟩ = some (.int .u32 (r : Int))) (hf : W.frozen? ⟨w1.heap.size + 1, 0, none⟩ = false) (hI : InB w1.heap.size W) (h1 : w.heap.size ≤ w1.heap.size) (W' : World) (hW' : W' = (W.setCell ⟨w1.heap.size + 1, 0, none⟩ (.int .u32 (v : Int))).drew := by rfl) :
    KeepsOthers W W' ∧ Below w.heap.size W W' ∧ (W'.cell? ⟨w1.heap.size + 1, 0, none⟩ = some (.int .u32 (v : Int)) ∧ W'.frozen? ⟨w1.heap.size + 1, 0, none⟩ = false ∧ InB w1.heap.size W') ∧ Below w.heap.size w W' := by
  subst hW'
  refine ⟨(KeepsOthers.setCell _ _ _).trans (KeepsOthers.drew _), ((Below.refl _ W).setCell (p := ⟨w1.heap.size + 1, 0, none⟩) (by show _ ≤ w1.heap.size + 1; omega) _).drew, ⟨?_, ?_, ?_⟩, (hBW.setCell (p := ⟨w1.heap.size + 1, 0, none⟩) (by show _ ≤ w1.heap.size + 1; omega) _).drew⟩
  · exact World.cell?_setCell_same' _ _ _ (by rw [hc]; rfl)
  · exact (World.frozen?_setCell _ _ _ _).trans hf
  · intro x hx
    refine Eq.trans ?_ (hI x hx)
    exact World.cell?_of_block (heap_setCell_other _ _ _ _ (by show w1.heap.size ≠ w1.heap.size + 1; omega))
set_option maxRecDepth 100000 in
theorem extend_any (sum : Nat) (hsum : sum < 4294967296) (a : Option Addr) (len cap : Nat) (ws : List Nat) (hreach : len * 8 ≤ 140737488351232) (w : World) (hI : Wo w.heap.size w a len ws) :
    Calls Try.prog 96 #[.int .u32 (sum : Int), .slice a len cap] w fun e w' => e = .returned (.int .u32 (nt (fdl (nt sum) (upto (bt8 ws) (8 * len))) : Nat)) ∧ Below w.heap.size w w' := by
  have hz := zero45
  have HI := hid hI
  clear hI
  refine (callsIn_wide (n := 5)).1 (callsIn_of_wp_marks Try.func96 rfl trivial ?_ rfl)
  simp only [Try.ntmps96, List.size_toArray, List.length_cons, List.length_nil, Nat.reduceAdd, Nat.reduceSub, Array.replicate_succ, Array.replicate_zero, List.push_toArray, List.append_toArray, List.nil_append, List.cons_append]
  refine wpIn_wide.2 ?_
  go_wp2_with (first | (go_at_call 122; refine (table_any _).mono ?_; rintro e w1 ⟨cs, rfl, hV, hb1⟩; have HV := hid hV; clear hV; have hi := hid (show (Try.prog.info? 190).map (·.size) = some cs.size by rw [HV.out.1]; kernel_rfl); have h1c := hid (HV.out.one)) | (refine wpList_store_row rfl 190 _ _ rfl _ cs rfl rfl 190 Z256 (heap_alloc_new _ _) hi.out (by rw [HV.out.1]; rfl) h1c.out ?_))
  clear hz
  have hI5 := hid (inB_new w1 cs HV.out)
  have hb5 := hid (below_new w w1 cs hb1)
  have hsz : ((w1.alloc (Obj.cells Z256 190)).setRow w1.heap.size cs).heap.size = w1.heap.size + 1 := by simp
  have HN := nt_eq sum hsum
  have HNL := nt_lt sum hsum
  rw [HN]
  generalize hw5 : (w1.alloc (Obj.cells Z256 190)).setRow w1.heap.size cs = w5 at hI5 hb5 hsz ⊢
  clear hw5
  refine ((callsIn_wide (n := 4)).1 (bytesOf_in Fence.wide 4 trivial rfl a len cap _)).mono ?_
  rintro e w' ⟨rfl, rfl⟩
  go_wp2_with fail
  obtain ⟨wS, hwS⟩ : ∃ wS, wS = (w5.alloc (Obj.cells #[Value.int IntKind.u32 ↑(nt sum)] 58)).alloc (Obj.cells #[Value.slice a len cap] 25) := ⟨_, rfl⟩
  have hI6 := hid (inS hwS hb5.out hI5.out hsz)
  rw [← hwS]
  obtain ⟨i1, i2, i3, i4, i5, i6⟩ := hI6.out
  have i7 := hb1.size
  refine (wpIn_wide (n := 5)).1 ?_
  refine wpIn_rangeFunc_ownF (F := Fence.wide) (n := 5) rfl (by omega) (gf := 132) (lb := #[.pointer (some ⟨w1.heap.size + 1 + 1, 0, none⟩)]) rfl trivial (enters_of Try.func132 (by kernel_rfl) rfl)
    (bytesOf_stops Fence.wide 4 trivial rfl (by omega) (w1.heap.size + 1 + 1) w.heap.size a len cap ws hreach wS (by omega) i5.size i4 (HI.out.below i5)) belowK_t (belowK_b i5.size) (Below.refl _ _) (fun _ => rfl)
    (fun pre W => (W.cell? ⟨w1.heap.size + 1, 0, none⟩ = some (.int .u32 (fdl (nt sum) pre : Nat)) ∧ W.frozen? ⟨w1.heap.size + 1, 0, none⟩ = false ∧ InB w1.heap.size W) ∧ Below w.heap.size w W)
    (fun _ _ _ => False)
    (OwnFrom.and (Own.from (fun s A B row hs hg hr => ⟨cell_kept hs.1 hg hr, (frozen_kept hs.1 hg hr).trans hs.2.1, fun x hx => cell_kept (hs.2.2 x hx) hg hr⟩) _) (ownFrom_below (Nat.le_refl _) i5.size))
    (fun _ _ _ _ _ hs _ _ => hs)
    ⟨⟨i1, i2, i3⟩, i5⟩
    (fun x => { tmps := #[.int .u32 ↑sum, .slice a len cap, undef, undef, .int .u32 0, .pointer (some ⟨w1.heap.size, 0, none⟩), .pointer (some ⟨w1.heap.size + 1, 0, none⟩), .int .u8 (x.1 : Int), .agg cs, .int .u32 ↑sum, .int .u32 ↑(nt sum), .slice a len cap, .func (.func 132) #[] #[.pointer (some ⟨w1.heap.size + 1 + 1, 0, none⟩)], .int .u8 (x.1 : Int), undef, undef, undef, undef, undef, undef, undef, undef, undef, undef, undef], defers := [] }) ?assign ?body ?done ?stop
  case assign =>
    intro l x W K hK
    gi_wp2
    exact hK
  case body =>
    rintro l pre x W ⟨⟨hc, hf, hB⟩, hBW⟩ _
    have hr := fdl_lt (nt sum) HNL pre
    have hsn := hid (fdl_snoc (nt sum) pre x)
    generalize fdl (nt sum) pre = r at hc hr hsn
    have hx2 := x.2
    have he := idx_eq r x.1 hr hx2
    have hi := idx_lt r x.1 hx2
    have ht := hB _ hi
    have hfd := hid (fd_eq r x.1 hr hx2)
    generalize hcc : x.1 = c at *
    generalize hix : (r % 256) ^^^ c = y at he hi ht hfd
    clear hix
    have hi2 : (y : Int) < 256 := by omega
    have hi3 : (0 : Int) ≤ y := by omega
    have hBB := hid hB
    clear hB
    have hwr : IntKind.u8.wrap (r : Int) = (r : Int) % 256 := by simp [IntKind.wrap, IntKind.bits, IntKind.signed]
    have hmx : Try.prog.follows .mixedOrders = true := by kernel_rfl
    gi_wp2
    gi_region_with_o (fail)
    all_goals
      rw [hfd.out, ← hsn.out]
      gi_wp2
      exact body_end hBW hc hf hBB.out i7 _
  case done =>
    rintro D ys W hD rfl ⟨⟨hc, hf, _⟩, hB⟩ hK
    have HK := hid hK
    clear hK
    have hr := fdl_lt (nt sum) HNL (upto (bt8 ws) (8 * len))
    obtain ⟨r, hrr⟩ : ∃ r, r = fdl (nt sum) (upto (bt8 ws) (8 * len)) := ⟨_, rfl⟩
    rw [← hrr] at hc hr
    have HRR := hid hrr
    clear hrr
    have hn := nt_eq r hr
    go_wp2_with fail
    refine ⟨by simp, .inl ⟨_, _, rfl, run_takeDeferred HK.out, ?_⟩⟩
    exact ⟨_, results_tmp rfl _ _ _, by simp; rw [HRR.out], hB.trans (belowK_b (w := w) (Nat.le_refl _) W D _ _ (by have := i5.size; omega) HK.out rfl rfl)⟩
  case stop =>
    rintro D c pre W _ _ h _
    exact h.elim
end Go.Proofs.Ytbgbjgedjmhcaaa.OldA
namespace Go.Proofs.Ytbgbjgedjmhcaaa.OldA
open Go.ChangeShapes Go.WideShapes Go.ChangeAt Go.RowKit
def ext (sum : Nat) (ws : List Nat) (len : Nat) : Nat := nt (wds (nt sum) ws len)
theorem ext_lt (sum : Nat) (h : sum < 4294967296) (ws : List Nat) (len : Nat) : ext sum ws len < 4294967296 := nt_lt _ (wds_lt _ _ _ (nt_lt _ h))
theorem extend_ok (sum : Nat) (hsum : sum < 4294967296) (a : Option Addr) (len cap : Nat) (ws : List Nat) (hreach : len * 8 ≤ 140737488351232) (w : World) (hI : Wo w.heap.size w a len ws) :
    Calls Try.prog 96 #[.int .u32 (sum : Int), .slice a len cap] w fun e w' => e = .returned (.int .u32 (ext sum ws len : Nat)) ∧ Below w.heap.size w w' := by
  have h := extend_any sum hsum a len cap ws hreach w hI
  rwa [show fdl (nt sum) (upto (bt8 ws) (8 * len)) = wds (nt sum) ws len from wds_fdl _ _ _] at h
theorem words_ok (a : Option Addr) (len cap : Nat) (ws : List Nat) (hreach : len * 8 ≤ 140737488351232) (w : World) (hI : Wo w.heap.size w a len ws) :
    Calls Try.prog 95 #[.slice a len cap] w fun e w' => e = .returned (.int .u32 (ext 0 ws len : Nat)) ∧ Below w.heap.size w w' := by
  have H := hid (extend_ok 0 (by omega) a len cap ws hreach w hI)
  generalize ext 0 ws len = r at *
  clear hI
  go_enter Try.func95, Try.ntmps95
  go_wp2_with fail
  refine Calls.mono H.out ?_
  rintro e w1 ⟨rfl, hb1⟩
  go_wp2_with fail
  go_ret
  exact ⟨rfl, hb1⟩
theorem rextend_ok (sum : Nat) (hsum : sum < 4294967296) (a : Option Addr) (len cap : Nat) (ws : List Nat) (hreach : len * 8 ≤ 140737488351232) (w : World) (hI : Wo w.heap.size w a len ws) :
    Calls Try.prog 124 #[.int .u32 (sum : Int), .slice a len cap] w fun e w' => e = .returned (.int .u32 (ext sum ws len : Nat)) ∧ w = w' :=
  rextend_any sum hsum a len cap ws (by omega) _ w hI
theorem rwords_ok (a : Option Addr) (len cap : Nat) (ws : List Nat) (hreach : len * 8 ≤ 140737488351232) (w : World) (hI : Wo w.heap.size w a len ws) :
    Calls Try.prog 97 #[.slice a len cap] w fun e w' => e = .returned (.int .u32 (ext 0 ws len : Nat)) ∧ w = w' := by
  have H := hid (rextend_ok 0 (by omega) a len cap ws hreach w hI)
  generalize ext 0 ws len = r at *
  clear hI
  go_enter Try.func97, Try.ntmps97
  go_wp2_with fail
  refine Calls.mono H.out ?_
  rintro e w1 ⟨rfl, rfl⟩
  go_wp2_with fail
  go_ret
  exact ⟨rfl, rfl⟩
theorem Wo.kept {w w' : World} {a : Option Addr} {len : Nat} {ws : List Nat} (h : Wo w.heap.size w a len ws) (hb : Below w.heap.size w w') : Wo w'.heap.size w' a len ws := by
  obtain ⟨h1, h2⟩ := h.below hb
  exact ⟨h1, h2.imp id fun ⟨b, off, e, hb', hc⟩ => ⟨b, off, e, Nat.lt_of_lt_of_le hb' hb.size, hc⟩⟩
end Go.Proofs.Ytbgbjgedjmhcaaa.OldA
namespace Go.Proofs.Ytbgbjgedjmhcaaa
open Go.RowKit
theorem mixed : Try.prog.follows .mixedOrders = true := by kernel_rfl
def U (z : Int) : AV := .val (.int .u64 z)
def encU (z : Int) : List AV := [U z]
theorem fits_any (s a n : Int) (hs : 0 ≤ s ∧ s ≤ 9223372036854775807) : CallOK Try.prog 102 [I s, I a, I n] [] (B (decide (0 ≤ a ∧ a ≤ s ∧ 0 ≤ n ∧ n ≤ s - a))) [] := by
  refine CallOK.intro Try.call102 Try.func102 rfl rfl trivial ?_
  refine (Classical.em (a ≥ (0 : Int))).elim (fun hc1 => ?ga0) (fun hc1 => ?gb0)
  case' gb0 =>
    refine Safe.ends mixed Try.func102 4 [⟨100, []⟩, ⟨200, [(1, .tt false)]⟩] (r := B false) (hp := []) (ob := [decide (a ≥ (0 : Int)) = false]) rfl (by kernel_rfl) ⟨(decide_eq_false hc1), trivial⟩ ?_ trivial trivial rfl
  case' ga0 =>
    refine (Classical.em (a ≤ s)).elim (fun hc2 => ?ga1) (fun hc2 => ?gb1)
    case' gb1 =>
      refine Safe.ends mixed Try.func102 4 [⟨100, []⟩, ⟨200, [(1, .tt true), (5, .tt false)]⟩] (r := B false) (hp := []) (ob := [decide (a ≥ (0 : Int)) = true, decide (a ≤ s) = false]) rfl (by kernel_rfl) ⟨(decide_eq_true hc1), (decide_eq_false hc2), trivial⟩ ?_ trivial trivial rfl
    case' ga1 =>
      refine (Classical.em (n ≥ (0 : Int))).elim (fun hc3 => ?ga2) (fun hc3 => ?gb2)
      case' gb2 =>
        refine Safe.ends mixed Try.func102 4 [⟨100, []⟩, ⟨200, [(1, .tt true), (5, .tt true), (9, .tt false)]⟩] (r := B false) (hp := []) (ob := [decide (a ≥ (0 : Int)) = true, decide (a ≤ s) = true, decide (n ≥ (0 : Int)) = false]) rfl (by kernel_rfl) ⟨(decide_eq_true hc1), (decide_eq_true hc2), (decide_eq_false hc3), trivial⟩ ?_ trivial trivial rfl
      case' ga2 =>
        refine Safe.ends mixed Try.func102 4 [⟨100, []⟩, ⟨200, [(1, .tt true), (5, .tt true), (9, .tt true)]⟩] (r := B (decide (n ≤ s - a))) (hp := []) (ob := [decide (a ≥ (0 : Int)) = true, decide (a ≤ s) = true, decide (n ≥ (0 : Int)) = true, inK IntKind.i64 (s - a)]) rfl (by kernel_rfl) ⟨(decide_eq_true hc1), (decide_eq_true hc2), (decide_eq_true hc3), (by simp only [inK]; omega), trivial⟩ ?_ trivial trivial rfl
  · rw [show (decide (0 ≤ a ∧ a ≤ s ∧ 0 ≤ n ∧ n ≤ s - a)) = decide (n ≤ s - a) from decide_eq_decide.2 (by omega)]; rfl
  · rw [decide_eq_false (show ¬ (0 ≤ a ∧ a ≤ s ∧ 0 ≤ n ∧ n ≤ s - a) by omega)]; rfl
  · rw [decide_eq_false (show ¬ (0 ≤ a ∧ a ≤ s ∧ 0 ≤ n ∧ n ≤ s - a) by omega)]; rfl
  · rw [decide_eq_false (show ¬ (0 ≤ a ∧ a ≤ s ∧ 0 ≤ n ∧ n ≤ s - a) by omega)]; rfl
end Go.Proofs.Ytbgbjgedjmhcaaa
