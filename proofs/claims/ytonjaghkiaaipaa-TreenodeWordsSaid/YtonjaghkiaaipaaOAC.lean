/- The table of the checksum: what the call returns, and that it changes nothing that was there. No condition. -/
import Derived.Test.YtonjaghkiaaipaaRows
import Derived.WalkKit
import Derived.ProofKit
import Derived.OpenShut
import Derived.LoopTactic
import Derived.Outline
import Derived.Below
import Derived.WalkLawsBesides
import Derived.Laws.Rows
import Derived.Laws.Tables
import Derived.Laws.BitsAllLaws
namespace Go.Proofs.Ytonjaghkiaaipaa.OldA
open Go.ChangeShapes Go.WideShapes Go.ChangeAt Go.RowKit
set_option linter.unusedVariables false

theorem hid {p : Prop} (h : p) : Hid p := h
theorem bt {W a b : World} (h : Below W.heap.size W a) (k : Below a.heap.size a b) : Below W.heap.size W b := h.trans (k.mono h.size)

def sh (r : Nat) : Nat := if r % 2 = 1 then (r / 2) ^^^ 2197175160 else r / 2

theorem sh_lt (r : Nat) (h : r < 4294967296) : sh r < 4294967296 := by
  unfold sh
  split
  · have : r / 2 ^^^ 2197175160 < 2 ^ 32 := Nat.xor_lt_two_pow (by omega) (by omega)
    omega
  · omega


theorem and1 (r : Nat) (h : r < 4294967296) : bits .and .u32 (r : Int) 1 = ((r % 2 : Nat) : Int) := by
  rw [show (1 : Int) = ((1 : Nat) : Int) from rfl, u32_and_nat r 1 h (by omega), Nat.and_one_is_mod]

theorem shift_any (r : Nat) (h : r < 4294967296) (w : World) :
    Calls Try.prog 71 #[.int .u32 (r : Int)] w fun e w' => e = .returned (.int .u32 (sh r : Nat)) ∧ w = w' := by
  have e1 := and1 r h
  by_cases hr : r % 2 = 1
  · have H := hid (show bits .xor .u32 ((r : Int) / 2) 2197175160 = (sh r : Nat) by
      rw [sh, if_pos hr, show (2197175160 : Int) = ((2197175160 : Nat) : Int) from rfl, show ((r : Int) / 2) = ((r / 2 : Nat) : Int) by omega, u32_xor_nat _ _ (by omega) (by omega)])
    have t : (bits .and .u32 (r : Int) 1 == 1) = true := by rw [e1, hr]; rfl
    clear e1
    go_enter Try.func71, Try.ntmps71
    go_wp2
    go_ret
    exact ⟨by rw [← H.out]; rfl, rfl⟩
  · have H := hid (show ((r : Int) / 2) = (sh r : Nat) by rw [sh, if_neg hr]; omega)
    have t : (bits .and .u32 (r : Int) 1 == 1) = false := by rw [e1, show r % 2 = 0 by omega]; rfl
    clear e1
    go_enter Try.func71, Try.ntmps71
    go_wp2
    go_ret
    exact ⟨by rw [← H.out]; rfl, rfl⟩

/-- eight steps of a register -/
def sh8 (r : Nat) : Nat := sh (sh (sh (sh (sh (sh (sh (sh r)))))))
/-- what k steps make of 1 -/
def rr : Nat → Nat
  | 0 => 1
  | k + 1 => sh (rr k)

theorem rr_lt (k : Nat) : rr k < 4294967296 := by
  induction k with
  | zero => decide
  | succ k ih => exact sh_lt _ ih

theorem tab_sum : ∀ K, K < 8 → ∀ j, j < 256 → j % (256 >>> K) = 0 → sh8 ((128 >>> K) + j) = rr (K + 1) ^^^ sh8 j := by decide +kernel
theorem sh8_lt (r : Nat) (h : r < 4294967296) : sh8 r < 4294967296 :=
  sh_lt _ (sh_lt _ (sh_lt _ (sh_lt _ (sh_lt _ (sh_lt _ (sh_lt _ (sh_lt _ h)))))))

def Z256 : Array Value := Array.replicate 256 (.int .u32 0)
theorem zero45 (w : World) : (zeroValue 94).run Try.prog w = .ok (.agg Z256) w := by kernel_rfl


/-- block B holds 256 words, of which those with 'P' are the table's -/
def TB (B : Nat) (w : World) (P : Nat → Prop) : Prop :=
  ∃ cs : Array Value, w.heap[B]? = some (.cells cs 94 (0, 0)) ∧ cs.size = 256 ∧ (∀ x, x < 256 → ∃ v : Int, cs[x]? = some (.int .u32 v)) ∧ ∀ x, x < 256 → P x → cs[x]? = some (.int .u32 (sh8 x : Nat))

theorem TB.cell {B : Nat} {w : World} {P : Nat → Prop} (h : TB B w P) (x : Nat) (hx : x < 256) (hP : P x) : w.cell? ⟨B, x, none⟩ = some (.int .u32 (sh8 x : Nat)) := by
  obtain ⟨cs, h1, h2, _, h3⟩ := h
  rw [cell_of_row w B x cs 94 (0, 0) h1, h3 x hx hP]
theorem TB.some {B : Nat} {w : World} {P : Nat → Prop} (h : TB B w P) (x : Nat) (hx : x < 256) : ∃ v : Int, w.cell? ⟨B, x, none⟩ = .some (.int .u32 v) := by
  obtain ⟨cs, h1, h2, h4, h3⟩ := h
  obtain ⟨v, hv⟩ := h4 x hx
  exact ⟨v, by rw [cell_of_row w B x cs 94 (0, 0) h1, hv]⟩
theorem TB.frozen {B : Nat} {w : World} {P : Nat → Prop} (h : TB B w P) (x : Nat) : w.frozen? ⟨B, x, none⟩ = false := by
  obtain ⟨cs, h1, _⟩ := h
  exact frozen_of_row w B x cs 94 h1
theorem TB.store {B : Nat} {w : World} {P Q : Nat → Prop} (h : TB B w P) (y : Nat) (hy : y < 256) (v : Nat) (hv : v = sh8 y) (hQ : ∀ x, x < 256 → Q x → P x ∨ x = y) :
    TB B (w.setCell ⟨B, y, none⟩ (.int .u32 (v : Int))) Q := by
  obtain ⟨cs, h1, h2, h4, h3⟩ := h
  refine ⟨cs.setIfInBounds y (.int .u32 (v : Int)), heap_setCell_same w B y cs 94 _ h1, by simpa using h2, fun x hx => ?_, fun x hx hq => ?_⟩
  · rw [Array.getElem?_setIfInBounds]
    by_cases e : y = x
    · rw [if_pos e, if_pos (by omega)]; exact ⟨_, rfl⟩
    · rw [if_neg e]; exact h4 x hx
  · rw [Array.getElem?_setIfInBounds]
    by_cases e : y = x
    · rw [if_pos e, if_pos (by omega), hv, e]
    · rw [if_neg e]
      rcases hQ x hx hq with h | h
      · exact h3 x hx h
      · omega
theorem TB.mono {B : Nat} {w : World} {P Q : Nat → Prop} (h : TB B w P) (hQ : ∀ x, x < 256 → Q x → P x) : TB B w Q := by
  obtain ⟨cs, h1, h2, h4, h3⟩ := h
  exact ⟨cs, h1, h2, h4, fun x hx hq => h3 x hx (hQ x hx hq)⟩

theorem TB.new (w : World) (B : Nat) (h : w.heap[B]? = .some (.cells Z256 94 (0, 0))) : TB B w (fun x => x % 256 = 0) := by
  refine ⟨Z256, h, by simp [Z256], fun x hx => ⟨0, by simp [Z256, hx]⟩, fun x hx h0 => ?_⟩
  obtain rfl : x = 0 := by omega
  have h8 : sh8 0 = 0 := by decide
  rw [h8]
  simp [Z256]

/-- the value of the table -/
def TabV (cs : Array Value) : Prop := cs.size = 256 ∧ ∀ x, x < 256 → cs[x]? = some (.int .u32 (sh8 x : Nat))

/-- what a round of the table's outer loop uses of its numbers -/
structure Lv (K n S : Nat) : Prop where
  le : n ≤ 128
  ge : 1 ≤ n
  dbl : S = 2 * n
  nx : ∀ j, j < 256 → j % S = 0 → j + S ≤ 256 ∧ (j + S) % S = 0
  cov : ∀ j x, j < 256 → x < 256 → j % S = 0 → (x % S = 0 ∨ (x % S = n ∧ x < j + S + n)) → (x % S = 0 ∨ (x % S = n ∧ x < j + n)) ∨ x = n + j
  lst : ∀ x, x < 256 → x % n = 0 → x % S = 0 ∨ x % S = n
  sum : ∀ j, j < 256 → j % S = 0 → sh8 (n + j) = rr (K + 1) ^^^ sh8 j

theorem lv (K : Nat) (h : K < 8) : Lv K (128 >>> K) (256 >>> K) := by
  have TS := tab_sum K h
  have hK' : K = 0 ∨ K = 1 ∨ K = 2 ∨ K = 3 ∨ K = 4 ∨ K = 5 ∨ K = 6 ∨ K = 7 := by omega
  rcases hK' with rfl | rfl | rfl | rfl | rfl | rfl | rfl | rfl
  all_goals
    refine ⟨by decide, by decide, by decide, fun j h1 h2 => ?_, fun j x h1 h2 h3 h4 => ?_, fun x h1 h2 => ?_, TS⟩
    all_goals
      simp only [Nat.reduceShiftRight] at *
      omega

set_option maxRecDepth 100000 in
theorem table_any (w : World) :
    Calls Try.prog 67 #[] w fun e w' => ∃ cs, e = .returned (.agg cs) ∧ TabV cs ∧ Below w.heap.size w w' := by
  have hz := zero45
  go_enter Try.func67, Try.ntmps67
  go_wp2
  clear hz
  go_loopw [2, 3] (fun r i wr => ∃ K n S : Nat, K ≤ 8 ∧ i = .int .i64 (n : Int) ∧ r = .int .u32 (rr K : Nat) ∧ Hid (n = 128 >>> K ∧ S = 256 >>> K) ∧ TB (w.heap.size + 1) wr (fun x => x % S = 0) ∧ wr.heap[w.heap.size]? = some (.cells Z256 94 (0, 0)) ∧ Below w.heap.size w wr) (fun _ i _ => (intOf i).toNat)
  case atStart =>
    refine ⟨0, 128, 256, by omega, rfl, rfl, ⟨rfl, rfl⟩, (TB.new _ _ ?_), ?_, ((Below.refl _ _).alloc (Nat.le_refl _) _).alloc (by simp) _⟩
    · exact heap_alloc2_new w _ _
    · exact heap_alloc2_old w _ _
  case round =>
    obtain ⟨K, n, S, hK, rfl, rfl, HI, hT, hO, hB⟩ := hrel
    by_cases hk8 : K = 8
    · subst hk8
      obtain rfl : n = 0 := HI.out.1
      obtain ⟨cs, g1, g2, _, g3⟩ := hT
      have hg1 := hid g1
      have hO' := hid hO
      have HV := hid (show TabV cs from ⟨g2, fun x hx => g3 x hx (by rw [HI.out.2]; exact Nat.mod_one x)⟩)
      have hsz : w.heap.size + 1 < wr.heap.size := (Array.getElem?_eq_some_iff.1 g1).1
      clear g1 g2 g3 hO HI hK
      have hi := hid (show (Try.prog.info? 94).map (·.size) = some cs.size by rw [HV.out.1]; kernel_rfl)
      have h1c := hid (show cs.all (·.oneCell') = true by
        rw [Array.all_eq_true]
        intro x hx
        have := HV.out.2 x (by have := HV.out.1; omega)
        rw [Array.getElem?_eq_getElem hx] at this
        rw [Option.some.inj this]; rfl)
      go_wp2_with (first | (refine wpList_load_row rfl 94 _ rfl (w.heap.size + 1) rfl 94 cs (0, 0) _ hg1.out Try.underlying94 rfl hi.out ?_) | (refine wpList_store_row rfl 94 _ _ rfl w.heap.size cs rfl rfl 94 Z256 hO'.out hi.out (by rw [HV.out.1]; rfl) h1c.out ?_))
      refine bodyPost_ret (v := .agg cs) (results_cell_row (fn := Try.f67) (p := 0) (ty := 94) rfl _ _ w.heap.size 94 cs (0, 0) _ rfl (setRow_heap _ _ Z256 _ 94 _ hO'.out) Try.underlying94 rfl hi.out) rfl ⟨cs, rfl, HV.out, ?_⟩
      exact hB.trans ⟨rfl, rfl, rfl, by simp, fun k hk => setRow_other _ _ _ _ (by omega)⟩
    · have L := hid (lv K (by omega))
      rw [← HI.out.1, ← HI.out.2] at L
      have hr1 := rr_lt K
      have hr2 := rr_lt (K + 1)
      have hT' := hid hT
      have hO' := hid hO
      have hn1 := L.out.le
      have hn2 := L.out.ge
      have HR := hid (show rr (K + 1) = sh (rr K) from rfl)
      have hK7 : K + 1 ≤ 8 := by omega
      clear hT hO hK hk8
      go_wp2_with fail
      refine (shift_any _ hr1 _).mono ?_
      rintro e w1 ⟨rfl, rfl⟩
      rw [← HR.out]
      go_wp2_with fail
      go_loopw [4] (fun jv w5 => ∃ j : Nat, j ≤ 256 ∧ Hid (j % S = 0) ∧ jv = .int .i64 (j : Int) ∧ TB (w.heap.size + 1) w5 (fun x => x % S = 0 ∨ (x % S = n ∧ x < j + n)) ∧ w5.heap[w.heap.size]? = some (.cells Z256 94 (0, 0)) ∧ Below w.heap.size w w5) (fun jv _ => 256 - (intOf jv).toNat)
      case atStart => exact ⟨0, by omega, Nat.zero_mod _, rfl, hT'.out.mono (fun x hx h => by
        rcases h with h | ⟨h, h'⟩
        · exact h
        · have hd := L.out.dbl; rw [Nat.mod_eq_of_lt (by omega)] at h; omega), hO'.out, hB⟩
      case round =>
        obtain ⟨j, hj1, hj2, rfl, hT5, hO5, hB5⟩ := hrel
        have hT5' := hid hT5
        have hO5' := hid hO5
        clear hT5 hO5
        by_cases hj : j < 256
        · have c1 := hT5'.out.cell j hj (.inl hj2.out)
          have hd := L.out.dbl
          obtain ⟨hj3, hj4⟩ := L.out.nx j hj hj2.out
          obtain ⟨v0, c2⟩ := hT5'.out.some (n + j) (by omega)
          have c3 := hT5'.out.frozen (n + j)
          have hb := sh8_lt j (by omega)
          have HX := hid (u32_xor_nat (rr (K + 1)) (sh8 j) hr2 hb)
          have HS := hid (L.out.sum j hj hj2.out)
          have hj5 : n + j < 256 := by omega
          have hj6 : (n : Int) + j < 256 := by omega
          have HJ3 := hid hj3
          have HJ4 := hid hj4
          have HD := hid hd
          clear hj3 hj4 hd
          go_wp2_with fail
          go_roundw
          case rel =>
            rw [HX.out]
            exact ⟨j + S, HJ3.out, HJ4.out, by rw [HD.out]; go_num, hT5'.out.store (n + j) hj5 _ HS.out.symm (fun x hx hq => L.out.cov j x hj hx hj2.out hq), (heap_setCell_other _ _ _ _ (by simp)).trans hO5'.out, hB5.setCell (by simp) _⟩
          case measure => simp [intOf]; omega
        · obtain rfl : j = 256 := by omega
          go_wp2_with fail
          go_roundw
          case rel => exact ⟨K + 1, n / 2, n, hK7, by go_num, rfl, ⟨by rw [Nat.shiftRight_succ, ← HI.out.1], by rw [Nat.shiftRight_succ, ← HI.out.2, L.out.dbl]; omega⟩, hT5'.out.mono (fun x hx h => by
            rcases L.out.lst x hx h with h | h
            · exact .inl h
            · exact .inr ⟨h, by omega⟩), hO5'.out, hB5⟩
          case measure => simp [intOf]; omega
end Go.Proofs.Ytonjaghkiaaipaa.OldA
