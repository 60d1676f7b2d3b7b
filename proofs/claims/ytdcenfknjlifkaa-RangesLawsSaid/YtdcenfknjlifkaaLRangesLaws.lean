/- For all lists a, b and c of ranges: RangesLaws returns true and leaves its arguments as they were. No condition. -/
import Derived.Test.YtdcenfknjlifkaaRows
import Derived.WalkKit
import Derived.ProofKit
import Derived.OpenShut
import Derived.ShutString
import Derived.ChangeOld
import Derived.Below
import Derived.Carry
import Derived.Test.YtdcenfknjlifkaaZ
import Derived.Test.YtdcenfknjlifkaaS
namespace Go.Proofs.Ytdcenfknjlifkaa.rangesLaws
open Go.ChangeShapes Go.WideShapes Go.ChangeAt Go.RowKit
open Go.ChangeMaps (open_string shut_string)
set_option linter.unusedVariables false

theorem own : ownKnob Try.prog.godebug = none := by kernel_rfl
theorem laidOut : laidOutB Try.prog = true := by kernel_rfl

set_option linter.unusedSimpArgs false

/-- how many of the first numbers have a property -/
def cn (p : Int → Bool) : Nat → Int
  | 0 => 0
  | k + 1 => cn p k + if p (k : Int) then 1 else 0
theorem cn_bd (p : Int → Bool) (k : Nat) : 0 ≤ cn p k ∧ cn p k ≤ k := by
  induction k with
  | zero => simp [cn]
  | succ k ih => unfold cn; split <;> omega
theorem cn_ie (p q : Int → Bool) (k : Nat) : cn (fun j => p j || q j) k + cn (fun j => p j && q j) k = cn p k + cn q k := by
  induction k with
  | zero => rfl
  | succ k ih =>
    have h : ∀ x y : Bool, (if (x || y) = true then (1 : Int) else 0) + (if (x && y) = true then (1 : Int) else 0) = (if x = true then (1 : Int) else 0) + (if y = true then (1 : Int) else 0) := by decide
    have := h (p k) (q k)
    simp only [cn]
    omega
theorem cn_congr (p q : Int → Bool) (k : Nat) (h : ∀ j, p j = q j) : cn p k = cn q k := by
  have : p = q := funext h
  rw [this]
theorem cn_none (p : Int → Bool) (k : Nat) (h : ∀ j, p j = false) : cn p k = 0 := by
  induction k with
  | zero => rfl
  | succ k ih => simp [cn, ih, h]
theorem cn_run (s l : Int) (hs : 0 ≤ s) (hl : 0 ≤ l) (k : Nat) : cn (fun j => decide (s ≤ j ∧ j < s + l)) k = if (k : Int) ≤ s then 0 else if (k : Int) ≤ s + l then (k : Int) - s else l := by
  induction k with
  | zero => simp [cn]; omega
  | succ k ih =>
    show cn _ k + (if decide (s ≤ (k : Int) ∧ (k : Int) < s + l) = true then 1 else 0) = _
    rw [ih]
    by_cases h1 : s ≤ (k : Int) ∧ (k : Int) < s + l
    · rw [if_pos (decide_eq_true h1 : decide (s ≤ (k : Int) ∧ (k : Int) < s + l) = true)]
      rw [if_neg (by omega : ¬ ((k + 1 : Nat) : Int) ≤ s), if_pos (by omega : ((k + 1 : Nat) : Int) ≤ s + l)]
      by_cases h2 : (k : Int) ≤ s
      · rw [if_pos h2]; omega
      · rw [if_neg h2, if_pos (by omega)]; omega
    · rw [if_neg (by rw [decide_eq_false h1]; simp : ¬ decide (s ≤ (k : Int) ∧ (k : Int) < s + l) = true), Int.add_zero]
      by_cases h2 : (k : Int) ≤ s
      · rw [if_pos h2]
        by_cases h3 : ((k + 1 : Nat) : Int) ≤ s
        · rw [if_pos h3]
        · rw [if_neg h3]
          by_cases h4 : ((k + 1 : Nat) : Int) ≤ s + l
          · rw [if_pos h4]; omega
          · rw [if_neg h4]; omega
      · rw [if_neg h2, if_neg (by omega : ¬ ((k + 1 : Nat) : Int) ≤ s), if_neg (by omega : ¬ ((k + 1 : Nat) : Int) ≤ s + l)]
        by_cases h4 : (k : Int) ≤ s + l
        · rw [if_pos h4]; omega
        · rw [if_neg h4]
theorem sm_cn (X : List Rn) (h : NF X) (N : Nat) (hN : ∀ r ∈ X, r.1 + r.2 ≤ N) : sm X = cn (fun j => decide (Mem X j)) N := by
  induction X with
  | nil => exact (cn_none _ _ (fun j => decide_eq_false (mem_nil j))).symm
  | cons r l ih =>
    have ht := nf_tail h
    have hr := h.1 r (by simp)
    have hN0 := hN r (by simp)
    have hsep := (List.pairwise_cons.1 h.2).1
    have e1 : ∀ j, decide (Mem (r :: l) j) = (decide (r.1 ≤ j ∧ j < r.1 + r.2) || decide (Mem l j)) := fun j => by
      have := mem_cons r l j
      by_cases p : r.1 ≤ j ∧ j < r.1 + r.2
      · rw [decide_eq_true p, decide_eq_true (this.2 (.inl p))]; rfl
      · by_cases q : Mem l j
        · rw [decide_eq_true q, decide_eq_true (this.2 (.inr q))]; simp
        · rw [decide_eq_false p, decide_eq_false q, decide_eq_false (fun hm => (this.1 hm).elim p q)]; rfl
    have e2 : ∀ j, (decide (r.1 ≤ j ∧ j < r.1 + r.2) && decide (Mem l j)) = false := fun j => by
      by_cases q : Mem l j
      · have : ¬ (r.1 ≤ j ∧ j < r.1 + r.2) := fun p => by
          obtain ⟨x, hx, h1, h2⟩ := q
          have := hsep x hx
          omega
        rw [decide_eq_false this]; rfl
      · rw [decide_eq_false q]; simp
    have h3 := cn_ie (fun j => decide (r.1 ≤ j ∧ j < r.1 + r.2)) (fun j => decide (Mem l j)) N
    rw [cn_none _ N e2, cn_run r.1 r.2 hr.1 (by omega) N, ← ih ht (fun x hx => hN x (by simp [hx]))] at h3
    rw [cn_congr _ _ N e1]
    simp only [sm]
    by_cases h4 : (N : Int) ≤ r.1
    · omega
    · rw [if_neg h4] at h3
      by_cases h5 : (N : Int) ≤ r.1 + r.2
      · rw [if_pos h5] at h3; omega
      · rw [if_neg h5] at h3; omega
theorem laws_sum (A B : List Rn) (hA : ∀ r ∈ A, 0 ≤ r.1 ∧ r.1 < 64 ∧ 0 ≤ r.2 ∧ r.2 < 16) (hB : ∀ r ∈ B, 0 ≤ r.1 ∧ r.1 < 64 ∧ 0 ≤ r.2 ∧ r.2 < 16) (D F G J : List Rn) (hD : NF D) (hF : NF F) (hG : NF G) (hJ : NF J)
    (hDm : ∀ n, Mem D n ↔ Mem A n) (hFm : ∀ n, Mem F n ↔ Mem B n) (hGm : ∀ n, Mem G n ↔ (Mem A n ∧ Mem B n)) (hJm : ∀ n, Mem J n ↔ (Mem A n ∨ Mem B n)) :
    sm J + sm G = sm D + sm F ∧ 0 ≤ sm J ∧ sm J ≤ 80 ∧ 0 ≤ sm G ∧ sm G ≤ 80 ∧ (0 ≤ sm D ∧ sm D ≤ 80) ∧ (0 ≤ sm F ∧ sm F ≤ 80) := by
  have bA : ∀ n, Mem A n → n < 80 := fun n ⟨r, hr, h1, h2⟩ => by have := hA r hr; omega
  have bB : ∀ n, Mem B n → n < 80 := fun n ⟨r, hr, h1, h2⟩ => by have := hB r hr; omega
  have top : ∀ Z : List Rn, NF Z → (∀ n, Mem Z n → n < 80) → ∀ r ∈ Z, r.1 + r.2 ≤ ((80 : Nat) : Int) := fun Z hZ hb r hr => by
    have h1 := hZ.1 r hr
    have := hb (r.1 + r.2 - 1) ⟨r, hr, by omega, by omega⟩
    omega
  have sD := sm_cn D hD 80 (top D hD fun n hn => bA n ((hDm n).1 hn))
  have sF := sm_cn F hF 80 (top F hF fun n hn => bB n ((hFm n).1 hn))
  have sG := sm_cn G hG 80 (top G hG fun n hn => bA n ((hGm n).1 hn).1)
  have sJ := sm_cn J hJ 80 (top J hJ fun n hn => ((hJm n).1 hn).elim (bA n) (bB n))
  have h := cn_ie (fun j => decide (Mem D j)) (fun j => decide (Mem F j)) 80
  have eJ : ∀ j, decide (Mem J j) = (decide (Mem D j) || decide (Mem F j)) := fun j => by
    have h1 := hJm j; have h2 := hDm j; have h3 := hFm j
    by_cases p : Mem A j <;> by_cases q : Mem B j <;> simp [h1, h2, h3, p, q]
  have eG : ∀ j, decide (Mem G j) = (decide (Mem D j) && decide (Mem F j)) := fun j => by
    have h1 := hGm j; have h2 := hDm j; have h3 := hFm j
    by_cases p : Mem A j <;> by_cases q : Mem B j <;> simp [h1, h2, h3, p, q]
  rw [← cn_congr _ _ 80 eJ, ← cn_congr _ _ 80 eG, ← sD, ← sF, ← sG, ← sJ] at h
  have b1 := cn_bd (fun j => decide (Mem D j)) 80
  have b2 := cn_bd (fun j => decide (Mem F j)) 80
  have b3 := cn_bd (fun j => decide (Mem G j)) 80
  have b4 := cn_bd (fun j => decide (Mem J j)) 80
  rw [← sD] at b1
  rw [← sF] at b2
  rw [← sG] at b3
  rw [← sJ] at b4
  omega

set_option maxRecDepth 100000 in
set_option maxHeartbeats 4000000 in
theorem walk {H : Type} {enc : TypeId × Value → H} {base : Nat} {d0 d1 d2 : DataW H} {p0 p1 p2 : List MemPlace} (v0 v1 v2 : Value) (w : World) (ok0 : Value.okWide Try.prog w .any base 22 v0) (k0 : DataW.Trod enc Try.prog w 0 (fun _ => true) true 22 v0 d0 p0) (ok1 : Value.okWide Try.prog w .any base 22 v1) (k1 : DataW.Trod enc Try.prog w 0 (fun _ => true) true 22 v1 d1 p1) (ok2 : Value.okWide Try.prog w .any base 22 v2) (k2 : DataW.Trod enc Try.prog w 0 (fun _ => true) true 22 v2 d2 p2) :
    Calls Try.prog 6 #[v0, v1, v2] w fun e w' => e = .returned (.bool true) ∧ Below w.heap.size w w' := by
  obtain ⟨a0, n0, c0, rs0, rfl, hl0, hR0⟩ := open_ranges ok0 k0
  obtain ⟨a1, n1, c1, rs1, rfl, hl1, hR1⟩ := open_ranges ok1 k1
  obtain ⟨a2, n2, c2, rs2, rfl, hl2, hR2⟩ := open_ranges ok2 k2
  have HR0 := hid hR0; have HR1 := hid hR1; have HR2 := hid hR2
  clear hR0 hR1 hR2 ok0 k0 ok1 k1 ok2 k2
  have hvA := hid (tm_ok rs0); have hvB := hid (tm_ok rs1); have hvC := hid (tm_ok rs2)
  have hbA := hid (tm_vld rs0); have hbB := hid (tm_vld rs1)
  have lA := tm_length rs0; have lB := tm_length rs1; have lC := tm_length rs2
  go_enter Try.func6, Try.ntmps6
  go_wp2_with fail
  refine (tame_any a0 n0 c0 rs0 hl0 _ HR0.out).mono ?_
  rintro e wt ⟨aa, ac, rfl, HH⟩
  have HTa := hid HH.out.1
  have HR1' := hid (HR1.out.kept HH.out.2)
  clear HR1
  have HR2' := hid (HR2.out.kept HH.out.2)
  clear HR2
  have HW := hid HH.out.2
  clear HH
  go_wp2_with fail
  refine (tame_any a1 n1 c1 rs1 hl1 _ HR1'.out).mono ?_
  rintro e wt ⟨ba, bc, rfl, HH⟩
  have HTb := hid HH.out.1
  have HR2 := hid (HR2'.out.kept HH.out.2)
  clear HR2'
  have HTa' := hid (HTa.out.kept HH.out.2)
  clear HTa
  have HW' := hid (bt HW.out HH.out.2)
  clear HW
  clear HH
  go_wp2_with fail
  refine (tame_any a2 n2 c2 rs2 hl2 _ HR2.out).mono ?_
  rintro e wt ⟨ca, cc, rfl, HH⟩
  have HTc := hid HH.out.1
  have HTa := hid (HTa'.out.kept HH.out.2)
  clear HTa'
  have HTb' := hid (HTb.out.kept HH.out.2)
  clear HTb
  have HW := hid (bt HW'.out HH.out.2)
  clear HW'
  clear HH
  generalize tm rs0 = A at *
  generalize tm rs1 = B at *
  generalize tm rs2 = C at *
  go_wp2_with fail
  refine (minus_any aa ba A.length ac B.length bc A B (by omega) (by omega) hvA.out hvB.out _ HTa.out HTb'.out).mono ?_
  rintro e w1' ⟨xa, xn, xc, rfl, X, rfl, hX, ⟨hXl, hXm⟩, HH⟩
  have HRX := hid HH.out.1
  have HTa' := hid (HTa.out.kept HH.out.2)
  clear HTa
  have HTb := hid (HTb'.out.kept HH.out.2)
  clear HTb'
  have HTc' := hid (HTc.out.kept HH.out.2)
  clear HTc
  have HW' := hid (bt HW.out HH.out.2)
  clear HW
  clear HH
  go_wp2_with fail
  refine (meet_any aa ba A.length ac B.length bc A B (by omega) (by omega) hvA.out hvB.out _ HTa'.out HTb.out).mono ?_
  rintro e w2' ⟨ya, yn, yc, rfl, Y, rfl, hY, ⟨hYl, hYm⟩, HH⟩
  have HRY := hid HH.out.1
  have HTa := hid (HTa'.out.kept HH.out.2)
  clear HTa'
  have HTb' := hid (HTb.out.kept HH.out.2)
  clear HTb
  have HTc := hid (HTc'.out.kept HH.out.2)
  clear HTc'
  have HRX' := hid (HRX.out.kept HH.out.2)
  clear HRX
  have HW := hid (bt HW'.out HH.out.2)
  clear HW'
  clear HH
  go_wp2_with fail
  refine (union_any xa ya X.length xc Y.length yc X Y (by omega) (by omega) (nf_vld hX) (nf_vld hY) _ HRX'.out HRY.out).mono ?_
  rintro e w3' ⟨za, zn, zc, rfl, Z, rfl, hZ, ⟨hZl, hZm⟩, HH⟩
  have HRZ := hid HH.out.1
  have HTa' := hid (HTa.out.kept HH.out.2)
  clear HTa
  have HTb := hid (HTb'.out.kept HH.out.2)
  clear HTb'
  have HTc' := hid (HTc.out.kept HH.out.2)
  clear HTc
  have HRX := hid (HRX'.out.kept HH.out.2)
  clear HRX'
  have HRY' := hid (HRY.out.kept HH.out.2)
  clear HRY
  have HW' := hid (bt HW.out HH.out.2)
  clear HW
  clear HH
  go_wp2_with fail
  refine (norm_any aa A.length ac A (by omega) hvA.out _ HTa'.out).mono ?_
  rintro e w4' ⟨ma, mn, mc, rfl, M, rfl, hM, ⟨hMl, hMm⟩, HH⟩
  have HRM := hid HH.out.1
  have HTa := hid (HTa'.out.kept HH.out.2)
  clear HTa'
  have HTb' := hid (HTb.out.kept HH.out.2)
  clear HTb
  have HTc := hid (HTc'.out.kept HH.out.2)
  clear HTc'
  have HRX' := hid (HRX.out.kept HH.out.2)
  clear HRX
  have HRY := hid (HRY'.out.kept HH.out.2)
  clear HRY'
  have HRZ' := hid (HRZ.out.kept HH.out.2)
  clear HRZ
  have HW := hid (bt HW'.out HH.out.2)
  clear HW'
  clear HH
  obtain rfl : M = Z := nf_unique M Z hM hZ fun n => by rw [hMm, hZm, hXm, hYm]; by_cases p : Mem A n <;> by_cases q : Mem B n <;> simp [p, q]
  go_wp2_with fail
  refine (same_any za ma M.length zc mc M (by omega) _ HRZ'.out HRM.out).mono ?_
  rintro e ws ⟨rfl, hb⟩
  have HTa' := hid (HTa.out.kept hb)
  clear HTa
  have HTb := hid (HTb'.out.kept hb)
  clear HTb'
  have HTc' := hid (HTc.out.kept hb)
  clear HTc
  have HRX := hid (HRX'.out.kept hb)
  clear HRX'
  have HRY' := hid (HRY.out.kept hb)
  clear HRY
  have HRZ := hid (HRZ'.out.kept hb)
  clear HRZ'
  have HRM' := hid (HRM.out.kept hb)
  clear HRM
  have HW' := hid (bt HW.out hb)
  clear HW
  clear hb
  go_wp2_with fail
  refine (union_any ba ca B.length bc C.length cc B C (by omega) (by omega) hvB.out hvC.out _ HTb.out HTc'.out).mono ?_
  rintro e w5' ⟨ua, un, uc, rfl, U, rfl, hU, ⟨hUl, hUm⟩, HH⟩
  have HRU := hid HH.out.1
  have HTa := hid (HTa'.out.kept HH.out.2)
  clear HTa'
  have HTb' := hid (HTb.out.kept HH.out.2)
  clear HTb
  have HTc := hid (HTc'.out.kept HH.out.2)
  clear HTc'
  have HRY := hid (HRY'.out.kept HH.out.2)
  clear HRY'
  have HW := hid (bt HW'.out HH.out.2)
  clear HW'
  clear HH
  go_wp2_with fail
  refine (meet_any aa ua A.length ac U.length uc A U (by omega) (by omega) hvA.out (nf_vld hU) _ HTa.out HRU.out).mono ?_
  rintro e w6' ⟨va, vn, vc, rfl, V, rfl, hV, ⟨hVl, hVm⟩, HH⟩
  have HRV := hid HH.out.1
  have HTa' := hid (HTa.out.kept HH.out.2)
  clear HTa
  have HTb := hid (HTb'.out.kept HH.out.2)
  clear HTb'
  have HTc' := hid (HTc.out.kept HH.out.2)
  clear HTc
  have HRY' := hid (HRY.out.kept HH.out.2)
  clear HRY
  have HRU' := hid (HRU.out.kept HH.out.2)
  clear HRU
  have HW' := hid (bt HW.out HH.out.2)
  clear HW
  clear HH
  go_wp2_with fail
  refine (meet_any aa ba A.length ac B.length bc A B (by omega) (by omega) hvA.out hvB.out _ HTa'.out HTb.out).mono ?_
  rintro e w7' ⟨pa, pn, pc, rfl, P, rfl, hP, ⟨hPl, hPm⟩, HH⟩
  have HRP := hid HH.out.1
  have HTa := hid (HTa'.out.kept HH.out.2)
  clear HTa'
  have HTb' := hid (HTb.out.kept HH.out.2)
  clear HTb
  have HTc := hid (HTc'.out.kept HH.out.2)
  clear HTc'
  have HRY := hid (HRY'.out.kept HH.out.2)
  clear HRY'
  have HRU := hid (HRU'.out.kept HH.out.2)
  clear HRU'
  have HRV' := hid (HRV.out.kept HH.out.2)
  clear HRV
  have HW := hid (bt HW'.out HH.out.2)
  clear HW'
  clear HH
  go_wp2_with fail
  refine (meet_any aa ca A.length ac C.length cc A C (by omega) (by omega) hvA.out hvC.out _ HTa.out HTc.out).mono ?_
  rintro e w8' ⟨qa, qn, qc, rfl, Q, rfl, hQ, ⟨hQl, hQm⟩, HH⟩
  have HRQ := hid HH.out.1
  have HTa' := hid (HTa.out.kept HH.out.2)
  clear HTa
  have HTb := hid (HTb'.out.kept HH.out.2)
  clear HTb'
  have HTc' := hid (HTc.out.kept HH.out.2)
  clear HTc
  have HRY' := hid (HRY.out.kept HH.out.2)
  clear HRY
  have HRU' := hid (HRU.out.kept HH.out.2)
  clear HRU
  have HRV := hid (HRV'.out.kept HH.out.2)
  clear HRV'
  have HRP' := hid (HRP.out.kept HH.out.2)
  clear HRP
  have HW' := hid (bt HW.out HH.out.2)
  clear HW
  clear HH
  go_wp2_with fail
  refine (union_any pa qa P.length pc Q.length qc P Q (by omega) (by omega) (nf_vld hP) (nf_vld hQ) _ HRP'.out HRQ.out).mono ?_
  rintro e w9' ⟨ka, kn, kc, rfl, K, rfl, hK, ⟨hKl, hKm⟩, HH⟩
  have HRK := hid HH.out.1
  have HTa := hid (HTa'.out.kept HH.out.2)
  clear HTa'
  have HTb' := hid (HTb.out.kept HH.out.2)
  clear HTb
  have HTc := hid (HTc'.out.kept HH.out.2)
  clear HTc'
  have HRY := hid (HRY'.out.kept HH.out.2)
  clear HRY'
  have HRU := hid (HRU'.out.kept HH.out.2)
  clear HRU'
  have HRV' := hid (HRV.out.kept HH.out.2)
  clear HRV
  have HRP := hid (HRP'.out.kept HH.out.2)
  clear HRP'
  have HRQ' := hid (HRQ.out.kept HH.out.2)
  clear HRQ
  have HW := hid (bt HW'.out HH.out.2)
  clear HW'
  clear HH
  obtain rfl : K = V := nf_unique K V hK hV fun n => by rw [hKm, hPm, hQm, hVm, hUm]; by_cases p : Mem A n <;> by_cases q : Mem B n <;> by_cases r : Mem C n <;> simp [p, q, r]
  go_wp2_with fail
  refine (same_any va ka K.length vc kc K (by omega) _ HRV'.out HRK.out).mono ?_
  rintro e ws ⟨rfl, hb⟩
  have HTa' := hid (HTa.out.kept hb)
  clear HTa
  have HTb := hid (HTb'.out.kept hb)
  clear HTb'
  have HTc' := hid (HTc.out.kept hb)
  clear HTc
  have HRY' := hid (HRY.out.kept hb)
  clear HRY
  have HRU' := hid (HRU.out.kept hb)
  clear HRU
  have HRV := hid (HRV'.out.kept hb)
  clear HRV'
  have HRP' := hid (HRP.out.kept hb)
  clear HRP
  have HRQ := hid (HRQ'.out.kept hb)
  clear HRQ'
  have HRK' := hid (HRK.out.kept hb)
  clear HRK
  have HW' := hid (bt HW.out hb)
  clear HW
  clear hb
  go_wp2_with fail
  refine (count_any aa A.length ac A (by omega) hvA.out _ HTa'.out).mono ?_
  rintro e wc ⟨cD, rfl, D, hD, hDm, hcD, hb⟩
  have HTa := hid (HTa'.out.kept hb.out)
  clear HTa'
  have HTb' := hid (HTb.out.kept hb.out)
  clear HTb
  have HRY := hid (HRY'.out.kept hb.out)
  clear HRY'
  have HW := hid (bt HW'.out hb.out)
  clear HW'
  have HcD := hid hcD
  clear hb hcD
  go_wp2_with fail
  refine (count_any ba B.length bc B (by omega) hvB.out _ HTb'.out).mono ?_
  rintro e wc ⟨cF, rfl, F, hF, hFm, hcF, hb⟩
  have HTa' := hid (HTa.out.kept hb.out)
  clear HTa
  have HTb := hid (HTb'.out.kept hb.out)
  clear HTb'
  have HRY' := hid (HRY.out.kept hb.out)
  clear HRY
  have HW' := hid (bt HW.out hb.out)
  clear HW
  have HcF := hid hcF
  clear hb hcF
  go_wp2_with fail
  refine (count_any ya Y.length yc Y (by omega) (nf_vld hY) _ HRY'.out).mono ?_
  rintro e wc ⟨cG, rfl, G, hG, hGm, hcG, hb⟩
  have HTa := hid (HTa'.out.kept hb.out)
  clear HTa'
  have HTb' := hid (HTb.out.kept hb.out)
  clear HTb
  have HRY := hid (HRY'.out.kept hb.out)
  clear HRY'
  have HW := hid (bt HW'.out hb.out)
  clear HW'
  have HcG := hid hcG
  clear hb hcG
  go_wp2_with fail
  refine (union_any aa ba A.length ac B.length bc A B (by omega) (by omega) hvA.out hvB.out _ HTa.out HTb'.out).mono ?_
  rintro e w10' ⟨sa, sn, sc, rfl, S, rfl, hS, ⟨hSl, hSm⟩, HH⟩
  have HRS := hid HH.out.1
  have HTa' := hid (HTa.out.kept HH.out.2)
  clear HTa
  have HTb := hid (HTb'.out.kept HH.out.2)
  clear HTb'
  have HRY' := hid (HRY.out.kept HH.out.2)
  clear HRY
  have HW' := hid (bt HW.out HH.out.2)
  clear HW
  clear HH
  go_wp2_with fail
  refine (count_any sa S.length sc S (by omega) (nf_vld hS) _ HRS.out).mono ?_
  rintro e wc ⟨cJ, rfl, J, hJ, hJm, hcJ, hb⟩
  have HTa := hid (HTa'.out.kept hb.out)
  clear HTa'
  have HTb' := hid (HTb.out.kept hb.out)
  clear HTb
  have HRY := hid (HRY'.out.kept hb.out)
  clear HRY'
  have HRS' := hid (HRS.out.kept hb.out)
  clear HRS
  have HW := hid (bt HW'.out hb.out)
  clear HW'
  have HcJ := hid hcJ
  clear hb hcJ
  have hsum := laws_sum A B hbA.out hbB.out D F G J hD hF hG hJ hDm hFm (fun n => (hGm n).trans (hYm n)) (fun n => (hJm n).trans (hSm n))
  rw [← HcD.out, ← HcF.out, ← HcG.out, ← HcJ.out] at hsum
  obtain ⟨hs1, hs2, hs3, hs4, hs5, hs6, hs7⟩ := hsum
  have hbq : ((cJ + cG : Int) == cD + cF) = true := by rw [hs1]; simp
  have hw1 : IntKind.i64.wrap (cJ + cG) = cJ + cG := IntWalk.i64_in _ (by omega)
  clear HcD HcF HcG HcJ hGm hDm hFm hJm hSm hYm hXm hUm hKm hPm hQm hVm hMm hZm
  go_wp2_with fail
  refine (awake_ok _).mono ?_
  rintro e w9 ⟨rfl, hb⟩
  have HE := hid (bt HW.out hb)
  clear hb
  go_wp2_with fail
  go_ret
  exact ⟨rfl, HE.out⟩

set_option maxRecDepth 100000 in
theorem lifted (os : Os) (started : os.Started) (H : Type) (enc : TypeId × Value → H) :
    ReturnsInHanded {} Try.checked os 6 .any (Rows.rangesLawsSpec.pre6 enc Try.prog Try.f6 Rows.rangesLawsRow.domain false) (Rows.rangesLawsSpec.post enc Try.prog Try.f6 false true false false) := by
  refine returnsInHanded_of_change (C := Try.checked) own started (by kernel_rfl) Try.func6
    (ChangeSpec.witness6 (enc := enc) (C := Try.checked) false ⟨#[], #[.slice none 0 0, .slice none 0 0, .slice none 0 0], []⟩ 8 (by kernel_rfl) (by kernel_rfl) (by kernel_rfl) (by kernel_rfl)) ?_
  intro W base args ds gs before hval0 hW hcnd _
  have hval : ∀ (j : Nat) t v, Try.f6.params[j]? = some t → args[j]? = some v → Value.okWide Try.prog W .any base t v := hval0
  have hW' := hW
  obtain ⟨p, q, hA0, hV, rfl, hfz, hnd⟩ := hW
  have hA : DataW.TrodAll enc Try.prog W 0 (fun _ => true) true Try.f6.params.toList args.toList ds p := hA0
  rw [Try.params6] at hA hval
  obtain ⟨v0, vs0, d0, ds0, p0, q0, hargs, rfl, rfl, h0, r0⟩ := trodAll_cons hA
  obtain ⟨v1, vs1, d1, ds1, p1, q1, rfl, rfl, rfl, h1, r1⟩ := trodAll_cons r0
  obtain ⟨v2, vs2, d2, ds2, p2, q2, rfl, rfl, rfl, h2, r2⟩ := trodAll_cons r1
  obtain ⟨rfl, rfl, rfl⟩ := trodAll_nil r2
  obtain rfl : args = #[v0, v1, v2] := by cases args; simp_all
  obtain ⟨rfl, rfl⟩ := trodVars_none hV
  have k0 := h0
  have lt0 : ∀ x ∈ p0, x.block < W.heap.size := by obtain ⟨m, hm⟩ := k0; exact DataW.trod_lt m _ _ _ hm
  have ok0 := hval 0 22 v0 rfl rfl
  have k1 := h1
  have lt1 : ∀ x ∈ p1, x.block < W.heap.size := by obtain ⟨m, hm⟩ := k1; exact DataW.trod_lt m _ _ _ hm
  have ok1 := hval 1 22 v1 rfl rfl
  have k2 := h2
  have lt2 : ∀ x ∈ p2, x.block < W.heap.size := by obtain ⟨m, hm⟩ := k2; exact DataW.trod_lt m _ _ _ hm
  have ok2 := hval 2 22 v2 rfl rfl
  clear hA0 hval0
  refine (walk v0 v1 v2 W ok0 k0 ok1 k1 ok2 k2).mono fun e W' ⟨he, bel⟩ => ?_
  subst he
  exact ⟨_, rfl, _, _, _, [], _, [], hW', trodAll_mk1 (shut_bool Try.underlying4 _), (trodAll_cons_mk (Below.trod laidOut (by kernel_rfl) (of_decide_eq_true (by kernel_rfl)) k0 bel lt0) (trodAll_cons_mk (Below.trod laidOut (by kernel_rfl) (of_decide_eq_true (by kernel_rfl)) k1 bel lt1) (trodAll_cons_mk (Below.trod laidOut (by kernel_rfl) (of_decide_eq_true (by kernel_rfl)) k2 bel lt2) trodAll_mk0))), rfl, bel.frame _, fun h => by cases h⟩

theorem over : Rows.rangesLawsRow.holds Try.pinned (OpenSpec.ofChange Rows.rangesLawsSpec) :=
  OpenClaim.holds_of_wide 6 Try.f6 rfl rfl rfl rfl rfl rfl rfl ⟨rfl, rfl, rfl, rfl, rfl⟩ rfl rfl rfl rfl rfl (by kernel_rfl) Try.func6 (by kernel_rfl)
    (of_decide_eq_true (by kernel_rfl)) (by unfold Func.isWrapper; first | (rw [if_pos (by decide +kernel)]; kernel_rfl) | (rw [if_neg (by decide +kernel)]; exact ⟨rfl, rfl⟩))
    (fun os started H enc _ => lifted os started H enc)

theorem proved : Rows.RangesLawsSaid := over
#print axioms proved
end Go.Proofs.Ytdcenfknjlifkaa.rangesLaws
