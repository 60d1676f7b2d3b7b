/- The walk over two sets of layer 3. No conditions but those of each theorem. -/
import Derived.Test.YtgfdmeaganhpiaaJ
namespace Go.Proofs.Ytgfdmeaganhpiaa.Old
open Go.ChangeShapes Go.WideShapes Go.ChangeAt Go.RowKit
set_option linter.unusedVariables false
set_option linter.unusedSimpArgs false

theorem nx_in (A : List Rn) (hA : NF A) (p : Nat) : 0 ≤ nx (ends A) p ∧ nx (ends A) p ≤ 1073741825 := by
  unfold nx
  split
  · rename_i h
    have := ends_in A hA ((ends A)[p]?.getD 0) (by rw [List.getElem?_eq_getElem h]; exact List.getElem_mem h)
    omega
  · omega
theorem cur_step (A : List Rn) (hA : NF A) (p : Nat) (x : Int) (hx : x ≤ 1073741824) (hp : p ≤ (ends A).length) (h1 : ∀ i, i < p → (ends A)[i]?.getD 0 < x) (h2 : x ≤ nx (ends A) p) (p' : Nat) (hp' : p' = if nx (ends A) p = x then p + 1 else p) :
    p' ≤ (ends A).length ∧ p ≤ p' ∧ (nx (ends A) p = x → p + 1 ≤ p') ∧ (∀ i, i < p' → (ends A)[i]?.getD 0 ≤ x) ∧ x < nx (ends A) p' ∧ (∀ n, x ≤ n → n < nx (ends A) p' → (Mem A n ↔ p' % 2 = 1)) ∧ (p' % 2 = 1 → nx (ends A) p' ≤ 1073741824) := by
  have asc := ends_asc A hA
  have hlen := ends_length A
  have H : p' ≤ (ends A).length ∧ p ≤ p' ∧ (nx (ends A) p = x → p + 1 ≤ p') ∧ (∀ i, i < p' → (ends A)[i]?.getD 0 ≤ x) ∧ x < nx (ends A) p' := by
    by_cases he : nx (ends A) p = x
    · rw [if_pos he] at hp'
      subst hp'
      have hlt : p < (ends A).length := by
        refine Decidable.byContradiction fun h => ?_
        unfold nx at he
        rw [if_neg h] at he
        omega
      have he2 : (ends A)[p]?.getD 0 = x := by unfold nx at he; rw [if_pos hlt] at he; exact he
      refine ⟨by omega, by omega, fun _ => by omega, fun i hi => ?_, ?_⟩
      · by_cases e : i = p
        · subst e; omega
        · have := h1 i (by omega); omega
      · unfold nx
        split
        · rename_i h
          have := asc_at asc (show p < p + 1 by omega) h
          omega
        · omega
    · rw [if_neg he] at hp'
      subst hp'
      exact ⟨hp, by omega, fun h => absurd h he, fun i hi => by have := h1 i hi; omega, by omega⟩
  obtain ⟨a1, a2, a3, a4, a5⟩ := H
  refine ⟨a1, a2, a3, a4, a5, fun n hn1 hn2 => ?_, fun hodd => ?_⟩
  · refine mem_odd A hA n p' a1 (fun i hi => by have := a4 i hi; omega) (fun i hi hi2 => ?_)
    have hp2 : p' < (ends A).length := by omega
    unfold nx at hn2
    rw [if_pos hp2] at hn2
    by_cases e : i = p'
    · subst e; exact hn2
    · have := asc_at asc (show p' < i by omega) hi2
      omega
  · have hp2 : p' < (ends A).length := by omega
    unfold nx
    rw [if_pos hp2]
    exact (ends_in A hA _ (by rw [List.getElem?_eq_getElem hp2]; exact List.getElem_mem hp2)).2
theorem cur_start (A : List Rn) (hA : NF A) (n : Int) (h : n < nx (ends A) 0) : ¬ Mem A n := by
  have asc := ends_asc A hA
  have := mem_odd A hA n 0 (by omega) (fun i hi => by omega) (fun i hi hi2 => by
    unfold nx at h
    rw [if_pos (by omega)] at h
    by_cases e : i = 0
    · subst e; exact h
    · have := asc_at asc (show 0 < i by omega) hi2
      omega)
  rw [this]; omega

/-- what is known on the way -/
structure WayW (A B : List Rn) (cf : Bool → Bool → Bool) (p q : Nat) (x : Int) (out : List Rn) : Prop where
  hp : p ≤ (ends A).length
  hq : q ≤ (ends B).length
  eq : x = min (nx (ends A) p) (nx (ends B) q)
  la : ∀ i, i < p → (ends A)[i]?.getD 0 < x
  lb : ∀ i, i < q → (ends B)[i]?.getD 0 < x
  nf : NF out
  top : ∀ k ∈ out, k.1 + k.2 ≤ x
  mem : ∀ n, Mem out n ↔ n < x ∧ cf (decide (Mem A n)) (decide (Mem B n)) = true
  len : out.length ≤ p + q
theorem addR_length (l : List Rn) (r : Rn) : (addR l r).length ≤ l.length + 1 := by
  rcases nil_or l with rfl | ⟨i, q, rfl⟩
  · rw [addR_nil]; simp
  · by_cases hh : r.1 ≤ q.1 + q.2
    · rw [addR_on _ _ _ hh]; simp
    · rw [addR_off _ _ _ hh]; simp
theorem way_start (A B : List Rn) (hA : NF A) (hB : NF B) (cf : Bool → Bool → Bool) (h0 : cf false false = false) : WayW A B cf 0 0 (min (nx (ends A) 0) (nx (ends B) 0)) [] :=
  ⟨by omega, by omega, rfl, fun i hi => by omega, fun i hi => by omega, nf_nil, fun k hk => (by cases hk), fun n => ⟨fun h => absurd h (mem_nil n), fun ⟨h1, h2⟩ => (by
      rw [decide_eq_false (cur_start A hA n (by omega)), decide_eq_false (cur_start B hB n (by omega)), h0] at h2
      cases h2)⟩, Nat.le_refl _⟩
theorem way_step (A B : List Rn) (hA : NF A) (hB : NF B) (cf : Bool → Bool → Bool) (h0 : cf false false = false) (p q : Nat) (x : Int) (out : List Rn) (h : WayW A B cf p q x out) (hx : x ≤ 1073741824) (p' q' : Nat) (hp' : p' = if nx (ends A) p = x then p + 1 else p) (hq' : q' = if nx (ends B) q = x then q + 1 else q) (y : Int) (hy : y = min (nx (ends A) p') (nx (ends B) q')) :
    (0 ≤ x ∧ x < y ∧ y ≤ 1073741825) ∧ (cf (p' % 2 == 1) (q' % 2 == 1) = true → y ≤ 1073741824 ∧ WayW A B cf p' q' y (addR out (x, y - x))) ∧ (cf (p' % 2 == 1) (q' % 2 == 1) = false → WayW A B cf p' q' y out) := by
  obtain ⟨b1, b2, b3, b4, b5, b6, b7, b8, b9⟩ := h
  have na := nx_in A hA p
  have nb := nx_in B hB q
  have na' := nx_in A hA p'
  have nb' := nx_in B hB q'
  obtain ⟨c1, c2, c3, c4, c5, c6, c7⟩ := cur_step A hA p x hx b1 b4 (by omega) p' hp'
  obtain ⟨d1, d2, d3, d4, d5, d6, d7⟩ := cur_step B hB q x hx b2 b5 (by omega) q' hq'
  have hsum : p + q + 1 ≤ p' + q' := by
    by_cases e : nx (ends A) p = x
    · have := c3 e; omega
    · have := d3 (by omega); omega
  have hin : ∀ n, x ≤ n → n < y → cf (decide (Mem A n)) (decide (Mem B n)) = cf (p' % 2 == 1) (q' % 2 == 1) := fun n h1 h2 => by
    have e1 : decide (Mem A n) = (p' % 2 == 1) := by rw [decide_eq_decide.2 (c6 n h1 (by omega))]; rfl
    have e2 : decide (Mem B n) = (q' % 2 == 1) := by rw [decide_eq_decide.2 (d6 n h1 (by omega))]; rfl
    rw [e1, e2]
  refine ⟨by omega, fun hcf => ?_, fun hcf => ?_⟩
  · have hy2 : y ≤ 1073741824 := by
      by_cases e : p' % 2 = 1
      · have := c7 e; omega
      · by_cases e2 : q' % 2 = 1
        · have := d7 e2; omega
        · rw [show (p' % 2 == 1) = false from beq_eq_false_iff_ne.2 e, show (q' % 2 == 1) = false from beq_eq_false_iff_ne.2 e2, h0] at hcf
          cases hcf
    obtain ⟨m1, m2, m3, m4⟩ := add_ok out (x, y - x) b6 (fun k hk => by have := b7 k hk; have := b6.1 k hk; simp only; omega) (by simp only; omega) (by simp only; omega) (by simp only; omega)
    refine ⟨hy2, c1, d1, hy, fun i hi => by have := c4 i hi; omega, fun i hi => by have := d4 i hi; omega, m1, m4 y (fun k hk => by have := b7 k hk; omega) (by simp only; omega), fun n => ?_, ?_⟩
    · rw [m2, b8]
      simp only
      constructor
      · rintro (⟨h1, h2⟩ | ⟨h1, h2⟩)
        · exact ⟨by omega, h2⟩
        · exact ⟨by omega, by rw [hin n h1 (by omega)]; exact hcf⟩
      · rintro ⟨h1, h2⟩
        by_cases e : n < x
        · exact .inl ⟨e, h2⟩
        · exact .inr ⟨by omega, by omega⟩
    · have := addR_length out (x, y - x)
      omega
  · refine ⟨c1, d1, hy, fun i hi => by have := c4 i hi; omega, fun i hi => by have := d4 i hi; omega, b6, fun k hk => by have := b7 k hk; omega, fun n => ?_, by omega⟩
    rw [b8]
    constructor
    · rintro ⟨h1, h2⟩
      exact ⟨by omega, h2⟩
    · rintro ⟨h1, h2⟩
      by_cases e : n < x
      · exact ⟨e, h2⟩
      · rw [hin n (by omega) h1, hcf] at h2
        cases h2
theorem way_end (A B : List Rn) (hA : NF A) (hB : NF B) (cf : Bool → Bool → Bool) (h0 : cf false false = false) (p q : Nat) (x : Int) (out : List Rn) (h : WayW A B cf p q x out) (hx : ¬ x ≤ 1073741824) (n : Int) : Mem out n ↔ cf (decide (Mem A n)) (decide (Mem B n)) = true := by
  rw [h.mem]
  constructor
  · exact fun h => h.2
  · intro h2
    refine ⟨?_, h2⟩
    by_cases ea : Mem A n
    · obtain ⟨r, hr, _, h3⟩ := ea
      have := hA.1 r hr
      omega
    · by_cases eb : Mem B n
      · obtain ⟨r, hr, _, h3⟩ := eb
        have := hB.1 r hr
        omega
      · rw [decide_eq_false ea, decide_eq_false eb, h0] at h2
        cases h2

theorem cl33 (p q : Bool) (w : World) : Calls Try.prog 33 #[.bool p, .bool q] w fun e w' => e = .returned (.bool (p || q)) ∧ w' = w := by
  cases p <;> cases q <;> (go_enter Try.func33, Try.ntmps33; go_wp2_with fail; go_ret; exact ⟨rfl, rfl⟩)
theorem cl34 (p q : Bool) (w : World) : Calls Try.prog 34 #[.bool p, .bool q] w fun e w' => e = .returned (.bool (p && !q)) ∧ w' = w := by
  cases p <;> cases q <;> (go_enter Try.func34, Try.ntmps34; go_wp2_with fail; go_ret; exact ⟨rfl, rfl⟩)
theorem cl35 (p q : Bool) (w : World) : Calls Try.prog 35 #[.bool p, .bool q] w fun e w' => e = .returned (.bool (p && q)) ∧ w' = w := by
  cases p <;> cases q <;> (go_enter Try.func35, Try.ntmps35; go_wp2_with fail; go_ret; exact ⟨rfl, rfl⟩)
end Go.Proofs.Ytgfdmeaganhpiaa.Old
