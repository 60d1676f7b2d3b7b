/- The names of all legs and parts differ: on lists of bytes. No conditions but those of each theorem. -/
import Derived.Test.YtdpclmogfnigdaaL
namespace Go.Proofs.Ytdpclmogfnigdaa
set_option linter.unusedVariables false
set_option linter.unusedSimpArgs false

def legW (j : Nat) : List UInt8 := sLeg ++ [(48 + (j : Int)).toNat.toUInt8]
/-- the name of rank r: leg j of x is 3 j, part j of x is 3 j + 1, leg j of y is 3 j + 2 -/
def bR (x y : List UInt8) (r : Nat) : List UInt8 := if r % 3 = 2 then y else x
def pR (r : Nat) : List UInt8 := if r % 3 = 1 then sx (r / 3 - 1) else legW (r / 3)
def tR (x y : List UInt8) (r : Nat) : List UInt8 := bR x y r ++ pR r
structure VR (x y : List UInt8) (r : Nat) : Prop where
  lt : r < 24
  part : r % 3 = 1 → 1 ≤ r / 3 ∧ r / 3 ≤ 4
  two : r % 3 = 2 → x ≠ y
theorem legW_suf (j : Nat) (h : j < 8) : Suf (legW j) := .leg _ (isLeg_at j (by omega) (by omega))
theorem pR_suf {x y : List UInt8} {r : Nat} (h : VR x y r) : Suf (pR r) := by
  unfold pR
  split
  · have := h.part ‹_›
    exact .part _ (by omega)
  · exact legW_suf _ (by have := h.lt; omega)
theorem legW_inj : ∀ a, a < 8 → ∀ b, b < 8 → legW a = legW b → a = b := by decide +kernel
theorem sx_inj : ∀ a, a < 4 → ∀ b, b < 4 → sx a = sx b → a = b := by decide
theorem sx_leg : ∀ a, a < 4 → ∀ b, b < 8 → sx a ≠ legW b := by decide +kernel
theorem tR_inj {x y : List UInt8} {r s : Nat} (hr : VR x y r) (hs : VR x y s) (h : tR x y r = tR x y s) : r = s := by
  have h1 := strip_app (bR x y r) (pR r) (pR_suf hr)
  have h2 := strip_app (bR x y s) (pR s) (pR_suf hs)
  unfold tR at h
  rw [h, h2] at h1
  have hb : bR x y s = bR x y r := congrArg Prod.fst h1
  rw [hb] at h
  have hp := List.append_cancel_left h
  have r0 := hr.lt
  have s0 := hs.lt
  have r1 := hr.part
  have s1 := hs.part
  have r2 := hr.two
  have s2 := hs.two
  unfold pR at hp
  unfold bR at hb
  by_cases a : r % 3 = 1
  · by_cases b : s % 3 = 1
    · rw [if_pos a, if_pos b] at hp
      have := sx_inj _ (by have := r1 a; omega) _ (by have := s1 b; omega) hp
      have := r1 a
      have := s1 b
      omega
    · rw [if_pos a, if_neg b] at hp
      exact absurd hp (sx_leg _ (by have := r1 a; omega) _ (by omega))
  · by_cases b : s % 3 = 1
    · rw [if_neg a, if_pos b] at hp
      exact absurd hp.symm (sx_leg _ (by have := s1 b; omega) _ (by omega))
    · rw [if_neg a, if_neg b] at hp
      have h3 := legW_inj _ (by omega) _ (by omega) hp
      by_cases c : r % 3 = 2
      · by_cases d : s % 3 = 2
        · omega
        · rw [if_pos c, if_neg d] at hb
          exact absurd hb (r2 c)
      · by_cases d : s % 3 = 2
        · rw [if_neg c, if_pos d] at hb
          exact absurd hb.symm (s2 d)
        · omega
/-- the ranks that are in the list -/
structure RL (x y : List UInt8) (m : Nat) (l : List Nat) : Prop where
  lt : ∀ r ∈ l, r < m ∧ VR x y r
  pw : l.Pairwise (· < ·)
  len : l.length ≤ m
theorem RL.nil (x y : List UInt8) : RL x y 0 [] := ⟨fun r h => by simp at h, List.Pairwise.nil, Nat.le_refl _⟩
theorem RL.skip {x y : List UInt8} {m : Nat} {l : List Nat} (h : RL x y m l) : RL x y (m + 1) l :=
  ⟨fun r hr => ⟨by have := (h.lt r hr).1; omega, (h.lt r hr).2⟩, h.pw, by have := h.len; omega⟩
theorem RL.add {x y : List UInt8} {m : Nat} {l : List Nat} (h : RL x y m l) (hm : VR x y m) : RL x y (m + 1) (l ++ [m]) := by
  refine ⟨fun r hr => ?_, ?_, by simp; exact h.len⟩
  · rcases List.mem_append.1 hr with hr | hr
    · exact ⟨by have := (h.lt r hr).1; omega, (h.lt r hr).2⟩
    · simp at hr; subst hr; exact ⟨by omega, hm⟩
  · rw [List.pairwise_append]
    exact ⟨h.pw, by simp, fun a ha b hb => by simp at hb; subst hb; exact (h.lt a ha).1⟩
/-- no two of them are the same text -/
theorem RL.apart {x y : List UInt8} {m : Nat} {l : List Nat} (h : RL x y m l) {i k : Nat} (hi : i < l.length) (hk : k < i) : tR x y l[i] ≠ tR x y (l[k]'(by omega)) := by
  intro e
  have h1 := tR_inj (h.lt _ (List.getElem_mem hi)).2 (h.lt _ (List.getElem_mem (show k < l.length by omega))).2 e
  have h2 := List.pairwise_iff_getElem.1 h.pw k i (by omega) hi hk
  omega
theorem rank_leg {x y : List UInt8} (j : Nat) (h : j < 8) : VR x y (3 * j) ∧ tR x y (3 * j) = x ++ legW j := by
  have h0 : 3 * j % 3 = 0 := by omega
  have h1 : 3 * j / 3 = j := by omega
  refine ⟨⟨by omega, by omega, by omega⟩, ?_⟩
  unfold tR bR pR
  rw [h0, h1, if_neg (by omega), if_neg (by omega)]
theorem rank_part {x y : List UInt8} (j : Nat) (h : 1 ≤ j) (h2 : j ≤ 4) : VR x y (3 * j + 1) ∧ tR x y (3 * j + 1) = x ++ sx (j - 1) := by
  have h0 : (3 * j + 1) % 3 = 1 := by omega
  have h1 : (3 * j + 1) / 3 = j := by omega
  refine ⟨⟨by omega, by omega, by omega⟩, ?_⟩
  unfold tR bR pR
  rw [h0, h1, if_neg (by omega), if_pos rfl]
theorem rank_two {x y : List UInt8} (j : Nat) (h : j < 8) (hne : x ≠ y) : VR x y (3 * j + 2) ∧ tR x y (3 * j + 2) = y ++ legW j := by
  have h0 : (3 * j + 2) % 3 = 2 := by omega
  have h1 : (3 * j + 2) / 3 = j := by omega
  refine ⟨⟨by omega, by omega, fun _ => hne⟩, ?_⟩
  unfold tR bR pR
  rw [h0, h1, if_pos rfl, if_neg (by omega)]
end Go.Proofs.Ytdpclmogfnigdaa
