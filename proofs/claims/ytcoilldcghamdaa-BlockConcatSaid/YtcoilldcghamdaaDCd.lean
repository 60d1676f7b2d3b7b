/- BlockConcat: what is where: pure facts. No conditions but those of each theorem. -/
import Derived.Test.YtcoilldcghamdaaDY
import Derived.Test.YtcoilldcghamdaaDQ
import Derived.Test.YtcoilldcghamdaaDCb
namespace Go.Proofs.Ytcoilldcghamdaa
open Go.RowKit
open OldD (Dk Un Wr Sc gu gf ge gu_set hs hd chk3 chk4 rdV wrE wrK flK reK wrote stF stU rs1 rs2 rs1_keep rs2_keep stU_keep)
set_option linter.unusedVariables false
set_option linter.unnecessarySimpa false
set_option linter.unusedSimpArgs false
/-- the sectors ahead of a list -/
def offs (LL : List (List Int)) (K : Nat) : Nat := (LL.take K).flatten.length
theorem offs_succ (LL : List (List Int)) (K : Nat) (h : K < LL.length) : offs LL (K + 1) = offs LL K + szL LL K := by
  unfold offs szL
  rw [List.take_succ_eq_append_getElem h, List.flatten_append, List.length_append, List.getD_eq_getElem?_getD, List.getElem?_eq_getElem h]
  simp
theorem offs_all (LL : List (List Int)) : offs LL LL.length = LL.flatten.length := by unfold offs; rw [List.take_length]
theorem offs_mono (LL : List (List Int)) (i : Nat) : ∀ j, i < j → j ≤ LL.length → offs LL i + szL LL i ≤ offs LL j
  | 0, h, _ => by omega
  | j + 1, h, hj => by
    have := offs_succ LL j (by omega)
    by_cases e : i = j
    · subst e; omega
    · have := offs_mono LL i j (by omega) (by omega); omega
theorem ge_app_r (X Y : List Int) (t : Nat) : ge (X ++ Y) (X.length + t) = ge Y t := by
  unfold ge
  rw [List.getElem?_append_right (by omega)]
  congr 2
  omega
theorem ge_app_l (X Y : List Int) (t : Nat) (h : t < X.length) : ge (X ++ Y) t = ge X t := by
  unfold ge
  rw [List.getElem?_append_left h]
theorem flat_at (LL : List (List Int)) (K t : Nat) (h : K < LL.length) (ht : t < szL LL K) : ge LL.flatten (offs LL K + t) = ge (LL.getD K []) t := by
  have e : LL.flatten = (LL.take K).flatten ++ (LL.getD K [] ++ (LL.drop (K + 1)).flatten) := by
    conv => lhs; rw [← List.take_append_drop K LL, List.drop_eq_getElem_cons h]
    rw [List.flatten_append, List.flatten_cons, List.getD_eq_getElem?_getD, List.getElem?_eq_getElem h]
    rfl
  rw [e, show offs LL K = (LL.take K).flatten.length from rfl, ge_app_r, ge_app_l _ _ _ ht]
/-- lists of a few words each -/
def LB (LL : List (List Int)) : Prop := LL.length ≤ 6 ∧ ∀ i, i < LL.length → 1 ≤ szL LL i ∧ szL LL i ≤ 1000
def spA (LL : List (List Int)) : List Spn := spL (szL LL) LL.length
theorem spA_len (LL : List (List Int)) : (spA LL).length = LL.length := spL_len _ _
theorem spA_at (LL : List (List Int)) (i : Nat) (h : i < LL.length) : (spA LL).getD i default = ⟨(i : Int), 0, (szL LL i : Int)⟩ := spL_at _ _ _ h
theorem spA_up (LL : List (List Int)) : ∀ K, K ≤ LL.length → upS (spA LL) K = (offs LL K : Int)
  | 0, _ => by simp [upS, offs]
  | K + 1, h => by
    rw [upS, spA_up LL K (by omega), spA_at LL K (by omega), offs_succ LL K (by omega)]
    simp
theorem spA_b {LL : List (List Int)} (h : LB LL) : SpB (spA LL) := by
  refine ⟨by rw [spA_len]; have := h.1; omega, fun i hi => ?_⟩
  rw [spA_len] at hi
  rw [spA_at LL i hi]
  have := h.2 i hi
  dsimp only
  omega
theorem spA_l {LL : List (List Int)} (h : LB LL) : SpL (spA LL) LL.length (szL LL) := by
  refine ⟨spA_b h, fun i hi => ?_, fun i j hij hj e => ?_⟩
  · rw [spA_len] at hi
    rw [spA_at LL i hi]
    dsimp only
    simp
    exact hi
  · rw [spA_len] at hj
    rw [spA_at LL i (by omega), spA_at LL j hj] at e
    dsimp only at e
    omega
/-- a sector's place -/
theorem pl_at {LL : List (List Int)} (h : LB LL) (i : Nat) (hi : i < LL.flatten.length) :
    ∃ K t, K < LL.length ∧ t < szL LL K ∧ offs LL K + t = i ∧ Prt (spA LL) (i : Int) K ∧ ge LL.flatten i = ge (LL.getD K []) t := by
  have hn := spA_len LL
  have hu := spA_up LL LL.length (Nat.le_refl _)
  rw [offs_all] at hu
  obtain ⟨K, p⟩ := prt_ex (spA_b h) (i : Int) ⟨by omega, by rw [hn, hu]; omega⟩
  have p1 := p.lt
  rw [hn] at p1
  have p2 := p.lo
  have p3 := p.hi
  rw [spA_up LL K (by omega)] at p2 p3
  rw [spA_at LL K p1] at p3
  dsimp only at p3
  refine ⟨K, i - offs LL K, p1, by omega, by omega, p, ?_⟩
  have := flat_at LL K (i - offs LL K) p1 (by omega)
  rwa [show offs LL K + (i - offs LL K) = i by omega] at this
end Go.Proofs.Ytcoilldcghamdaa
