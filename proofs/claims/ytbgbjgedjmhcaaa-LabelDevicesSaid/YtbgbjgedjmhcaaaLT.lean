/- Both readings of words agree, for every list. No conditions but those of each theorem. -/
import Derived.Test.YtbgbjgedjmhcaaaSyZ
import Derived.KernelRfl
import Derived.Test.YtbgbjgedjmhcaaaLS
import Derived.Test.YtbgbjgedjmhcaaaLK
import Derived.Test.YtbgbjgedjmhcaaaLO
namespace Go.Proofs.Ytbgbjgedjmhcaaa
open Go.RowKit
set_option linter.unusedVariables false
set_option linter.unnecessarySimpa false
set_option linter.unusedSimpArgs false
set_option maxRecDepth 10000
theorem Wf.wd {L : List Int} (h : Wf L) {x : Int} (hx : x ∈ L) : Wd x := h x hx
theorem fw_both8 (a0 a1 a2 a3 a4 a5 a6 a7 : Int) (hw : Wf [a0, a1, a2, a3, a4, a5, a6, a7]) : ∃ c0 c1 c2 c3 c4 e : Int,
    CallOK Try.prog 19 [.sl 1 0 1 8 none] [(1, .ro 1 8 (rowG encU [a0, a1, a2, a3, a4, a5, a6, a7]))] (.tup [.agg [U c0, I c1, I c2, I c3, U c4], I e]) [] ∧
    CallOK Try.prog 20 [.sl 1 0 1 8 none] [(1, .ro 1 8 (rowG encU [a0, a1, a2, a3, a4, a5, a6, a7]))] (.tup [.agg [U c0, I c1, I c2, I c3, U c4], I e]) [] := by
  have h1 : Wd a1 := hw a1 (by simp)
  have h2 : Wd a2 := hw a2 (by simp)
  have h3 : Wd a3 := hw a3 (by simp)
  have h4 : Wd a4 := hw a4 (by simp)
  have h5 : Wd a5 := hw a5 (by simp)
  by_cases hf : a0 ≠ mgc ∨ a7 ≠ 0
  · exact ⟨0, 0, 0, 0, 0, 2, fw_form _ _ _ _ _ _ _ _ hf, rfw_form _ _ _ _ _ _ _ _ hf⟩
  · obtain ⟨e0, e7⟩ : a0 = mgc ∧ a7 = 0 := ⟨Classical.not_not.1 fun h => hf (.inl h), Classical.not_not.1 fun h => hf (.inr h)⟩
    subst e0 e7
    by_cases hs : a6 = sumL a1 a2 a3 a4 a5
    · subst hs
      have p := fw_tail a1 a2 a3 a4 a5 h1 h2 h3 h4 h5
      have r := rfw_tail a1 a2 a3 a4 a5 h1 h2 h3 h4 h5
      by_cases hk : lbOK a2 a3 a4
      · rw [if_pos hk] at p r
        exact ⟨_, _, _, _, _, _, p, r⟩
      · rw [if_neg hk] at p r
        exact ⟨0, 0, 0, 0, 0, 1, p, r⟩
    · exact ⟨0, 0, 0, 0, 0, 11, fw_sum _ _ _ _ _ _ h1 h2 h3 h4 h5 hs, rfw_sum _ _ _ _ _ _ h1 h2 h3 h4 h5 hs⟩
theorem fw_both (L : List Int) (hw : Wf L) (hl : L.length ≤ 1000) : ∃ c0 c1 c2 c3 c4 e : Int,
    CallOK Try.prog 19 [.sl 1 0 1 L.length none] [(1, .ro 1 L.length (rowG encU L))] (.tup [.agg [U c0, I c1, I c2, I c3, U c4], I e]) [] ∧
    CallOK Try.prog 20 [.sl 1 0 1 L.length none] [(1, .ro 1 L.length (rowG encU L))] (.tup [.agg [U c0, I c1, I c2, I c3, U c4], I e]) [] := by
  by_cases h8 : L.length = 8
  · match L, h8, hw with
    | [a0, a1, a2, a3, a4, a5, a6, a7], _, hw => exact fw_both8 a0 a1 a2 a3 a4 a5 a6 a7 hw
  · exact ⟨0, 0, 0, 0, 0, 3, fw_size L h8 (by omega), rfw_size L h8 (by omega)⟩
theorem fw_seven (row : Nat → List AV) (hrow : ∀ ids q, closedL ids (row q) = true) : CallOK Try.prog 19 [.sl 1 0 1 7 none] [(1, .ro 1 8 row)] (.tup [noL, I 3]) [] := by
  refine CallOK.intro Try.call19 Try.func19 rfl rfl ⟨rfl, fun q => hrow _ q, trivial⟩ ?_
  refine Safe.ends mixed Try.func19 8 [⟨1100, []⟩, ⟨1200, []⟩, ⟨1300, []⟩] (r := .tup [.agg [.val (Value.int IntKind.u64 (0 : Int)), I 0, I 0, I 0, .val (Value.int IntKind.u64 (0 : Int))], I 3]) (hp := [(1, .ro 1 8 row)]) (ob := []) rfl (by kernel_rfl) trivial rfl ⟨ObLe.refl _, trivial⟩ ⟨rfl, (hrow _), trivial⟩ rfl
theorem rfw_seven (row : Nat → List AV) (hrow : ∀ ids q, closedL ids (row q) = true) : CallOK Try.prog 20 [.sl 1 0 1 7 none] [(1, .ro 1 8 row)] (.tup [noL, I 3]) [] := by
  refine CallOK.intro Try.call20 Try.func20 rfl rfl ⟨rfl, fun q => hrow _ q, trivial⟩ ?_
  refine Safe.ends mixed Try.func20 8 [⟨1100, []⟩, ⟨1200, []⟩, ⟨1300, []⟩] (r := .tup [.agg [.val (Value.int IntKind.u64 (0 : Int)), I 0, I 0, I 0, .val (Value.int IntKind.u64 (0 : Int))], I 3]) (hp := [(1, .ro 1 8 row)]) (ob := []) rfl (by kernel_rfl) trivial rfl ⟨ObLe.refl _, trivial⟩ ⟨rfl, (hrow _), trivial⟩ rfl
theorem same_nil : CallOK Try.prog 16 [.val (.slice none 0 0), .val (.slice none 0 0)] [] (B true) [] := by
  refine CallOK.intro Try.call16 Try.func16 rfl rfl trivial ?_
  refine Safe.ends mixed Try.func16 19 [⟨100, []⟩, ⟨200, []⟩, ⟨300, []⟩, ⟨400, []⟩, ⟨500, []⟩] (r := B true) (hp := []) (ob := []) rfl (by kernel_rfl) trivial rfl trivial trivial rfl
theorem bxor_bd (x y : Int) : 0 ≤ bitsV .xor .u64 x y ∧ bitsV .xor .u64 x y ≤ 18446744073709551615 := by
  show 0 ≤ (((BitVec.ofInt 64 x ^^^ BitVec.ofInt 64 y).toNat : Nat) : Int) ∧ (((BitVec.ofInt 64 x ^^^ BitVec.ofInt 64 y).toNat : Nat) : Int) ≤ 18446744073709551615
  have := (BitVec.ofInt 64 x ^^^ BitVec.ofInt 64 y).isLt
  omega
theorem band_le (x m : Int) (hm : 0 ≤ m ∧ m < 1000000) : 0 ≤ bitsV .and .i64 x m ∧ bitsV .and .i64 x m ≤ m := by
  obtain ⟨n, rfl⟩ : ∃ n : Nat, m = n := ⟨m.toNat, by omega⟩
  show 0 ≤ (((BitVec.ofInt 64 x &&& BitVec.ofInt 64 (n : Int)).toNat : Nat) : Int) ∧ (((BitVec.ofInt 64 x &&& BitVec.ofInt 64 (n : Int)).toNat : Nat) : Int) ≤ n
  rw [BitVec.toNat_and]
  have h1 : (BitVec.ofInt 64 x).toNat &&& (BitVec.ofInt 64 (n : Int)).toNat ≤ (BitVec.ofInt 64 (n : Int)).toNat := Nat.and_le_right
  have h2 : (BitVec.ofInt 64 (n : Int)).toNat = n := by
    rw [BitVec.ofInt_natCast, BitVec.toNat_ofNat]
    exact Nat.mod_eq_of_lt (by omega)
  omega
theorem hsim_one {id es n : Nat} {r r' : Nat → List AV} (h : ∀ q, q < n → r q = r' q) : HpSim [(id, .ro es n r)] [(id, .ro es n r')] := fun x => by
  simp only [find]
  split
  · exact ⟨⟨rfl, rfl, h⟩, rfl, rfl, fun q hq => (h q hq).symm⟩
  · trivial
theorem set_row (L : List Int) (j : Nat) (y : Int) (q : Nat) (hj : j < L.length) : rowG encU (L.set j y) q = setRow (rowG encU L) j [U y] q := by
  unfold setRow rowG
  rw [List.getD_eq_getElem?_getD, List.getD_eq_getElem?_getD, List.getElem?_set]
  by_cases e : q = j
  · subst e
    simp [hj]
    rfl
  · have : ¬ j = q := fun h => e h.symm
    simp [e, this]
theorem wdL_wf {i s t a g : Int} (hi : Wd i) (hg : Wd g) (hk : lbOK s t a) : Wf (wdL i s t a g) := by
  have bd := sumL_bd i s t a g
  unfold lbOK at hk
  intro x hx
  simp only [wdL, List.mem_cons, List.not_mem_nil, or_false] at hx
  rcases hx with rfl | rfl | rfl | rfl | rfl | rfl | rfl | rfl
  · decide
  · exact hi
  · omega
  · omega
  · omega
  · exact hg
  · omega
  · decide
theorem wdL_set_wf {L : List Int} (h : Wf L) (j : Nat) {y : Int} (hy : Wd y) : Wf (L.set j y) := by
  intro x hx
  rcases List.mem_or_eq_of_mem_set hx with h1 | rfl
  · exact h x h1
  · exact hy
/-- the three lists that a label adds: both readings agree -/
theorem lab3 (i s t a g y : Int) (j : Nat) (hi : Wd i) (hg : Wd g) (hk : lbOK s t a) (hy : Wd y) (hj : j < 8) :
    (∃ c0 c1 c2 c3 c4 e : Int,
      CallOK Try.prog 19 [.sl 1 0 1 8 none] [(1, .ro 1 8 (rowG encU (wdL i s t a g)))] (.tup [.agg [U c0, I c1, I c2, I c3, U c4], I e]) [] ∧
      CallOK Try.prog 20 [.sl 1 0 1 8 none] [(1, .ro 1 8 (rowG encU (wdL i s t a g)))] (.tup [.agg [U c0, I c1, I c2, I c3, U c4], I e]) []) ∧
    (∃ c0 c1 c2 c3 c4 e : Int,
      CallOK Try.prog 19 [.sl 1 0 1 8 none] [(1, .ro 1 8 (setRow (rowG encU (wdL i s t a g)) j [U y]))] (.tup [.agg [U c0, I c1, I c2, I c3, U c4], I e]) [] ∧
      CallOK Try.prog 20 [.sl 1 0 1 8 none] [(1, .ro 1 8 (setRow (rowG encU (wdL i s t a g)) j [U y]))] (.tup [.agg [U c0, I c1, I c2, I c3, U c4], I e]) []) ∧
    CallOK Try.prog 19 [.sl 1 0 1 7 none] [(1, .ro 1 8 (rowG encU (wdL i s t a g)))] (.tup [noL, I 3]) [] ∧
    CallOK Try.prog 20 [.sl 1 0 1 7 none] [(1, .ro 1 8 (rowG encU (wdL i s t a g)))] (.tup [noL, I 3]) [] ∧
    CallOK Try.prog 16 [.sl 0 0 1 8 none, .sl 1 0 1 8 none] [(0, .ro 1 8 (rowG encU (wdL i s t a g))), (1, .ro 1 8 (rowG encU (wdL i s t a g)))] (B true) [] := by
  refine ⟨fw_both (wdL i s t a g) (wdL_wf hi hg hk) (by show 8 ≤ 1000; decide), ?_, fw_seven _ (fun _ _ => rfl), rfw_seven _ (fun _ _ => rfl), ?_⟩
  · obtain ⟨c0, c1, c2, c3, c4, e, p, q⟩ := fw_both ((wdL i s t a g).set j y) (wdL_set_wf (wdL_wf hi hg hk) j hy) (by rw [List.length_set]; show 8 ≤ 1000; decide)
    rw [List.length_set] at p q
    have os : HpSim [(1, .ro 1 8 (rowG encU ((wdL i s t a g).set j y)))] [(1, .ro 1 8 (setRow (rowG encU (wdL i s t a g)) j [U y]))] := hsim_one (fun q hq => set_row _ _ _ _ hj)
    exact ⟨c0, c1, c2, c3, c4, e, p.sim os, q.sim os⟩
  · have sm := same_any (wdL i s t a g) (wdL i s t a g) (by show 8 ≤ 1000000; decide) (by show 8 ≤ 1000000; decide)
    rw [decide_eq_true rfl] at sm
    exact sm
end Go.Proofs.Ytbgbjgedjmhcaaa
