/- LabelDevices: the law. No conditions but those of each theorem. -/
import Derived.Test.YtbgbjgedjmhcaaaLXe
import Derived.Below
import Derived.WalkKit
import Derived.OpenShut
namespace Go.Proofs.Ytbgbjgedjmhcaaa
open Go.RowKit
open OldD (Dk Un gu ge)
set_option linter.unusedVariables false
set_option linter.unusedSimpArgs false
theorem IsRow.factsU {W : World} {a : Option Addr} {len cap : Nat} {z : List Int} (h : IsRow .u64 W a len cap z) : len ≤ cap ∧ (z.take len).length = len ∧ len ≤ 9223372036854775807 ∧ Wf (z.take len) := by
  rcases h with ⟨rfl, rfl, rfl, rfl⟩ | ⟨x, rfl, hl, hm, hz, hcell, hwz⟩
  · exact ⟨Nat.le_refl _, rfl, by omega, fun x hx => by simp at hx⟩
  · refine ⟨hl, ?_, ?_, fun n hn => ?_⟩
    · rw [List.length_take]; omega
    · unfold maxLen at hm; omega
    · have := hwz n (List.mem_of_mem_take hn)
      simp [Lit.wf, IntKind.min, IntKind.max, IntKind.signed, IntKind.bits] at this
      omega
theorem IsRow.roU {W : World} {a : Option Addr} {len cap : Nat} {z : List Int} {E : Env} {id : Nat} (h : IsRow .u64 W a len cap z) (hE : E id = some (inE a cap)) : Holds E W id (.ro 1 (z.take len).length (rowG encU (z.take len))) ∧ RV E (.sl id 0 1 (z.take len).length none) (.slice a len cap) := by
  obtain ⟨hlc, hlen, _, _⟩ := h.factsU
  rcases h with ⟨rfl, rfl, rfl, rfl⟩ | ⟨x, rfl, hl, hm, hz, hcell, hwz⟩
  · refine ⟨⟨none, 0, [], hE, rfl, .inl ⟨rfl, rfl, rfl⟩, (fun u hu => by cases hu), fun q hq => by simp at hq⟩, none, 0, hE, ?_⟩
    exact ⟨none, rfl, rfl, rfl⟩
  · rw [hlen]
    by_cases h0 : cap = 0
    · subst h0
      obtain rfl : len = 0 := by omega
      have hE' : E id = some (none, 0) := hE
      refine ⟨⟨none, 0, [], hE', rfl, .inl ⟨rfl, rfl, rfl⟩, (fun u hu => by cases hu), fun q hq => by omega⟩, none, 0, hE', ?_⟩
      exact ⟨_, rfl, rfl, rfl⟩
    · have hE' : E id = some (some x, cap) := by rw [hE, inE, if_neg h0]
      have hspot : x.spot = none := by
        have hc := hcell 0 (by omega)
        obtain ⟨b, off, spot⟩ := x
        simpa [Addr.add] using World.cell?_spot hc
      have hb : x.block < W.heap.size := by
        have hc := hcell 0 (by omega)
        rw [addr_plus, if_pos rfl] at hc
        exact block_lt_of_cell hc
      obtain ⟨b, off, spot⟩ := x
      dsimp only at hspot hb
      subst hspot
      have ht : ∀ q, q < len → (z.take len).getD q default = z.getD q 0 := fun q hq => by
        rw [List.getD_eq_getElem?_getD, List.getElem?_take, if_pos hq, List.getD_eq_getElem?_getD]
        rfl
      refine ⟨⟨some ⟨b, off, none⟩, cap, (z.take len).map (fun n => Value.int .u64 n), hE', by rw [List.length_map, hlen, Nat.mul_one], .inr ⟨_, rfl, hb, hl, fun j u hu => ?_⟩, fun u hu => ?_, fun q hq => ?_⟩, some ⟨b, off, none⟩, cap, hE', ⟨off, cap, rfl, hl, by omega, fun _ => by simp, by simp⟩⟩
      · rw [List.getElem?_map] at hu
        cases hz' : (z.take len)[j]? with
        | none => rw [hz'] at hu; simp at hu
        | some n =>
          rw [hz'] at hu
          simp only [Option.map_some, Option.some.injEq] at hu
          subst hu
          have hj : j < len := by
            have := (List.getElem?_eq_some_iff.1 hz').1
            omega
          have hc := hcell j (by omega)
          have e : z.getD j 0 = n := by rw [← ht j hj, List.getD_eq_getElem?_getD, hz']; rfl
          rw [e, addr_plus] at hc
          by_cases e0 : j = 0
          · subst e0; simpa using hc
          · rw [if_neg e0] at hc; exact hc
      · obtain ⟨n, _, rfl⟩ := List.mem_map.1 hu
        rfl
      · unfold cellsAt rowG encU
        have hq' : q < (z.take len).length := by omega
        rw [Nat.mul_one, List.drop_eq_getElem_cons (by simpa using hq')]
        have : (z.take len).getD q default = (z.take len)[q] := by rw [List.getD_eq_getElem?_getD, List.getElem?_eq_getElem hq']; rfl
        rw [this]
        simp [RVs, RV, U]
theorem one_rowU {W : World} {a : Option Addr} {len cap : Nat} {z : List Int} (h : IsRow .u64 W a len cap z) (k : Nat) :
    ∃ E : Env, RH E [(k, .ro 1 (z.take len).length (rowG encU (z.take len)))] W ∧ RV E (.sl k 0 1 (z.take len).length none) (.slice a len cap) := by
  have key := h.roU (E := fun id => if id = k then some (inE a cap) else none) (id := k) (by simp)
  refine ⟨_, RH.ros (fun id o ho => ?_) (fun id o ho => ?_), key.2⟩
  · obtain ⟨rfl, rfl⟩ := find_one ho; exact key.1
  · obtain ⟨rfl, rfl⟩ := find_one ho; rfl
theorem lde_any (i s t a g n : Int) (X : List Int) (hi : Wd i) (hg : Wd g) (hw : Wf X) (hm : X.length ≤ 9223372036854775807) : CallOK Try.prog 4 [.agg [U i, I s, I t, I a, U g], .sl 1 0 1 X.length none, .val (.int .u8 n)] [(1, .ro 1 X.length (rowG encU X))] (B true) [] := by
  by_cases h40 : X.length ≤ 40
  · by_cases h0 : X.length = 0
    · exact lde_nil i s t a g n X h0
    · by_cases h8 : X.length < 8
      · by_cases hk : lbOK (1 + bitsV .and .i64 s 31) (bitsV .and .i64 t 15) (bitsV .and .i64 a 15)
        · exact lde_tiny1 i s t a g n X ⟨by omega, h8⟩ hk
        · exact lde_tiny0 i s t a g n X ⟨by omega, h8⟩ hk
      · have hx : 8 ≤ X.length ∧ X.length ≤ 40 := by omega
        have ld := loadedN1r X (by omega)
        have q0 := dk1_q X
        generalize dkN [X] = k at ld q0
        rcases rd_cases X k hw (by omega) q0 with ⟨e, he, rd, rf⟩ | ⟨j0, j1, j2, j3, j4, hz, rd, rf⟩ | ⟨j0, j1, j2, j3, j4, hz, rd, rf⟩
        · by_cases hk : lbOK (1 + bitsV .and .i64 s 31) (bitsV .and .i64 t 15) (bitsV .and .i64 a 15)
          · by_cases hs : (1 + bitsV .and .i64 s 31) > (X.length : Int)
            · exact lde_As i s t a g n X hi hg hx e he k q0 ld rd rf hk hs
            · exact lde_Ao i s t a g n X hi hg hx e he k q0 ld rd rf hk hs
          · exact lde_Ab i s t a g n X hi hg hx e he k q0 ld rd rf hk
        · by_cases hk : lbOK (1 + bitsV .and .i64 s 31) (bitsV .and .i64 t 15) (bitsV .and .i64 a 15)
          · by_cases hs : (1 + bitsV .and .i64 s 31) > (X.length : Int)
            · exact lde_Bs i s t a g n X hi hg hx j0 j1 j2 j3 j4 hz k q0 ld rd rf hk hs
            · exact lde_Bo i s t a g n X hi hg hx j0 j1 j2 j3 j4 hz k q0 ld rd rf hk hs
          · exact lde_Bb i s t a g n X hi hg hx j0 j1 j2 j3 j4 hz k q0 ld rd rf hk
        · by_cases hk : lbOK (1 + bitsV .and .i64 s 31) (bitsV .and .i64 t 15) (bitsV .and .i64 a 15)
          · by_cases hs : (1 + bitsV .and .i64 s 31) > (X.length : Int)
            · exact lde_Cs i s t a g n X hi hg hx j0 j1 j2 j3 j4 hz k q0 ld rd rf hk hs
            · exact lde_Co i s t a g n X hi hg hx j0 j1 j2 j3 j4 hz k q0 ld rd rf hk hs
          · exact lde_Cb i s t a g n X hi hg hx j0 j1 j2 j3 j4 hz k q0 ld rd rf hk
  · exact lde_big i s t a g n X (by omega) hm
end Go.Proofs.Ytbgbjgedjmhcaaa
