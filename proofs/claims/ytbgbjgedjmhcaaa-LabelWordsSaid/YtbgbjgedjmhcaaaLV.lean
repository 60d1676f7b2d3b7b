/- LabelWords: every list of words. No conditions but those of each theorem. -/
import Derived.Test.YtbgbjgedjmhcaaaSyZ
import Derived.KernelRfl
import Derived.Test.YtbgbjgedjmhcaaaLUn
import Derived.Test.YtbgbjgedjmhcaaaLUyy
import Derived.Below
import Derived.WalkKit
import Derived.OpenShut
namespace Go.Proofs.Ytbgbjgedjmhcaaa
open Go.RowKit
set_option linter.unusedVariables false
set_option linter.unnecessarySimpa false
set_option linter.unusedSimpArgs false
set_option maxRecDepth 10000
theorem IsRow.factsU {W : World} {a : Option Addr} {len cap : Nat} {z : List Int} (h : IsRow .u64 W a len cap z) : len ≤ cap ∧ (z.take len).length = len ∧ len ≤ 9223372036854775807 ∧ Wf (z.take len) := by
  rcases h with ⟨rfl, rfl, rfl, rfl⟩ | ⟨x, rfl, hl, hm, hz, hcell, hwz⟩
  · exact ⟨Nat.le_refl _, rfl, by omega, fun x hx => by simp at hx⟩
  · refine ⟨hl, ?_, ?_, fun n hn => ?_⟩
    · rw [List.length_take]; omega
    · unfold maxLen at hm; omega
    · have := hwz n (List.mem_of_mem_take hn)
      simp [Lit.wf, IntKind.min, IntKind.max, IntKind.signed, IntKind.bits] at this
      omega
theorem IsRow.roU {W : World} {a : Option Addr} {len cap : Nat} {z : List Int} {E : Env} {id : Nat} (h : IsRow .u64 W a len cap z) (hE : E id = some (inE a cap)) : Holds E W id (.ro 1 (z.take len).length (rowG encU (z.take len))) ∧ RV E (.sl id 0 1 (z.take len).length none) (.slice a len cap) := by
  obtain ⟨hlc, hlen, _, _⟩ := h.factsU
  rcases h with ⟨rfl, rfl, rfl, rfl⟩ | ⟨x, rfl, hl, hm, hz, hcell, hwz⟩
  · refine ⟨⟨none, 0, [], hE, rfl, .inl ⟨rfl, rfl, rfl⟩, (fun u hu => by cases hu), fun q hq => by simp at hq⟩, none, 0, hE, ?_⟩
    exact ⟨none, rfl, rfl, rfl⟩
  · rw [hlen]
    by_cases h0 : cap = 0
    · subst h0
      obtain rfl : len = 0 := by omega
      have hE' : E id = some (none, 0) := hE
      refine ⟨⟨none, 0, [], hE', rfl, .inl ⟨rfl, rfl, rfl⟩, (fun u hu => by cases hu), fun q hq => by omega⟩, none, 0, hE', ?_⟩
      exact ⟨_, rfl, rfl, rfl⟩
    · have hE' : E id = some (some x, cap) := by rw [hE, inE, if_neg h0]
      have hspot : x.spot = none := by
        have hc := hcell 0 (by omega)
        obtain ⟨b, off, spot⟩ := x
        simpa [Addr.add] using World.cell?_spot hc
      have hb : x.block < W.heap.size := by
        have hc := hcell 0 (by omega)
        rw [addr_plus, if_pos rfl] at hc
        exact block_lt_of_cell hc
      obtain ⟨b, off, spot⟩ := x
      dsimp only at hspot hb
      subst hspot
      have ht : ∀ q, q < len → (z.take len).getD q default = z.getD q 0 := fun q hq => by
        rw [List.getD_eq_getElem?_getD, List.getElem?_take, if_pos hq, List.getD_eq_getElem?_getD]
        rfl
      refine ⟨⟨some ⟨b, off, none⟩, cap, (z.take len).map (fun n => Value.int .u64 n), hE', by rw [List.length_map, hlen, Nat.mul_one], .inr ⟨_, rfl, hb, hl, fun j u hu => ?_⟩, fun u hu => ?_, fun q hq => ?_⟩, some ⟨b, off, none⟩, cap, hE', ⟨off, cap, rfl, hl, by omega, fun _ => by simp, by simp⟩⟩
      · rw [List.getElem?_map] at hu
        cases hz' : (z.take len)[j]? with
        | none => rw [hz'] at hu; simp at hu
        | some n =>
          rw [hz'] at hu
          simp only [Option.map_some, Option.some.injEq] at hu
          subst hu
          have hj : j < len := by
            have := (List.getElem?_eq_some_iff.1 hz').1
            omega
          have hc := hcell j (by omega)
          have e : z.getD j 0 = n := by rw [← ht j hj, List.getD_eq_getElem?_getD, hz']; rfl
          rw [e, addr_plus] at hc
          by_cases e0 : j = 0
          · subst e0; simpa using hc
          · rw [if_neg e0] at hc; exact hc
      · obtain ⟨n, _, rfl⟩ := List.mem_map.1 hu
        rfl
      · unfold cellsAt rowG encU
        have hq' : q < (z.take len).length := by omega
        rw [Nat.mul_one, List.drop_eq_getElem_cons (by simpa using hq')]
        have : (z.take len).getD q default = (z.take len)[q] := by rw [List.getD_eq_getElem?_getD, List.getElem?_eq_getElem hq']; rfl
        rw [this]
        simp [RVs, RV, U]
theorem one_rowU {W : World} {a : Option Addr} {len cap : Nat} {z : List Int} (h : IsRow .u64 W a len cap z) (k : Nat) :
    ∃ E : Env, RH E [(k, .ro 1 (z.take len).length (rowG encU (z.take len)))] W ∧ RV E (.sl k 0 1 (z.take len).length none) (.slice a len cap) := by
  have key := h.roU (E := fun id => if id = k then some (inE a cap) else none) (id := k) (by simp)
  refine ⟨_, RH.ros (fun id o ho => ?_) (fun id o ho => ?_), key.2⟩
  · obtain ⟨rfl, rfl⟩ := find_one ho; exact key.1
  · obtain ⟨rfl, rfl⟩ := find_one ho; rfl
set_option maxHeartbeats 4000000 in
theorem lwd_big (i s t a g : Int) (L : List Int) (at' x : Int) (hl : 20 < L.length) (hm : L.length ≤ 9223372036854775807) : CallOK Try.prog 3 [.agg [U i, I s, I t, I a, U g], .sl 1 0 1 L.length none, .val (.int .u8 at'), U x] [(1, .ro 1 L.length (rowG encU L))] (B true) [] := by
  have aw := lawake_any
  refine CallOK.intro Try.call3 Try.func3 rfl rfl ⟨rfl, fun _ => rfl, trivial⟩ ?_
  have qL : (L.length : Int) > 20 := by omega
  refine Safe.ends mixed Try.func3 8 [⟨1100, []⟩, ⟨1200, [(2, .tt true)]⟩, ⟨1300, [(0, .call [] (B true) [])]⟩] (r := B true) (hp := [(1, .ro 1 L.length (rowG encU L))]) (ob := [decide ((↑L.length : Int) > (20 : Int)) = true, CallOK Try.prog (13 : Nat) ([] ++ [] ++ []) [] (AV.val (Value.bool true)) []]) rfl (by kernel_rfl) ⟨(decide_eq_true qL), aw, trivial⟩ rfl ⟨ObLe.refl _, trivial⟩ ⟨rfl, fun _ => rfl, trivial⟩ rfl
theorem lwd_any (i s t a g : Int) (L : List Int) (at' x : Int) (hi : Wd i) (hg : Wd g) (hx : Wd x) (hat : 0 ≤ at' ∧ at' ≤ 255) (hw : Wf L) (hm : L.length ≤ 9223372036854775807) : CallOK Try.prog 3 [.agg [U i, I s, I t, I a, U g], .sl 1 0 1 L.length none, .val (.int .u8 at'), U x] [(1, .ro 1 L.length (rowG encU L))] (B true) [] := by
  by_cases hl : L.length ≤ 20
  · by_cases h1 : lbOK s t a
    · by_cases h2 : lbOK (8 + bitsV .and .i64 s 63) (7 + bitsV .and .i64 t 15) (3 + bitsV .and .i64 a 15)
      · exact lwd_yy i s t a g L at' x hi hg hx hat hw hl h1 h2
      · exact lwd_yn i s t a g L at' x hi hg hx hat hw hl h1 h2
    · by_cases h2 : lbOK (8 + bitsV .and .i64 s 63) (7 + bitsV .and .i64 t 15) (3 + bitsV .and .i64 a 15)
      · exact lwd_ny i s t a g L at' x hi hg hx hat hw hl h1 h2
      · exact lwd_nn i s t a g L at' x hi hg hx hat hw hl h1 h2
  · exact lwd_big i s t a g L at' x (by omega) hm
end Go.Proofs.Ytbgbjgedjmhcaaa
