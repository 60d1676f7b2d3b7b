/- Bytes that came in; words; an array without disks. No conditions but those of each theorem. -/
import Derived.Test.YtbgbjgedjmhcaaaSyZ
import Derived.KernelRfl
import Derived.Test.YtbgbjgedjmhcaaaDY
import Derived.Below
import Derived.WalkKit
import Derived.OpenShut
namespace Go.Proofs.Ytbgbjgedjmhcaaa
open Go.RowKit
open OldD (DA Dk Co fp Gr Row Fresh hid hd hs gu nk good ldK ge vu Ar un stF chk3 chk4 rdV wrE wrK flK)
set_option linter.unusedVariables false
set_option linter.unnecessarySimpa false
set_option linter.unusedSimpArgs false
set_option maxRecDepth 10000
def enc8 (z : Int) : List AV := [.val (.int .u8 z)]
theorem words_i (z s : Int) (h : 0 ≤ z ∧ z ≤ 1000) : CallOK Try.prog 35 [I z, U s] [] (.sl 10 0 1 z.toNat none) [(10, some (.vec 22 1 z.toNat (rowG encU (wordsL s z.toNat))))] := by
  have := words_any z.toNat s (by omega)
  rwa [show ((z.toNat : Nat) : Int) = z by omega] at this
theorem IsRow.factsB {W : World} {a : Option Addr} {len cap : Nat} {z : List Int} (h : IsRow .u8 W a len cap z) : len ≤ cap ∧ (z.take len).length = len ∧ len ≤ 9223372036854775807 ∧ ∀ x ∈ z.take len, 0 ≤ x ∧ x ≤ 255 := by
  rcases h with ⟨rfl, rfl, rfl, rfl⟩ | ⟨x, rfl, hl, hm, hz, hcell, hwz⟩
  · exact ⟨Nat.le_refl _, rfl, by omega, fun x hx => by simp at hx⟩
  · refine ⟨hl, ?_, ?_, fun n hn => ?_⟩
    · rw [List.length_take]; omega
    · unfold maxLen at hm; omega
    · have := hwz n (List.mem_of_mem_take hn)
      simp [Lit.wf, IntKind.min, IntKind.max, IntKind.signed, IntKind.bits] at this
      omega
theorem IsRow.roB {W : World} {a : Option Addr} {len cap : Nat} {z : List Int} {E : Env} {id : Nat} (h : IsRow .u8 W a len cap z) (hE : E id = some (inE a cap)) : Holds E W id (.ro 1 (z.take len).length (rowG enc8 (z.take len))) ∧ RV E (.sl id 0 1 (z.take len).length none) (.slice a len cap) := by
  obtain ⟨hlc, hlen, _, _⟩ := h.factsB
  rcases h with ⟨rfl, rfl, rfl, rfl⟩ | ⟨x, rfl, hl, hm, hz, hcell, hwz⟩
  · refine ⟨⟨none, 0, [], hE, rfl, .inl ⟨rfl, rfl, rfl⟩, (fun u hu => by cases hu), fun q hq => by simp at hq⟩, none, 0, hE, ?_⟩
    exact ⟨none, rfl, rfl, rfl⟩
  · rw [hlen]
    by_cases h0 : cap = 0
    · subst h0
      obtain rfl : len = 0 := by omega
      have hE' : E id = some (none, 0) := hE
      refine ⟨⟨none, 0, [], hE', rfl, .inl ⟨rfl, rfl, rfl⟩, (fun u hu => by cases hu), fun q hq => by omega⟩, none, 0, hE', ?_⟩
      exact ⟨_, rfl, rfl, rfl⟩
    · have hE' : E id = some (some x, cap) := by rw [hE, inE, if_neg h0]
      have hspot : x.spot = none := by
        have hc := hcell 0 (by omega)
        obtain ⟨b, off, spot⟩ := x
        simpa [Addr.add] using World.cell?_spot hc
      have hb : x.block < W.heap.size := by
        have hc := hcell 0 (by omega)
        rw [addr_plus, if_pos rfl] at hc
        exact block_lt_of_cell hc
      obtain ⟨b, off, spot⟩ := x
      dsimp only at hspot hb
      subst hspot
      have ht : ∀ q, q < len → (z.take len).getD q default = z.getD q 0 := fun q hq => by
        rw [List.getD_eq_getElem?_getD, List.getElem?_take, if_pos hq, List.getD_eq_getElem?_getD]
        rfl
      refine ⟨⟨some ⟨b, off, none⟩, cap, (z.take len).map (fun n => Value.int .u8 n), hE', by rw [List.length_map, hlen, Nat.mul_one], .inr ⟨_, rfl, hb, hl, fun j u hu => ?_⟩, fun u hu => ?_, fun q hq => ?_⟩, some ⟨b, off, none⟩, cap, hE', ⟨off, cap, rfl, hl, by omega, fun _ => by simp, by simp⟩⟩
      · rw [List.getElem?_map] at hu
        cases hz' : (z.take len)[j]? with
        | none => rw [hz'] at hu; simp at hu
        | some n =>
          rw [hz'] at hu
          simp only [Option.map_some, Option.some.injEq] at hu
          subst hu
          have hj : j < len := by
            have := (List.getElem?_eq_some_iff.1 hz').1
            omega
          have hc := hcell j (by omega)
          have e : z.getD j 0 = n := by rw [← ht j hj, List.getD_eq_getElem?_getD, hz']; rfl
          rw [e, addr_plus] at hc
          by_cases e0 : j = 0
          · subst e0; simpa using hc
          · rw [if_neg e0] at hc; exact hc
      · obtain ⟨n, _, rfl⟩ := List.mem_map.1 hu
        rfl
      · unfold cellsAt rowG enc8
        have hq' : q < (z.take len).length := by omega
        rw [Nat.mul_one, List.drop_eq_getElem_cons (by simpa using hq')]
        have : (z.take len).getD q default = (z.take len)[q] := by rw [List.getD_eq_getElem?_getD, List.getElem?_eq_getElem hq']; rfl
        rw [this]
        simp [RVs, RV]
theorem one_rowB {W : World} {a : Option Addr} {len cap : Nat} {z : List Int} (h : IsRow .u8 W a len cap z) (k : Nat) :
    ∃ E : Env, RH E [(k, .ro 1 (z.take len).length (rowG enc8 (z.take len)))] W ∧ RV E (.sl k 0 1 (z.take len).length none) (.slice a len cap) := by
  have key := h.roB (E := fun id => if id = k then some (inE a cap) else none) (id := k) (by simp)
  refine ⟨_, RH.ros (fun id o ho => ?_) (fun id o ho => ?_), key.2⟩
  · obtain ⟨rfl, rfl⟩ := find_one ho; exact key.1
  · obtain ⟨rfl, rfl⟩ := find_one ho; rfl
set_option maxHeartbeats 4000000 in
theorem loadedNil : CallOK Try.prog 21 [.val (.slice none 0 0)] [] (.ptr 10 0 0 0) [(10, some (.box (dbox 0 (dkN []))))] := by
  refine CallOK.intro Try.call21 Try.func21 rfl rfl trivial ?_
  have nc := new_c [] (by simp) (fun i hi => by simp at hi)
  have e : dkN [] = nk [] := rfl
  rw [e]
  refine Safe.gotoS mixed 15 [⟨100, []⟩, ⟨200, []⟩, ⟨300, []⟩, ⟨400, []⟩] [0, 2, 3, 4, 8, 9, 10, 11] [] (sl := slotsOf 48 [(0, .val (Value.slice none (0 : Nat) (0 : Nat))), (2, .val (Value.pointer none)), (3, .val (Value.slice none (0 : Nat) (0 : Nat))), (4, I 0), (8, I 0), (9, .val (Value.slice none (0 : Nat) (0 : Nat))), (10, I ((↑(0 : Nat) : Int))), (11, B false)]) (hp := []) (ob := []) rfl rfl (by kernel_rfl) trivial rfl trivial ?_
  refine Safe.here (regionAt Try.f21 6) (by kernel_rfl) ?_
  refine Safe.leH (sl' := slotsOf 48 [(0, .val (.slice none 0 0)), (3, .val (.slice none 0 0))]) (hp' := []) (dom' := []) ?_ rfl ?_ trivial rfl trivial
  · refine Safe.nil 3 20 3 1 (rowG encI []) rfl rfl trivial ?_ rfl
    refine Safe.gotoE mixed 18 [⟨1100, [(1, .call [20] (.tup [.ptr 1155 0 0 0, I 0]) [(1155, some (.box (dbox (0 : Nat) (nk []))))])]⟩, ⟨1200, []⟩, ⟨1300, []⟩, ⟨1400, []⟩, ⟨1500, []⟩] [2] [1155] (sl := slotsOf 48 [(2, .ptr 1155 0 0 0)]) (hp := [(1155, .box (dbox (0 : Nat) (nk [])))]) (ob := [CallOK Try.prog (57 : Nat) ([] ++ [AV.sl (20 : Nat) (0 : Nat) (1 : Nat) (0 : Nat) none] ++ []) [((20 : Nat), Ob.vec (3 : Nat) (1 : Nat) (0 : Nat) (rowG encI []))] (AV.tup [AV.ptr (1155 : Nat) (0 : Nat) (0 : Nat) (0 : Nat), AV.val (Value.int IntKind.i64 (0 : Int))]) [((1155 : Nat), some (Ob.box (dbox (0 : Nat) (nk []))))]]) rfl rfl (by kernel_rfl) ⟨(CallOK.ren (CallOK.own 3 1 (es := (1 : Nat)) (n := [].length) (row := rowG encI []) rfl rfl rfl nc) [(1, 20), (10, 1155)] [1, 10] rfl rfl rfl rfl ⟨rfl, fun _ => rfl, trivial⟩ rfl ⟨rfl, fun _ => rfl, rfl, trivial, trivial⟩), trivial⟩ rfl ⟨rfl, trivial, trivial⟩ fun td htd => ?_
    refine Safe.ren [(1155, 10)] rfl rfl rfl rfl ⟨rfl, trivial, trivial⟩ ?_
    refine Safe.endsT Try.func21 htd (r := .ptr 10 0 0 0) (hp := [(10, .box (dbox (0 : Nat) (nk [])))]) (ob := []) rfl (by kernel_rfl) trivial rfl ⟨ObLe.refl _, trivial⟩ ⟨rfl, trivial, trivial⟩ rfl
  · repeat (first | exact ⟨rfl, trivial⟩ | refine ⟨rfl, ?_⟩ | refine ⟨trivial, ?_⟩ | exact trivial)
end Go.Proofs.Ytbgbjgedjmhcaaa
