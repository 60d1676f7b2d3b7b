/- BlockCopies: the law. No conditions but those of each theorem. -/
import Derived.Test.YtcoilldcghamdaaSyZ
import Derived.KernelRfl
import Derived.Test.YtcoilldcghamdaaDSi
import Derived.Test.YtcoilldcghamdaaDSj
import Derived.Below
import Derived.WalkKit
import Derived.OpenShut
namespace Go.Proofs.Ytcoilldcghamdaa
open Go.RowKit
open OldD (DA Dk Co Un fp Gr Row Fresh hid hd hs gu nk good ldK ge vu Ar un stF chk3 chk4 rdV wrE wrK flK badU)
set_option linter.unusedVariables false
set_option linter.unnecessarySimpa false
set_option linter.unusedSimpArgs false
set_option maxRecDepth 10000
theorem IsRow.factsU {W : World} {a : Option Addr} {len cap : Nat} {z : List Int} (h : IsRow .u64 W a len cap z) : len ≤ cap ∧ (z.take len).length = len ∧ len ≤ 9223372036854775807 ∧ True := by
  rcases h with ⟨rfl, rfl, rfl, rfl⟩ | ⟨x, rfl, hl, hm, hz, hcell, hwz⟩
  · exact ⟨Nat.le_refl _, rfl, by omega, trivial⟩
  · refine ⟨hl, ?_, ?_, trivial⟩
    · rw [List.length_take]; omega
    · unfold maxLen at hm; omega
theorem IsRow.roU {W : World} {a : Option Addr} {len cap : Nat} {z : List Int} {E : Env} {id : Nat} (h : IsRow .u64 W a len cap z) (hE : E id = some (inE a cap)) : Holds E W id (.ro 1 (z.take len).length (rowG encU (z.take len))) ∧ RV E (.sl id 0 1 (z.take len).length none) (.slice a len cap) := by
  obtain ⟨hlc, hlen, _, _⟩ := h.factsU
  rcases h with ⟨rfl, rfl, rfl, rfl⟩ | ⟨x, rfl, hl, hm, hz, hcell, hwz⟩
  · refine ⟨⟨none, 0, [], hE, rfl, .inl ⟨rfl, rfl, rfl⟩, (fun u hu => by cases hu), fun q hq => by simp at hq⟩, none, 0, hE, ?_⟩
    exact ⟨none, rfl, rfl, rfl⟩
  · rw [hlen]
    by_cases h0 : cap = 0
    · subst h0
      obtain rfl : len = 0 := by omega
      have hE' : E id = some (none, 0) := hE
      refine ⟨⟨none, 0, [], hE', rfl, .inl ⟨rfl, rfl, rfl⟩, (fun u hu => by cases hu), fun q hq => by omega⟩, none, 0, hE', ?_⟩
      exact ⟨_, rfl, rfl, rfl⟩
    · have hE' : E id = some (some x, cap) := by rw [hE, inE, if_neg h0]
      have hspot : x.spot = none := by
        have hc := hcell 0 (by omega)
        obtain ⟨b, off, spot⟩ := x
        simpa [Addr.add] using World.cell?_spot hc
      have hb : x.block < W.heap.size := by
        have hc := hcell 0 (by omega)
        rw [addr_plus, if_pos rfl] at hc
        exact block_lt_of_cell hc
      obtain ⟨b, off, spot⟩ := x
      dsimp only at hspot hb
      subst hspot
      have ht : ∀ q, q < len → (z.take len).getD q default = z.getD q 0 := fun q hq => by
        rw [List.getD_eq_getElem?_getD, List.getElem?_take, if_pos hq, List.getD_eq_getElem?_getD]
        rfl
      refine ⟨⟨some ⟨b, off, none⟩, cap, (z.take len).map (fun n => Value.int .u64 n), hE', by rw [List.length_map, hlen, Nat.mul_one], .inr ⟨_, rfl, hb, hl, fun j u hu => ?_⟩, fun u hu => ?_, fun q hq => ?_⟩, some ⟨b, off, none⟩, cap, hE', ⟨off, cap, rfl, hl, by omega, fun _ => by simp, by simp⟩⟩
      · rw [List.getElem?_map] at hu
        cases hz' : (z.take len)[j]? with
        | none => rw [hz'] at hu; simp at hu
        | some n =>
          rw [hz'] at hu
          simp only [Option.map_some, Option.some.injEq] at hu
          subst hu
          have hj : j < len := by
            have := (List.getElem?_eq_some_iff.1 hz').1
            omega
          have hc := hcell j (by omega)
          have e : z.getD j 0 = n := by rw [← ht j hj, List.getD_eq_getElem?_getD, hz']; rfl
          rw [e, addr_plus] at hc
          by_cases e0 : j = 0
          · subst e0; simpa using hc
          · rw [if_neg e0] at hc; exact hc
      · obtain ⟨n, _, rfl⟩ := List.mem_map.1 hu
        rfl
      · unfold cellsAt rowG encU
        have hq' : q < (z.take len).length := by omega
        rw [Nat.mul_one, List.drop_eq_getElem_cons (by simpa using hq')]
        have : (z.take len).getD q default = (z.take len)[q] := by rw [List.getD_eq_getElem?_getD, List.getElem?_eq_getElem hq']; rfl
        rw [this]
        simp [RVs, RV, U]
theorem one_rowU {W : World} {a : Option Addr} {len cap : Nat} {z : List Int} (h : IsRow .u64 W a len cap z) (k : Nat) :
    ∃ E : Env, RH E [(k, .ro 1 (z.take len).length (rowG encU (z.take len)))] W ∧ RV E (.sl k 0 1 (z.take len).length none) (.slice a len cap) := by
  have key := h.roU (E := fun id => if id = k then some (inE a cap) else none) (id := k) (by simp)
  refine ⟨_, RH.ros (fun id o ho => ?_) (fun id o ho => ?_), key.2⟩
  · obtain ⟨rfl, rfl⟩ := find_one ho; exact key.1
  · obtain ⟨rfl, rfl⟩ := find_one ho; rfl
def X7 : List Int := wordsL 7 6
def Y5 : List Int := wordsL 500 6
def VB (z : Int) : AV := .val (.int .u8 z)
set_option maxHeartbeats 4000000 in
theorem bc_walk (A0 M0 bd : Int) (l : List Int) (hll : l.length ≤ 9223372036854775807) (P Q : List Int) (k0 : Dk) (gd : Gd k0 P Q 0) (hP : P.length = 6) (hQ : Q.length = 6) (hbd : 0 ≤ bd ∧ bd ≤ 255)
    (w1 : CallOK Try.prog 15 [I 6, U 7] [] (.sl 10 0 1 6 none) [(10, some (.vec 36 1 6 (rowG encU P)))])
    (w2 : CallOK Try.prog 15 [I 6, U 500] [] (.sl 10 0 1 6 none) [(10, some (.vec 36 1 6 (rowG encU Q)))])
    (ld : CallOK Try.prog 14 [.sl 1 0 1 2 none] [(1, .ro 1 2 (rowsOf [.sl 2 0 1 6 none, .sl 3 0 1 6 none] 1)), (2, .vec 36 1 6 (rowG encU P)), (3, .vec 36 1 6 (rowG encU Q))] (.ptr 10 0 0 0) [(10, some (.box (dbox 0 k0)))])
    (sp : CallOK Try.prog 22 [.ptr 0 0 0 0] [(0, .box (dbox 0 k0))] (.sl 10 0 1 2 none) [(0, some (.box (dbox 0 k0))), (10, some (.vec 41 1 2 (rowsOf [.ifc 100 (.agg [.ptr 0 0 0 0, I 0, I 0, I 6]), .ifc 100 (.agg [.ptr 0 0 0 0, I 1, I 0, I 6])] 1)))]) : CallOK Try.prog 6 [I A0, I M0, .sl 1 0 1 l.length none, VB bd] [(1, .ro 1 l.length (rowG encU l))] (B true) [] := by
  refine CallOK.intro Try.call6 Try.func6 rfl rfl ⟨rfl, fun _ => rfl, trivial⟩ ?_
  by_cases hl : l.length ≤ 12
  · have hl2 : ¬ (l.length : Int) > 12 := by omega
    obtain ⟨A1, hA1⟩ : ∃ x, x = bitsV .and .i64 A0 7 := ⟨_, rfl⟩
    obtain ⟨M1, hM1⟩ : ∃ x, x = bitsV .and .i64 M0 7 := ⟨_, rfl⟩
    refine Safe.withLoop (loopAt Try.f6 0) [1, 20] 325 (fun g : Nat => [(2, .sl 1 0 1 l.length none), (3, .val (.int .u8 bd)), (9, .sl 20 0 2 2 none), (10, I g)]) (fun g => [(1, .ro 1 l.length (rowG encU l)), (20, .vec 64 2 2 (rowsOf [I A0, I M0, I A1, I M1] 2))]) (fun g => g ≤ 2) (fun g => 2 - g) ?_ ?_
    · clear hA1 hM1
      intro g hg ih
      obtain rfl | rfl | rfl : g = 0 ∨ g = 1 ∨ g = 2 := by omega
      · have ih1 := ih 1 (by omega) (by omega)
        by_cases f1 : A0 ≥ 0
        · by_cases f2 : A0 ≤ 6
          · obtain ⟨s, rfl⟩ : ∃ s : Nat, A0 = s := ⟨A0.toNat, by omega⟩
            by_cases g3 : (l.length : Int) ≤ 6 - (s : Int)
            · by_cases f3 : M0 ≥ 0
              · by_cases f4 : M0 ≤ 6 - (s : Int)
                · obtain ⟨m, rfl⟩ : ∃ m : Nat, M0 = m := ⟨M0.toNat, by omega⟩
                  exact bc_0okF A1 M1 bd s m l hl P Q k0 gd hP hQ hbd w1 w2 ld sp f2 f4 g3 ih1
                · exact bc_0u1F A1 M1 bd s M0 l hl P Q k0 gd hP hQ hbd w1 w2 ld sp f2 f3 f4 g3 ih1
              · exact bc_0u0F A1 M1 bd s M0 l hl P Q k0 gd hP hQ hbd w1 w2 ld sp f2 f3 g3 ih1
            · by_cases f3 : M0 ≥ 0
              · by_cases f4 : M0 ≤ 6 - (s : Int)
                · obtain ⟨m, rfl⟩ : ∃ m : Nat, M0 = m := ⟨M0.toNat, by omega⟩
                  exact bc_0okN A1 M1 bd s m l hl P Q k0 gd hP hQ hbd w1 w2 ld sp f2 f4 g3 ih1
                · exact bc_0u1N A1 M1 bd s M0 l hl P Q k0 gd hP hQ hbd w1 w2 ld sp f2 f3 f4 g3 ih1
              · exact bc_0u0N A1 M1 bd s M0 l hl P Q k0 gd hP hQ hbd w1 w2 ld sp f2 f3 g3 ih1
          · exact bc_0n1 A1 M1 bd A0 M0 l hl P Q k0 gd hP hQ hbd w1 w2 ld sp f1 f2 ih1
        · exact bc_0n0 A1 M1 bd A0 M0 l hl P Q k0 gd hP hQ hbd w1 w2 ld sp f1 ih1
      · have ih1 := ih 2 (by omega) (by omega)
        by_cases f1 : A1 ≥ 0
        · by_cases f2 : A1 ≤ 6
          · obtain ⟨s, rfl⟩ : ∃ s : Nat, A1 = s := ⟨A1.toNat, by omega⟩
            by_cases g3 : (l.length : Int) ≤ 6 - (s : Int)
            · by_cases f3 : M1 ≥ 0
              · by_cases f4 : M1 ≤ 6 - (s : Int)
                · obtain ⟨m, rfl⟩ : ∃ m : Nat, M1 = m := ⟨M1.toNat, by omega⟩
                  exact bc_1okF A0 M0 bd s m l hl P Q k0 gd hP hQ hbd w1 w2 ld sp f2 f4 g3 ih1
                · exact bc_1u1F A0 M0 bd s M1 l hl P Q k0 gd hP hQ hbd w1 w2 ld sp f2 f3 f4 g3 ih1
              · exact bc_1u0F A0 M0 bd s M1 l hl P Q k0 gd hP hQ hbd w1 w2 ld sp f2 f3 g3 ih1
            · by_cases f3 : M1 ≥ 0
              · by_cases f4 : M1 ≤ 6 - (s : Int)
                · obtain ⟨m, rfl⟩ : ∃ m : Nat, M1 = m := ⟨M1.toNat, by omega⟩
                  exact bc_1okN A0 M0 bd s m l hl P Q k0 gd hP hQ hbd w1 w2 ld sp f2 f4 g3 ih1
                · exact bc_1u1N A0 M0 bd s M1 l hl P Q k0 gd hP hQ hbd w1 w2 ld sp f2 f3 f4 g3 ih1
              · exact bc_1u0N A0 M0 bd s M1 l hl P Q k0 gd hP hQ hbd w1 w2 ld sp f2 f3 g3 ih1
          · exact bc_1n1 A0 M0 bd A1 M1 l hl P Q k0 gd hP hQ hbd w1 w2 ld sp f1 f2 ih1
        · exact bc_1n0 A0 M0 bd A1 M1 l hl P Q k0 gd hP hQ hbd w1 w2 ld sp f1 ih1
      · skip
        refine Safe.ends mixed Go.Proofs.Try.func6 7 [⟨1100, []⟩, ⟨1200, [(0, .call [] (B (true)) [])]⟩] (r := B (true)) (hp := [(1, .ro ((1 : Nat)) (l.length) (rowG encU l))]) (ob := [CallOK Try.prog (11 : Nat) ([] ++ [] ++ []) [] (AV.val (Value.bool true)) []]) rfl (by kernel_rfl) ⟨awake_any, trivial⟩ rfl ⟨ObLe.refl _, trivial⟩ ⟨rfl, fun _ => rfl, trivial⟩ rfl
    · intro H
      rw [hA1, hM1] at H
      have b1 : 0 ≤ bitsV .and .i64 A0 7 ∧ bitsV .and .i64 A0 7 < 8 := by rw [and7]; omega
      have b2 : 0 ≤ bitsV .and .i64 M0 7 ∧ bitsV .and .i64 M0 7 < 8 := by rw [and7]; omega
      refine Safe.goto mixed 14 [⟨1100, []⟩, ⟨1200, [(2, .tt false)]⟩, ⟨1300, []⟩, ⟨1400, []⟩] [2, 3, 9, 10] [1, 1308] (todo' := loopAt Go.Proofs.Try.f6 0) (sl := slotsOf 325 [(2, .sl ((1 : Nat)) ((0 : Nat)) ((1 : Nat)) (l.length) (none)), (3, .val (Value.int IntKind.u8 bd)), (9, .sl ((1308 : Nat)) ((0 : Nat)) ((2 : Nat)) ((2 : Nat)) (none)), (10, I ((0 : Int)))]) (hp := [(1, .ro ((1 : Nat)) (l.length) (rowG encU l)), (1308, .vec ((64 : Nat)) ((2 : Nat)) ((2 : Nat)) (rowsOf [AV.val (Value.int IntKind.i64 A0), AV.val (Value.int IntKind.i64 M0), AV.val (Value.int IntKind.i64 (bitsV BinOp.and IntKind.i64 A0 (7 : Int))), AV.val (Value.int IntKind.i64 (bitsV BinOp.and IntKind.i64 M0 (7 : Int)))] (2 : Nat)))]) (ob := [decide ((↑l.length : Int) > (12 : Int)) = false, inK IntKind.i64 (bitsV BinOp.and IntKind.i64 A0 (7 : Int)), inK IntKind.i64 (bitsV BinOp.and IntKind.i64 M0 (7 : Int))]) rfl rfl (by kernel_rfl) ⟨(decide_eq_false hl2), (by simp only [inK]; omega), (by simp only [inK]; omega), trivial⟩ rfl ⟨rfl, fun _ => rfl, rfl, closed_rows rfl, trivial⟩ ?_
      refine Safe.ren [(1308, 20)] rfl rfl rfl rfl ⟨rfl, fun _ => rfl, rfl, closed_rows rfl, trivial⟩ ?_
      · exact Safe.leH (H 0 (by omega)) rfl (SlLe.refl _) ⟨ObLe.refl _, ⟨rfl, rfl, rfl, fun q hq => match q, hq with | 0, _ | 1, _ => rfl⟩, trivial⟩ rfl ⟨rfl, fun _ => rfl, rfl, fun q => closed_rows rfl q, trivial⟩
  · have hl2 : (l.length : Int) > 12 := by omega
    refine Safe.ends mixed Go.Proofs.Try.func6 8 [⟨1100, []⟩, ⟨1200, [(2, .tt true)]⟩, ⟨1300, [(0, .call [] (B (true)) [])]⟩] (r := B (true)) (hp := [(1, .ro ((1 : Nat)) (l.length) (rowG encU l))]) (ob := [decide ((↑l.length : Int) > (12 : Int)) = true, CallOK Try.prog (11 : Nat) ([] ++ [] ++ []) [] (AV.val (Value.bool true)) []]) rfl (by kernel_rfl) ⟨(decide_eq_true hl2), awake_any, trivial⟩ rfl ⟨ObLe.refl _, trivial⟩ ⟨rfl, fun _ => rfl, trivial⟩ rfl
theorem copies_law (A0 M0 bd : Int) (hbd : 0 ≤ bd ∧ bd ≤ 255) (l : List Int) (hll : l.length ≤ 9223372036854775807) : CallOK Try.prog 6 [I A0, I M0, .sl 1 0 1 l.length none, VB bd] [(1, .ro 1 l.length (rowG encU l))] (B true) [] := by
  have w1 : CallOK Try.prog 15 [I 6, U 7] [] (.sl 10 0 1 6 none) [(10, some (.vec 36 1 6 (rowG encU X7)))] := words_any 6 7 (by omega)
  have w2 : CallOK Try.prog 15 [I 6, U 500] [] (.sl 10 0 1 6 none) [(10, some (.vec 36 1 6 (rowG encU Y5)))] := words_any 6 500 (by omega)
  have ld : CallOK Try.prog 14 [.sl 1 0 1 2 none] [(1, .ro 1 2 (rowsOf [.sl 2 0 1 6 none, .sl 3 0 1 6 none] 1)), (2, .vec 36 1 6 (rowG encU X7)), (3, .vec 36 1 6 (rowG encU Y5))] (.ptr 10 0 0 0) [(10, some (.box (dbox 0 (disk2 X7 Y5))))] := loaded2 X7 Y5 ⟨by decide, by decide⟩ ⟨by decide, by decide⟩
  have sp : CallOK Try.prog 22 [.ptr 0 0 0 0] [(0, .box (dbox 0 (disk2 X7 Y5)))] (.sl 10 0 1 2 none) [(0, some (.box (dbox 0 (disk2 X7 Y5)))), (10, some (.vec 41 1 2 (rowsOf [.ifc 100 (.agg [.ptr 0 0 0 0, I 0, I 0, I 6]), .ifc 100 (.agg [.ptr 0 0 0 0, I 1, I 0, I 6])] 1)))] := spans2 X7 Y5 ⟨by decide, by decide⟩ ⟨by decide, by decide⟩
  exact bc_walk A0 M0 bd l hll X7 Y5 (disk2 X7 Y5) (disk2_gd X7 Y5) rfl rfl hbd w1 w2 ld sp
end Go.Proofs.Ytcoilldcghamdaa
