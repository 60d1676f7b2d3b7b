/- TreenodeSeals. No conditions but those of each theorem. -/
import Derived.Test.YtonjaghkiaaipaaSyZ
import Derived.KernelRfl
import Derived.Test.YtonjaghkiaaipaaWD
import Derived.Test.YtonjaghkiaaipaaWE
namespace Go.Proofs.Ytonjaghkiaaipaa
open Go.RowKit
set_option linter.unusedVariables false
set_option linter.unnecessarySimpa false
set_option linter.unusedSimpArgs false
def encK (kd : IntKind) (x : Int) : List AV := [.val (.int kd x)]
theorem IsRow.factsK {kd : IntKind} {W : World} {a : Option Addr} {len cap : Nat} {z : List Int} (h : IsRow kd W a len cap z) : len ≤ cap ∧ (z.take len).length = len ∧ len ≤ 9223372036854775807 := by
  rcases h with ⟨rfl, rfl, rfl, rfl⟩ | ⟨x, rfl, hl, hm, hz, hcell, hwz⟩
  · exact ⟨Nat.le_refl _, rfl, by omega⟩
  · refine ⟨hl, ?_, ?_⟩
    · rw [List.length_take]; omega
    · unfold maxLen at hm; omega
theorem IsRow.roK {kd : IntKind} {W : World} {a : Option Addr} {len cap : Nat} {z : List Int} {E : Env} {id : Nat} (h : IsRow kd W a len cap z) (hE : E id = some (inE a cap)) : Holds E W id (.ro 1 (z.take len).length (rowG (encK kd) (z.take len))) ∧ RV E (.sl id 0 1 (z.take len).length none) (.slice a len cap) := by
  obtain ⟨hlc, hlen, _⟩ := h.factsK
  rcases h with ⟨rfl, rfl, rfl, rfl⟩ | ⟨x, rfl, hl, hm, hz, hcell, hwz⟩
  · refine ⟨⟨none, 0, [], hE, rfl, .inl ⟨rfl, rfl, rfl⟩, (fun u hu => by cases hu), fun q hq => by simp at hq⟩, none, 0, hE, ?_⟩
    exact ⟨none, rfl, rfl, rfl⟩
  · rw [hlen]
    by_cases h0 : cap = 0
    · subst h0
      obtain rfl : len = 0 := by omega
      have hE' : E id = some (none, 0) := hE
      refine ⟨⟨none, 0, [], hE', rfl, .inl ⟨rfl, rfl, rfl⟩, (fun u hu => by cases hu), fun q hq => by omega⟩, none, 0, hE', ?_⟩
      exact ⟨_, rfl, rfl, rfl⟩
    · have hE' : E id = some (some x, cap) := by rw [hE, inE, if_neg h0]
      have hspot : x.spot = none := by
        have hc := hcell 0 (by omega)
        obtain ⟨b, off, spot⟩ := x
        simpa [Addr.add] using World.cell?_spot hc
      have hb : x.block < W.heap.size := by
        have hc := hcell 0 (by omega)
        rw [addr_plus, if_pos rfl] at hc
        exact block_lt_of_cell hc
      obtain ⟨b, off, spot⟩ := x
      dsimp only at hspot hb
      subst hspot
      have ht : ∀ q, q < len → (z.take len).getD q default = z.getD q 0 := fun q hq => by
        rw [List.getD_eq_getElem?_getD, List.getElem?_take, if_pos hq, List.getD_eq_getElem?_getD]
        rfl
      refine ⟨⟨some ⟨b, off, none⟩, cap, (z.take len).map (fun n => Value.int kd n), hE', by rw [List.length_map, hlen, Nat.mul_one], .inr ⟨_, rfl, hb, hl, fun j u hu => ?_⟩, fun u hu => ?_, fun q hq => ?_⟩, some ⟨b, off, none⟩, cap, hE', ⟨off, cap, rfl, hl, by omega, fun _ => by simp, by simp⟩⟩
      · rw [List.getElem?_map] at hu
        cases hz' : (z.take len)[j]? with
        | none => rw [hz'] at hu; simp at hu
        | some n =>
          rw [hz'] at hu
          simp only [Option.map_some, Option.some.injEq] at hu
          subst hu
          have hj : j < len := by
            have := (List.getElem?_eq_some_iff.1 hz').1
            omega
          have hc := hcell j (by omega)
          have e : z.getD j 0 = n := by rw [← ht j hj, List.getD_eq_getElem?_getD, hz']; rfl
          rw [e, addr_plus] at hc
          by_cases e0 : j = 0
          · subst e0; simpa using hc
          · rw [if_neg e0] at hc; exact hc
      · obtain ⟨n, _, rfl⟩ := List.mem_map.1 hu
        rfl
      · unfold cellsAt rowG encK
        have hq' : q < (z.take len).length := by omega
        rw [Nat.mul_one, List.drop_eq_getElem_cons (by simpa using hq')]
        have : (z.take len).getD q default = (z.take len)[q] := by rw [List.getD_eq_getElem?_getD, List.getElem?_eq_getElem hq']; rfl
        rw [this]
        simp [RVs, RV]
theorem one_rowK {kd : IntKind} {W : World} {a : Option Addr} {len cap : Nat} {z : List Int} (h : IsRow kd W a len cap z) (k : Nat) :
    ∃ E : Env, RH E [(k, .ro 1 (z.take len).length (rowG (encK kd) (z.take len)))] W ∧ RV E (.sl k 0 1 (z.take len).length none) (.slice a len cap) := by
  have key := h.roK (E := fun id => if id = k then some (inE a cap) else none) (id := k) (by simp)
  refine ⟨_, RH.ros (fun id o ho => ?_) (fun id o ho => ?_), key.2⟩
  · obtain ⟨rfl, rfl⟩ := find_one ho; exact key.1
  · obtain ⟨rfl, rfl⟩ := find_one ho; rfl
theorem wf_row {W : World} {a : Option Addr} {len cap : Nat} {z : List Int} (h : IsRow .u64 W a len cap z) : Wf (z.take len) := by
  rcases h with ⟨rfl, rfl, rfl, rfl⟩ | ⟨x, rfl, hl, hm, hz, hcell, hwz⟩
  · intro x hx; cases hx
  · intro y hy
    have := hwz y (List.mem_of_mem_take hy)
    simp [Lit.wf, IntKind.min, IntKind.max, IntKind.signed, IntKind.bits] at this
    omega
theorem wf_u {n : Int} (h : (Lit.int .u64 n).wf = true) : 0 ≤ n ∧ n ≤ 18446744073709551615 := by
  simp [Lit.wf, IntKind.min, IntKind.max, IntKind.signed, IntKind.bits] at h
  omega
set_option maxRecDepth 20000 in
set_option maxHeartbeats 16000000 in
theorem seals_law (z : List Int) (k l c b : Int) (hw : Wf z) (hz : z.length ≤ 9223372036854775807) : CallOK Try.prog 5 [.sl 1 0 1 z.length none, I k, I l, I c, I b] [(1, .ro 1 z.length (rowG encU z))] (B true) [] := by
  have c7 := awake_any
  by_cases h20 : (z.length : Int) > 20
  · refine CallOK.intro Try.call5 Try.func5 rfl rfl ⟨rfl, fun _ => rfl, trivial⟩ ?_
    refine Safe.ends mixed Go.Proofs.Try.func5 13 [⟨1100, []⟩, ⟨1200, [(2, .tt true)]⟩, ⟨1300, []⟩, ⟨1400, []⟩, ⟨1500, [(0, .call [] (B (true)) [])]⟩] (r := B (true)) (hp := [(1, .ro ((1 : Nat)) (z.length) (rowG encU z))]) (ob := [decide ((↑z.length : Int) > (20 : Int)) = true, (0 : Int) ≤ (20 : Int) ∧ (20 : Int) ≤ (↑z.length : Int), CallOK Try.prog (17 : Nat) ([] ++ [] ++ []) [] (AV.val (Value.bool true)) []]) rfl (by kernel_rfl) ⟨(decide_eq_true h20), (by omega), c7, trivial⟩ rfl ⟨ObLe.refl _, trivial⟩ ⟨rfl, fun _ => rfl, trivial⟩ rfl
  · by_cases h16 : (z.length : Int) > 16
    · refine CallOK.intro Try.call5 Try.func5 rfl rfl ⟨rfl, fun _ => rfl, trivial⟩ ?_
      refine Safe.ends mixed Go.Proofs.Try.func5 13 [⟨1100, []⟩, ⟨1200, [(2, .tt false)]⟩, ⟨1300, [(2, .tt true)]⟩, ⟨1400, [(0, .call [] (B (true)) [])]⟩] (r := B (true)) (hp := [(1, .ro ((1 : Nat)) (z.length) (rowG encU z))]) (ob := [decide ((↑z.length : Int) > (20 : Int)) = false, decide ((↑z.length : Int) > (16 : Int)) = true, CallOK Try.prog (17 : Nat) ([] ++ [] ++ []) [] (AV.val (Value.bool true)) []]) rfl (by kernel_rfl) ⟨(decide_eq_false h20), (decide_eq_true h16), c7, trivial⟩ rfl ⟨ObLe.refl _, trivial⟩ ⟨rfl, fun _ => rfl, trivial⟩ rfl
    · have e1 := seal_any z hw (by omega)
      have e2 := rseal_any z hw (by omega)
      have e3 := header_any k l c b
      have e4 := rheader_any k l c b
      have e5 := sameU_true (sealF z) (sealF z) 16 (by omega) (fun _ _ => rfl)
      generalize hdrF k l c b = h at *
      have hh : h = h := rfl
      refine CallOK.intro Try.call5 Try.func5 rfl rfl ⟨rfl, fun _ => rfl, trivial⟩ ?_
      refine Safe.ends mixed Go.Proofs.Try.func5 14 [⟨1100, []⟩, ⟨1200, [(2, .tt false)]⟩, ⟨1300, [(2, .tt false)]⟩, ⟨1400, [(1, .call [1] (.sl ((1455 : Nat)) ((0 : Nat)) ((1 : Nat)) ((16 : Nat)) (none)) [(1455, some (.vec ((38 : Nat)) ((1 : Nat)) ((16 : Nat)) (fun q => renL [((0 : Nat), (1 : Nat)), ((10 : Nat), (1455 : Nat))] (rowG encU (sealF z) q))))]), (3, .call [1] (.sl ((1465 : Nat)) ((0 : Nat)) ((1 : Nat)) ((16 : Nat)) (none)) [(1465, some (.vec ((38 : Nat)) ((1 : Nat)) ((16 : Nat)) (fun q => renL [((0 : Nat), (1 : Nat)), ((10 : Nat), (1465 : Nat))] (rowG encU (sealF z) q))))]), (4, .call [1455, 1465] (B (true)) []), (10, .call [] (.val (Value.int IntKind.u64 h)) []), (15, .call [] (.val (Value.int IntKind.u64 h)) []), (16, .tt true), (19, .call [] (B (true)) [])]⟩] (r := B (true)) (hp := [(1, .ro ((1 : Nat)) (z.length) (rowG encU z))]) (ob := [decide ((↑z.length : Int) > (20 : Int)) = false, decide ((↑z.length : Int) > (16 : Int)) = false, CallOK Try.prog (28 : Nat) ([] ++ [AV.sl (1 : Nat) (0 : Nat) (1 : Nat) z.length none] ++ []) [((1 : Nat), Ob.ro (1 : Nat) z.length (rowG encU z))] (AV.sl (1455 : Nat) (0 : Nat) (1 : Nat) (16 : Nat) none) [((1455 : Nat), some (Ob.vec (38 : Nat) (1 : Nat) (16 : Nat) fun q => renL [((0 : Nat), (1 : Nat)), ((10 : Nat), (1455 : Nat))] (rowG encU (sealF z) q)))], CallOK Try.prog (21 : Nat) ([] ++ [AV.sl (1 : Nat) (0 : Nat) (1 : Nat) z.length none] ++ []) [((1 : Nat), Ob.ro (1 : Nat) z.length (rowG encU z))] (AV.sl (1465 : Nat) (0 : Nat) (1 : Nat) (16 : Nat) none) [((1465 : Nat), some (Ob.vec (38 : Nat) (1 : Nat) (16 : Nat) fun q => renL [((0 : Nat), (1 : Nat)), ((10 : Nat), (1465 : Nat))] (rowG encU (sealF z) q)))], CallOK Try.prog (16 : Nat) ([] ++ [AV.sl (1455 : Nat) (0 : Nat) (1 : Nat) (16 : Nat) none, AV.sl (1465 : Nat) (0 : Nat) (1 : Nat) (16 : Nat) none] ++ []) [((1455 : Nat), Ob.vec (38 : Nat) (1 : Nat) (16 : Nat) fun q => renL [((0 : Nat), (1 : Nat)), ((10 : Nat), (1455 : Nat))] (rowG encU (sealF z) q)), ((1465 : Nat), Ob.vec (38 : Nat) (1 : Nat) (16 : Nat) fun q => renL [((0 : Nat), (1 : Nat)), ((10 : Nat), (1465 : Nat))] (rowG encU (sealF z) q))] (AV.val (Value.bool true)) [], CallOK Try.prog (29 : Nat) ([] ++ [AV.val (Value.int IntKind.i64 k), AV.val (Value.int IntKind.i64 l), AV.val (Value.int IntKind.i64 c), AV.val (Value.int IntKind.i64 b)] ++ []) [] (AV.val (Value.int IntKind.u64 h)) [], CallOK Try.prog (30 : Nat) ([] ++ [AV.val (Value.int IntKind.i64 k), AV.val (Value.int IntKind.i64 l), AV.val (Value.int IntKind.i64 c), AV.val (Value.int IntKind.i64 b)] ++ []) [] (AV.val (Value.int IntKind.u64 h)) [], decide (h = h) = true, CallOK Try.prog (17 : Nat) ([] ++ [] ++ []) [] (AV.val (Value.bool true)) []]) rfl (by kernel_rfl) ⟨(decide_eq_false h20), (decide_eq_false h16), (CallOK.ren e1 [(0, 1), (10, 1455)] [0, 10] rfl rfl rfl rfl ⟨rfl, fun _ => rfl, trivial⟩ rfl ⟨rfl, fun _ => rfl, rfl, fun _ => rfl, trivial⟩), (CallOK.ren e2 [(0, 1), (10, 1465)] [0, 10] rfl rfl rfl rfl ⟨rfl, fun _ => rfl, trivial⟩ rfl ⟨rfl, fun _ => rfl, rfl, fun _ => rfl, trivial⟩), (CallOK.ren (CallOK.own 38 1 rfl rfl rfl (CallOK.own 38 0 rfl rfl rfl e5)) [(0, 1455), (1, 1465)] [0, 1] rfl rfl rfl rfl ⟨rfl, fun _ => rfl, rfl, fun _ => rfl, trivial⟩ rfl ⟨rfl, fun _ => rfl, rfl, fun _ => rfl, trivial⟩), e3, e4, (decide_eq_true hh), c7, trivial⟩ rfl ⟨ObLe.refl _, trivial⟩ ⟨rfl, fun _ => rfl, trivial⟩ rfl
end Go.Proofs.Ytonjaghkiaaipaa
