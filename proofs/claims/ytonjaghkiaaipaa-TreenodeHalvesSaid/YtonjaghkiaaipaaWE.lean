/- The nodes that the laws make; equal words. No conditions but those of each theorem. -/
import Derived.Test.YtonjaghkiaaipaaSyZ
import Derived.KernelRfl
import Derived.Test.YtonjaghkiaaipaaW0
import Derived.Test.YtonjaghkiaaipaaW4
namespace Go.Proofs.Ytonjaghkiaaipaa
open Go.RowKit
set_option linter.unusedVariables false
set_option linter.unnecessarySimpa false
set_option linter.unusedSimpArgs false
theorem pick_row (z : List Int) (m p : Nat) (Ls : List Int) (hm : m ≤ 1000) (hz : m ≤ z.length) (hp : p ≤ m) (hL : 1 ≤ Ls.length ∧ Ls.length ≤ 1000) : CallOK Try.prog 24 [.ptr 0 0 0 0, .sl 2 0 1 Ls.length none] [(0, .blk 65 [.sl 1 0 1 m none, I p]), (1, .ro 1 z.length (rowG encI z)), (2, .ro 1 Ls.length (rowsOf (Ls.map fun x => I x) 1))] (I (Ls.getD (nV z m p Ls.length).toNat default)) [(0, some (.blk 65 [.sl 1 0 1 m none, I (nA m p Ls.length)]))] := by
  refine (pick_any z m p Ls hm hz hp hL).sim fun id => ?_
  simp only [find]
  split
  · exact OSim.refl _
  · split
    · exact OSim.refl _
    · split
      · exact ob_lit (fun x => I x) Ls
      · exact OSim.refl _
structure NS where
  key : Int
  L : List En
  p : Nat
def pkA : List Int := [1, 1, 2, 5, 1000, 5592405]
def pkB : List Int := [0, -1, 16777215, 16777216]
def pkL : List Int := [0, 0, 1, 2, 8, 9, -1]
def pkS : List Int := [0, 1, 9, 16777215, 16777216, -1]
theorem pkA_bd (k : Nat) : 0 ≤ pkA.getD k default ∧ pkA.getD k default ≤ 5592405 := by
  match k with
  | 0 | 1 | 2 | 3 | 4 | 5 => decide
  | k + 6 => exact ⟨by simp [pkA], by simp [pkA]⟩
theorem pkB_bd (k : Nat) : -1 ≤ pkB.getD k default ∧ pkB.getD k default ≤ 16777216 := by
  match k with
  | 0 | 1 | 2 | 3 => decide
  | k + 4 => exact ⟨by simp [pkB], by simp [pkB]⟩
theorem pkL_bd (k : Nat) : -1 ≤ pkL.getD k default ∧ pkL.getD k default ≤ 9 := by
  match k with
  | 0 | 1 | 2 | 3 | 4 | 5 | 6 => decide
  | k + 7 => exact ⟨by simp [pkL], by simp [pkL]⟩
theorem pkS_bd (k : Nat) : -1 ≤ pkS.getD k default ∧ pkS.getD k default ≤ 16777216 := by
  match k with
  | 0 | 1 | 2 | 3 | 4 | 5 => decide
  | k + 6 => exact ⟨by simp [pkS], by simp [pkS]⟩
abbrev p1S (m : Nat) (t : NS) : Nat := rawA m t.p
abbrev p2S (m : Nat) (t : NS) : Nat := nA m (p1S m t) 6
abbrev p3S (m : Nat) (t : NS) : Nat := nA m (p2S m t) 25
def nstep (z : List Int) (m : Nat) (t : NS) : NS :=
  if nV z m (p2S m t) 25 = 0 then ⟨pkB.getD (nV z m (p3S m t) 4).toNat default, t.L ++ [(t.key, IntKind.u64.wrap (rawV z m t.p))], nA m (p3S m t) 4⟩
  else ⟨t.key + pkA.getD (nV z m (p1S m t) 6).toNat default, t.L ++ [(t.key, IntKind.u64.wrap (rawV z m t.p))], p3S m t⟩
def nst (z : List Int) (m : Nat) (t : NS) : Nat → NS
  | 0 => t
  | k + 1 => nstep z m (nst z m t k)
theorem rawA_bd (m p : Nat) (h : p ≤ m) : rawA m p ≤ m := by unfold rawA; split <;> omega
theorem nst_ok (z : List Int) (m : Nat) (t : NS) (h0 : t.p ≤ m) (h1 : -1 ≤ t.key ∧ t.key ≤ 16777216) (h2 : t.L = []) : ∀ k, (nst z m t k).L.length = k ∧ (nst z m t k).p ≤ m ∧ -1 ≤ (nst z m t k).key ∧ (nst z m t k).key ≤ 16777216 + 5592405 * (k : Int) ∧ (k ≤ 9 → KeyBd (nst z m t k).L)
  | 0 => ⟨by show t.L.length = 0; rw [h2]; rfl, h0, h1.1, by show t.key ≤ _; omega, fun _ x hx => by rw [show (nst z m t 0).L = [] from h2] at hx; cases hx⟩
  | k + 1 => by
    obtain ⟨g1, g2, g3, g4, g5⟩ := nst_ok z m t h0 h1 h2 k
    show (nstep z m (nst z m t k)).L.length = k + 1 ∧ _
    change _ ∧ (nstep z m (nst z m t k)).p ≤ m ∧ -1 ≤ (nstep z m (nst z m t k)).key ∧ (nstep z m (nst z m t k)).key ≤ _ ∧ (_ → KeyBd (nstep z m (nst z m t k)).L)
    generalize nst z m t k = u at *
    have a1 := rawA_bd m u.p g2
    have a2 := (nA_bd m (p1S m u) 6 a1).2
    have a3 := (nA_bd m (p2S m u) 25 a2).2
    have a4 := (nA_bd m (p3S m u) 4 a3).2
    have b1 := pkA_bd (nV z m (p1S m u) 6).toNat
    have b2 := pkB_bd (nV z m (p3S m u) 4).toNat
    have hK : k + 1 ≤ 9 → KeyBd (u.L ++ [(u.key, IntKind.u64.wrap (rawV z m u.p))]) := fun hk x hx => by
      rcases List.mem_append.1 hx with h | h
      · exact g5 (by omega) x h
      · simp only [List.mem_cons, List.not_mem_nil, or_false] at h
        subst h
        have := wrap_bd (rawV z m u.p)
        exact ⟨by show -1000000000000 ≤ u.key; omega, by show u.key ≤ 1000000000000; omega, this.1, this.2⟩
    unfold nstep
    split
    · exact ⟨by simp [g1], a4, b2.1, Int.le_trans b2.2 (by omega), hK⟩
    · exact ⟨by simp [g1], a3, by show -1 ≤ u.key + _; omega, by show u.key + _ ≤ _; omega, hK⟩
/-- what 'node' leads to -/
def NodeC (z : List Int) (m p : Nat) (l s : Int) (L : List En) (q : Nat) : Prop := CallOK Try.prog 10 [.ptr 0 0 0 0] [(0, .blk 65 [.sl 1 0 1 m none, I p]), (1, .ro 1 z.length (rowG encI z))] (.agg [I l, I s, .sl 10 0 2 L.length none]) [(0, some (.blk 65 [.sl 1 0 1 m none, I q])), (10, some (.vec 52 2 L.length (rowG encE L)))]
set_option maxRecDepth 20000 in
set_option maxHeartbeats 16000000 in
theorem node_loop (z : List Int) (m p : Nat) (l s : Int) (t : NS) (n : Nat) (hm : m ≤ 1000) (hz : m ≤ z.length) (hn : n ≤ 9) (ht : t.p ≤ m) (hk : -1 ≤ t.key ∧ t.key ≤ 16777216) (hL : t.L = []) : ∀ k, k ≤ n → Safe Try.prog 10 [(0, .blk 65 [.sl 1 0 1 m none, I p]), (1, .ro 1 z.length (rowG encI z))] (.agg [I l, I s, .sl 10 0 2 (nst z m t n).L.length none]) [(0, some (.blk 65 [.sl 1 0 1 m none, I (nst z m t n).p])), (10, some (.vec 52 2 (nst z m t n).L.length (rowG encE (nst z m t n).L)))] (loopAt Try.f10 0)
      ⟨slotsOf 52 [(0, .ptr 0 0 0 0), (2, .ptr 20 0 0 0), (3, .ptr 21 0 0 0), (4, I (nst z m t k).key), (5, I ((n : Int) - k))], [(0, .blk 65 [.sl 1 0 1 m none, I (nst z m t k).p]), (1, .ro 1 z.length (rowG encI z)), (20, .blk 27 [I 0, I 0, .val (.slice none 0 0)]), (21, .blk 27 [I l, I s, .sl 22 0 2 (nst z m t k).L.length none]), (22, .vec 52 2 (nst z m t k).L.length (rowG encE (nst z m t k).L))]⟩ [0, 1, 20, 21, 22] := by
  refine Safe.loop (fun k => n - k) (fun k : Nat => ⟨slotsOf 52 [(0, .ptr 0 0 0 0), (2, .ptr 20 0 0 0), (3, .ptr 21 0 0 0), (4, I (nst z m t k).key), (5, I ((n : Int) - k))], [(0, .blk 65 [.sl 1 0 1 m none, I (nst z m t k).p]), (1, .ro 1 z.length (rowG encI z)), (20, .blk 27 [I 0, I 0, .val (.slice none 0 0)]), (21, .blk 27 [I l, I s, .sl 22 0 2 (nst z m t k).L.length none]), (22, .vec 52 2 (nst z m t k).L.length (rowG encE (nst z m t k).L))]⟩) (fun k => k ≤ n) ?_
  intro k hkn ih
  obtain ⟨g1, g2, g3, g4, g5⟩ := nst_ok z m t ht hk hL k
  have hst : nst z m t (k + 1) = nstep z m (nst z m t k) := rfl
  have ih1 := fun h : k + 1 ≤ n => ih (k + 1) h (by omega)
  rw [hst] at ih1
  by_cases hend : ((n : Int) - (k : Int)) > 0
  · have ih2 := ih1 (by omega)
    clear ih ih1
    generalize nst z m t n = e at *
    generalize nst z m t k = u at *
    have a1 := rawA_bd m u.p g2
    have a2 := (nA_bd m (p1S m u) 6 a1).2
    have a3 := (nA_bd m (p2S m u) 25 a2).2
    have a4 := (nA_bd m (p3S m u) 4 a3).2
    have b1 := pkA_bd (nV z m (p1S m u) 6).toNat
    have r1 := raw1_any z m u.p hm hz g2
    have r2 : CallOK Try.prog 24 [.ptr 0 0 0 0, .sl 2 0 1 6 none] [(0, .blk 65 [.sl 1 0 1 m none, I (p1S m u)]), (1, .ro 1 z.length (rowG encI z)), (2, .ro 1 6 (rowsOf [I 1, I 1, I 2, I 5, I 1000, I 5592405] 1))] (I (pkA.getD (nV z m (p1S m u) 6).toNat default)) [(0, some (.blk 65 [.sl 1 0 1 m none, I (nA m (p1S m u) 6)]))] := pick_row z m (p1S m u) pkA hm hz a1 (by decide)
    have r3 := n_any z m (p2S m u) 25 hm hz a2 (by omega)
    have r4 : CallOK Try.prog 24 [.ptr 0 0 0 0, .sl 2 0 1 4 none] [(0, .blk 65 [.sl 1 0 1 m none, I (p3S m u)]), (1, .ro 1 z.length (rowG encI z)), (2, .ro 1 4 (rowsOf [I 0, I (-1), I 16777215, I 16777216] 1))] (I (pkB.getD (nV z m (p3S m u) 4).toNat default)) [(0, some (.blk 65 [.sl 1 0 1 m none, I (nA m (p3S m u) 4)]))] := pick_row z m (p3S m u) pkB hm hz a3 (by decide)
    unfold nstep at ih2
    rw [show (n : Int) - ((k + 1 : Nat) : Int) = (n : Int) - k - 1 by omega] at ih2
    obtain ⟨q1, hq1⟩ : ∃ x, rawA m u.p = x := ⟨_, rfl⟩
    obtain ⟨v, hv⟩ : ∃ x, rawV z m u.p = x := ⟨_, rfl⟩
    change _ = _ at hq1
    obtain ⟨q2, hq2⟩ : ∃ x, nA m (rawA m u.p) 6 = x := ⟨_, rfl⟩
    obtain ⟨q3, hq3⟩ : ∃ x, nA m (nA m (rawA m u.p) 6) 25 = x := ⟨_, rfl⟩
    obtain ⟨b, hb⟩ : ∃ x, nV z m (nA m (rawA m u.p) 6) 25 = x := ⟨_, rfl⟩
    obtain ⟨d, hd⟩ : ∃ x, pkA.getD (nV z m (rawA m u.p) 6).toNat default = x := ⟨_, rfl⟩
    obtain ⟨q4, hq4⟩ : ∃ x, nA m (nA m (nA m (rawA m u.p) 6) 25) 4 = x := ⟨_, rfl⟩
    obtain ⟨f, hf⟩ : ∃ x, pkB.getD (nV z m (nA m (nA m (rawA m u.p) 6) 25) 4).toNat default = x := ⟨_, rfl⟩
    simp only [p1S, p2S, p3S] at r2 r3 r4 ih2 b1
    rw [hq4, hf] at r4
    rw [hb, hq3] at r3
    rw [hd, hq2] at r2
    rw [hd] at b1
    rw [hb, hd, hf, hq4, hq3, hv] at ih2
    rw [hq3] at r4
    rw [hq2] at r3
    rw [hq1] at r2 r1
    rw [hv] at r1
    have hlen : u.L.length ≤ 9 := by omega
    by_cases hb0 : b = 0
    · rw [if_pos hb0] at ih2
      refine Safe.goto mixed 18 [⟨1100, [(1, .tt true)]⟩, ⟨1200, [(4, .call [0, 1] (I (v)) [(0, some (.blk ((65 : Nat)) [.sl ((1 : Nat)) ((0 : Nat)) ((1 : Nat)) (m) (none), I ((↑q1 : Int))]))]), (5, .wrap)]⟩, ⟨1300, [(3, .call [0, 1, 1302] (I (d)) [(0, some (.blk ((65 : Nat)) [.sl ((1 : Nat)) ((0 : Nat)) ((1 : Nat)) (m) (none), I ((↑q2 : Int))]))])]⟩, ⟨1400, [(1, .call [0, 1] (I (b)) [(0, some (.blk ((65 : Nat)) [.sl ((1 : Nat)) ((0 : Nat)) ((1 : Nat)) (m) (none), I ((↑q3 : Int))]))]), (2, .tt true)]⟩, ⟨1500, [(2, .call [0, 1, 1501] (I (f)) [(0, some (.blk ((65 : Nat)) [.sl ((1 : Nat)) ((0 : Nat)) ((1 : Nat)) (m) (none), I ((↑q4 : Int))]))])]⟩, ⟨1600, []⟩] [0, 2, 3, 4, 5] [0, 1, 20, 21, 1208] (todo' := loopAt Go.Proofs.Try.f10 0) (sl := slotsOf 52 [(0, .ptr ((0 : Nat)) ((0 : Nat)) ((0 : Nat)) ((0 : Nat))), (2, .ptr ((20 : Nat)) ((0 : Nat)) ((0 : Nat)) ((0 : Nat))), (3, .ptr ((21 : Nat)) ((0 : Nat)) ((0 : Nat)) ((0 : Nat))), (4, I (f)), (5, I ((↑n : Int) - (↑k : Int) - (1 : Int)))]) (hp := [(0, .blk ((65 : Nat)) [.sl ((1 : Nat)) ((0 : Nat)) ((1 : Nat)) (m) (none), I ((↑q4 : Int))]), (1, .ro ((1 : Nat)) (z.length) (rowG encI z)), (20, .blk ((27 : Nat)) [I ((0 : Int)), I ((0 : Int)), .val (Value.slice none (0 : Nat) (0 : Nat))]), (21, .blk ((27 : Nat)) [I (l), I (s), .sl ((1208 : Nat)) ((0 : Nat)) ((2 : Nat)) (addN u.L.length (1 : Nat)) (none)]), (1208, .vec ((52 : Nat)) ((2 : Nat)) (addN u.L.length (1 : Nat)) (catR u.L.length (rowG encE u.L) (rowsOf [AV.val (Value.int IntKind.i64 u.key), AV.val (Value.int IntKind.u64 (IntKind.u64.wrap v))] (2 : Nat))))]) (ob := [decide ((↑n : Int) - (↑k : Int) > (0 : Int)) = true, CallOK Try.prog (20 : Nat) ([] ++ [AV.ptr (0 : Nat) (0 : Nat) (0 : Nat) (0 : Nat)] ++ []) [((0 : Nat), Ob.blk (65 : Nat) [AV.sl (1 : Nat) (0 : Nat) (1 : Nat) m none, AV.val (Value.int IntKind.i64 (↑u.p : Int))]), ((1 : Nat), Ob.ro (1 : Nat) z.length (rowG encI z))] (AV.val (Value.int IntKind.i64 v)) [((0 : Nat), some (Ob.blk (65 : Nat) [AV.sl (1 : Nat) (0 : Nat) (1 : Nat) m none, AV.val (Value.int IntKind.i64 (↑q1 : Int))]))], (0 : Nat) + (1 : Nat) ≤ (1 : Nat), u.L.length = u.L.length, u.L.length + (1 : Nat) ≤ (1099511627776 : Nat), CallOK Try.prog (24 : Nat) ([] ++ [AV.ptr (0 : Nat) (0 : Nat) (0 : Nat) (0 : Nat), AV.sl (1302 : Nat) (0 : Nat) (1 : Nat) (6 : Nat) none] ++ []) [((0 : Nat), Ob.blk (65 : Nat) [AV.sl (1 : Nat) (0 : Nat) (1 : Nat) m none, AV.val (Value.int IntKind.i64 (↑q1 : Int))]), ((1 : Nat), Ob.ro (1 : Nat) z.length (rowG encI z)), ((1302 : Nat), Ob.vec (3 : Nat) (1 : Nat) (6 : Nat) (rowsOf [AV.val (Value.int IntKind.i64 (1 : Int)), AV.val (Value.int IntKind.i64 (1 : Int)), AV.val (Value.int IntKind.i64 (2 : Int)), AV.val (Value.int IntKind.i64 (5 : Int)), AV.val (Value.int IntKind.i64 (1000 : Int)), AV.val (Value.int IntKind.i64 (5592405 : Int))] (1 : Nat)))] (AV.val (Value.int IntKind.i64 d)) [((0 : Nat), some (Ob.blk (65 : Nat) [AV.sl (1 : Nat) (0 : Nat) (1 : Nat) m none, AV.val (Value.int IntKind.i64 (↑q2 : Int))]))], inK IntKind.i64 (u.key + d), CallOK Try.prog (11 : Nat) ([] ++ [AV.ptr (0 : Nat) (0 : Nat) (0 : Nat) (0 : Nat), ofV (Value.int IntKind.i64 (25 : Int))] ++ []) [((0 : Nat), Ob.blk (65 : Nat) [AV.sl (1 : Nat) (0 : Nat) (1 : Nat) m none, AV.val (Value.int IntKind.i64 (↑q2 : Int))]), ((1 : Nat), Ob.ro (1 : Nat) z.length (rowG encI z))] (AV.val (Value.int IntKind.i64 b)) [((0 : Nat), some (Ob.blk (65 : Nat) [AV.sl (1 : Nat) (0 : Nat) (1 : Nat) m none, AV.val (Value.int IntKind.i64 (↑q3 : Int))]))], decide (b = (0 : Int)) = true, CallOK Try.prog (24 : Nat) ([] ++ [AV.ptr (0 : Nat) (0 : Nat) (0 : Nat) (0 : Nat), AV.sl (1501 : Nat) (0 : Nat) (1 : Nat) (4 : Nat) none] ++ []) [((0 : Nat), Ob.blk (65 : Nat) [AV.sl (1 : Nat) (0 : Nat) (1 : Nat) m none, AV.val (Value.int IntKind.i64 (↑q3 : Int))]), ((1 : Nat), Ob.ro (1 : Nat) z.length (rowG encI z)), ((1501 : Nat), Ob.vec (3 : Nat) (1 : Nat) (4 : Nat) (rowsOf [AV.val (Value.int IntKind.i64 (0 : Int)), AV.val (Value.int IntKind.i64 (-1 : Int)), AV.val (Value.int IntKind.i64 (16777215 : Int)), AV.val (Value.int IntKind.i64 (16777216 : Int))] (1 : Nat)))] (AV.val (Value.int IntKind.i64 f)) [((0 : Nat), some (Ob.blk (65 : Nat) [AV.sl (1 : Nat) (0 : Nat) (1 : Nat) m none, AV.val (Value.int IntKind.i64 (↑q4 : Int))]))], inK IntKind.i64 ((↑n : Int) - (↑k : Int) - (1 : Int))]) rfl rfl (by kernel_rfl) ⟨(decide_eq_true hend), r1, (by omega), (by omega), (by omega), (CallOK.simR (CallOK.ren (CallOK.own 3 2 rfl rfl rfl r2) [(0, 0), (2, 1302), (1, 1)] [0, 2, 1] rfl rfl rfl rfl ⟨rfl, rfl, rfl, fun _ => rfl, rfl, closed_rows rfl, trivial⟩ rfl ⟨rfl, rfl, rfl, fun _ => rfl, rfl, closed_rows rfl, trivial⟩) (HpSim.cons rfl (OSim.refl _) (HpSim.cons rfl (OSim.refl _) (HpSim.cons rfl (OSim.rowsV rfl) HpSim.nil)))), (by simp only [inK]; omega), r3, (decide_eq_true hb0), (CallOK.simR (CallOK.ren (CallOK.own 3 2 rfl rfl rfl r4) [(0, 0), (2, 1501), (1, 1)] [0, 2, 1] rfl rfl rfl rfl ⟨rfl, rfl, rfl, fun _ => rfl, rfl, closed_rows rfl, trivial⟩ rfl ⟨rfl, rfl, rfl, fun _ => rfl, rfl, closed_rows rfl, trivial⟩) (HpSim.cons rfl (OSim.refl _) (HpSim.cons rfl (OSim.refl _) (HpSim.cons rfl (OSim.rowsV rfl) HpSim.nil)))), (by simp only [inK]; omega), trivial⟩ rfl ⟨rfl, rfl, rfl, fun _ => rfl, rfl, rfl, rfl, rfl, rfl, closed_cat (fun _ => rfl) (closed_rows rfl), trivial⟩ ?_
      refine Safe.ren [(1208, 22)] rfl rfl rfl rfl ⟨rfl, rfl, rfl, fun _ => rfl, rfl, rfl, rfl, rfl, rfl, closed_cat (fun _ => rfl) (closed_rows rfl), trivial⟩ ?_
      have e1 : addN u.L.length 1 = (u.L ++ [(u.key, IntKind.u64.wrap v)]).length := by rw [addN_eq]; simp
      rw [e1]
      exact Safe.leH ih2 rfl (SlLe.refl _) ⟨ObLe.refl _, ObLe.refl _, ObLe.refl _, ObLe.refl _, ob_ren_one encE _ _ _ (by simp) (fun _ => rfl) rfl, trivial⟩ rfl ⟨rfl, rfl, rfl, fun _ => rfl, rfl, rfl, rfl, rfl, rfl, fun _ => rfl, trivial⟩
    · rw [if_neg hb0] at ih2
      refine Safe.goto mixed 18 [⟨1100, [(1, .tt true)]⟩, ⟨1200, [(4, .call [0, 1] (I (v)) [(0, some (.blk ((65 : Nat)) [.sl ((1 : Nat)) ((0 : Nat)) ((1 : Nat)) (m) (none), I ((↑q1 : Int))]))]), (5, .wrap)]⟩, ⟨1300, [(3, .call [0, 1, 1302] (I (d)) [(0, some (.blk ((65 : Nat)) [.sl ((1 : Nat)) ((0 : Nat)) ((1 : Nat)) (m) (none), I ((↑q2 : Int))]))])]⟩, ⟨1400, [(1, .call [0, 1] (I (b)) [(0, some (.blk ((65 : Nat)) [.sl ((1 : Nat)) ((0 : Nat)) ((1 : Nat)) (m) (none), I ((↑q3 : Int))]))]), (2, .tt false)]⟩, ⟨1500, []⟩] [0, 2, 3, 4, 5] [0, 1, 20, 21, 1208] (todo' := loopAt Go.Proofs.Try.f10 0) (sl := slotsOf 52 [(0, .ptr ((0 : Nat)) ((0 : Nat)) ((0 : Nat)) ((0 : Nat))), (2, .ptr ((20 : Nat)) ((0 : Nat)) ((0 : Nat)) ((0 : Nat))), (3, .ptr ((21 : Nat)) ((0 : Nat)) ((0 : Nat)) ((0 : Nat))), (4, I (u.key + d)), (5, I ((↑n : Int) - (↑k : Int) - (1 : Int)))]) (hp := [(0, .blk ((65 : Nat)) [.sl ((1 : Nat)) ((0 : Nat)) ((1 : Nat)) (m) (none), I ((↑q3 : Int))]), (1, .ro ((1 : Nat)) (z.length) (rowG encI z)), (20, .blk ((27 : Nat)) [I ((0 : Int)), I ((0 : Int)), .val (Value.slice none (0 : Nat) (0 : Nat))]), (21, .blk ((27 : Nat)) [I (l), I (s), .sl ((1208 : Nat)) ((0 : Nat)) ((2 : Nat)) (addN u.L.length (1 : Nat)) (none)]), (1208, .vec ((52 : Nat)) ((2 : Nat)) (addN u.L.length (1 : Nat)) (catR u.L.length (rowG encE u.L) (rowsOf [AV.val (Value.int IntKind.i64 u.key), AV.val (Value.int IntKind.u64 (IntKind.u64.wrap v))] (2 : Nat))))]) (ob := [decide ((↑n : Int) - (↑k : Int) > (0 : Int)) = true, CallOK Try.prog (20 : Nat) ([] ++ [AV.ptr (0 : Nat) (0 : Nat) (0 : Nat) (0 : Nat)] ++ []) [((0 : Nat), Ob.blk (65 : Nat) [AV.sl (1 : Nat) (0 : Nat) (1 : Nat) m none, AV.val (Value.int IntKind.i64 (↑u.p : Int))]), ((1 : Nat), Ob.ro (1 : Nat) z.length (rowG encI z))] (AV.val (Value.int IntKind.i64 v)) [((0 : Nat), some (Ob.blk (65 : Nat) [AV.sl (1 : Nat) (0 : Nat) (1 : Nat) m none, AV.val (Value.int IntKind.i64 (↑q1 : Int))]))], (0 : Nat) + (1 : Nat) ≤ (1 : Nat), u.L.length = u.L.length, u.L.length + (1 : Nat) ≤ (1099511627776 : Nat), CallOK Try.prog (24 : Nat) ([] ++ [AV.ptr (0 : Nat) (0 : Nat) (0 : Nat) (0 : Nat), AV.sl (1302 : Nat) (0 : Nat) (1 : Nat) (6 : Nat) none] ++ []) [((0 : Nat), Ob.blk (65 : Nat) [AV.sl (1 : Nat) (0 : Nat) (1 : Nat) m none, AV.val (Value.int IntKind.i64 (↑q1 : Int))]), ((1 : Nat), Ob.ro (1 : Nat) z.length (rowG encI z)), ((1302 : Nat), Ob.vec (3 : Nat) (1 : Nat) (6 : Nat) (rowsOf [AV.val (Value.int IntKind.i64 (1 : Int)), AV.val (Value.int IntKind.i64 (1 : Int)), AV.val (Value.int IntKind.i64 (2 : Int)), AV.val (Value.int IntKind.i64 (5 : Int)), AV.val (Value.int IntKind.i64 (1000 : Int)), AV.val (Value.int IntKind.i64 (5592405 : Int))] (1 : Nat)))] (AV.val (Value.int IntKind.i64 d)) [((0 : Nat), some (Ob.blk (65 : Nat) [AV.sl (1 : Nat) (0 : Nat) (1 : Nat) m none, AV.val (Value.int IntKind.i64 (↑q2 : Int))]))], inK IntKind.i64 (u.key + d), CallOK Try.prog (11 : Nat) ([] ++ [AV.ptr (0 : Nat) (0 : Nat) (0 : Nat) (0 : Nat), ofV (Value.int IntKind.i64 (25 : Int))] ++ []) [((0 : Nat), Ob.blk (65 : Nat) [AV.sl (1 : Nat) (0 : Nat) (1 : Nat) m none, AV.val (Value.int IntKind.i64 (↑q2 : Int))]), ((1 : Nat), Ob.ro (1 : Nat) z.length (rowG encI z))] (AV.val (Value.int IntKind.i64 b)) [((0 : Nat), some (Ob.blk (65 : Nat) [AV.sl (1 : Nat) (0 : Nat) (1 : Nat) m none, AV.val (Value.int IntKind.i64 (↑q3 : Int))]))], decide (b = (0 : Int)) = false, inK IntKind.i64 ((↑n : Int) - (↑k : Int) - (1 : Int))]) rfl rfl (by kernel_rfl) ⟨(decide_eq_true hend), r1, (by omega), (by omega), (by omega), (CallOK.simR (CallOK.ren (CallOK.own 3 2 rfl rfl rfl r2) [(0, 0), (2, 1302), (1, 1)] [0, 2, 1] rfl rfl rfl rfl ⟨rfl, rfl, rfl, fun _ => rfl, rfl, closed_rows rfl, trivial⟩ rfl ⟨rfl, rfl, rfl, fun _ => rfl, rfl, closed_rows rfl, trivial⟩) (HpSim.cons rfl (OSim.refl _) (HpSim.cons rfl (OSim.refl _) (HpSim.cons rfl (OSim.rowsV rfl) HpSim.nil)))), (by simp only [inK]; omega), r3, (decide_eq_false hb0), (by simp only [inK]; omega), trivial⟩ rfl ⟨rfl, rfl, rfl, fun _ => rfl, rfl, rfl, rfl, rfl, rfl, closed_cat (fun _ => rfl) (closed_rows rfl), trivial⟩ ?_
      refine Safe.ren [(1208, 22)] rfl rfl rfl rfl ⟨rfl, rfl, rfl, fun _ => rfl, rfl, rfl, rfl, rfl, rfl, closed_cat (fun _ => rfl) (closed_rows rfl), trivial⟩ ?_
      have e1 : addN u.L.length 1 = (u.L ++ [(u.key, IntKind.u64.wrap v)]).length := by rw [addN_eq]; simp
      rw [e1]
      exact Safe.leH ih2 rfl (SlLe.refl _) ⟨ObLe.refl _, ObLe.refl _, ObLe.refl _, ObLe.refl _, ob_ren_one encE _ _ _ (by simp) (fun _ => rfl) rfl, trivial⟩ rfl ⟨rfl, rfl, rfl, fun _ => rfl, rfl, rfl, rfl, rfl, rfl, fun _ => rfl, trivial⟩
  · obtain rfl : k = n := by omega
    refine Safe.gotoE mixed 7 [⟨1100, [(1, .tt false)]⟩, ⟨1200, []⟩] [2] [0, 1, 22, 20] (sl := slotsOf 52 [(2, .ptr ((20 : Nat)) ((0 : Nat)) ((0 : Nat)) ((0 : Nat)))]) (hp := [(0, .blk ((65 : Nat)) [.sl ((1 : Nat)) ((0 : Nat)) ((1 : Nat)) (m) (none), I ((↑(nst z m t k).p : Int))]), (1, .ro ((1 : Nat)) (z.length) (rowG encI z)), (22, .vec ((52 : Nat)) ((2 : Nat)) ((nst z m t k).L.length) (rowG encE (nst z m t k).L)), (20, .blk ((27 : Nat)) [I (l), I (s), .sl ((22 : Nat)) ((0 : Nat)) ((2 : Nat)) ((nst z m t k).L.length) (none)])]) (ob := [decide ((↑k : Int) - (↑k : Int) > (0 : Int)) = false]) rfl rfl (by kernel_rfl) ⟨(decide_eq_false hend), trivial⟩ rfl ⟨rfl, rfl, rfl, fun _ => rfl, rfl, fun _ => rfl, rfl, rfl, trivial⟩ fun td htd => ?_
    refine Safe.ren [(22, 10)] rfl rfl rfl rfl ⟨rfl, rfl, rfl, fun _ => rfl, rfl, fun _ => rfl, rfl, rfl, trivial⟩ ?_
    refine Safe.endsT Go.Proofs.Try.func10 htd (r := .agg [I (l), I (s), .sl ((10 : Nat)) ((0 : Nat)) ((2 : Nat)) ((nst z m t k).L.length) (none)]) (hp := [(0, .blk ((65 : Nat)) [.sl ((1 : Nat)) ((0 : Nat)) ((1 : Nat)) (m) (none), I ((↑(nst z m t k).p : Int))]), (1, .ro ((1 : Nat)) (z.length) (fun q => renL [((22 : Nat), (10 : Nat))] (rowG encI z q))), (10, .vec ((52 : Nat)) ((2 : Nat)) ((nst z m t k).L.length) (fun q => renL [((22 : Nat), (10 : Nat))] (rowG encE (nst z m t k).L q)))]) (ob := []) rfl (by kernel_rfl) trivial rfl ⟨ObLe.refl _, ⟨rfl, rfl, fun _ _ => rfl⟩, ⟨rfl, rfl, rfl, fun _ _ => rfl⟩, trivial⟩ ⟨rfl, rfl, rfl, fun _ => rfl, rfl, fun _ => rfl, trivial⟩ rfl
    all_goals skip
set_option maxRecDepth 20000 in
set_option maxHeartbeats 16000000 in
theorem node_ex (z : List Int) (m p : Nat) (hm : m ≤ 1000) (hz : m ≤ z.length) (hp : p ≤ m) : ∃ l s L q, L.length ≤ 9 ∧ KeyBd L ∧ q ≤ m ∧ NodeC z m p l s L q := by
  have c1 : CallOK Try.prog 24 [.ptr 0 0 0 0, .sl 2 0 1 7 none] [(0, .blk 65 [.sl 1 0 1 m none, I p]), (1, .ro 1 z.length (rowG encI z)), (2, .ro 1 7 (rowsOf [I 0, I 0, I 1, I 2, I 8, I 9, I (-1)] 1))] (I (pkL.getD (nV z m p 7).toNat default)) [(0, some (.blk 65 [.sl 1 0 1 m none, I (nA m p 7)]))] := pick_row z m p pkL hm hz hp (by decide)
  obtain ⟨q1, hq1⟩ : ∃ k, nA m p 7 = k := ⟨_, rfl⟩
  have l1 : q1 ≤ m := hq1 ▸ (nA_bd m p 7 hp).2
  obtain ⟨a1, ha1⟩ : ∃ k, pkL.getD (nV z m p 7).toNat default = k := ⟨_, rfl⟩
  rw [hq1, ha1] at c1
  have c2 : CallOK Try.prog 24 [.ptr 0 0 0 0, .sl 2 0 1 6 none] [(0, .blk 65 [.sl 1 0 1 m none, I q1]), (1, .ro 1 z.length (rowG encI z)), (2, .ro 1 6 (rowsOf [I 0, I 1, I 9, I 16777215, I 16777216, I (-1)] 1))] (I (pkS.getD (nV z m q1 6).toNat default)) [(0, some (.blk 65 [.sl 1 0 1 m none, I (nA m q1 6)]))] := pick_row z m q1 pkS hm hz l1 (by decide)
  obtain ⟨q2, hq2⟩ : ∃ k, nA m q1 6 = k := ⟨_, rfl⟩
  have l2 : q2 ≤ m := hq2 ▸ (nA_bd m q1 6 l1).2
  obtain ⟨a2, ha2⟩ : ∃ k, pkS.getD (nV z m q1 6).toNat default = k := ⟨_, rfl⟩
  rw [hq2, ha2] at c2
  have c3 := n_any z m q2 4 hm hz l2 (by omega)
  have b3 := nV_bd z m q2 4 (by omega)
  obtain ⟨q3, hq3⟩ : ∃ k, nA m q2 4 = k := ⟨_, rfl⟩
  have l3 : q3 ≤ m := hq3 ▸ (nA_bd m q2 4 l2).2
  obtain ⟨a3, ha3⟩ : ∃ k, nV z m q2 4 = k := ⟨_, rfl⟩
  rw [hq3, ha3] at c3
  have fin : ∀ (q l s : _) (hq : q ≤ m), (∀ (t : NS) (n : Nat), t.p ≤ m → n ≤ 9 → -1 ≤ t.key ∧ t.key ≤ 16777216 → t.L = [] → t.key = nV z m q 3 → t.p = nA m (nA m q 3) 10 → (n : Int) = nV z m (nA m q 3) 10 → NodeC z m p l s (nst z m t n).L (nst z m t n).p) → ∃ l s L q, L.length ≤ 9 ∧ KeyBd L ∧ q ≤ m ∧ NodeC z m p l s L q := fun q l s hq h => by
    have k1 := (nA_bd m q 3 hq).2
    have k2 := (nA_bd m (nA m q 3) 10 k1).2
    have k3 := nV_bd z m q 3 (by omega)
    have k4 := nV_bd z m (nA m q 3) 10 (by omega)
    obtain ⟨n, hn⟩ : ∃ n : Nat, (n : Int) = nV z m (nA m q 3) 10 := ⟨(nV z m (nA m q 3) 10).toNat, by omega⟩
    have hh := h ⟨nV z m q 3, [], nA m (nA m q 3) 10⟩ n k2 (by omega) ⟨by show -1 ≤ nV z m q 3; omega, by show nV z m q 3 ≤ _; omega⟩ rfl rfl rfl hn
    obtain ⟨g1, g2, g3, g4, g5⟩ := nst_ok z m ⟨nV z m q 3, [], nA m (nA m q 3) 10⟩ k2 ⟨by show -1 ≤ nV z m q 3; omega, by show nV z m q 3 ≤ _; omega⟩ rfl n
    exact ⟨l, s, _, _, by omega, g5 (by omega), g2, hh⟩
  by_cases h3 : a3 > 0
  · have c4 := n_any z m q3 3 hm hz l3 (by omega)
    obtain ⟨q4, hq4⟩ : ∃ k, nA m q3 3 = k := ⟨_, rfl⟩
    have l4 : q4 ≤ m := hq4 ▸ (nA_bd m q3 3 l3).2
    obtain ⟨a4, ha4⟩ : ∃ k, nV z m q3 3 = k := ⟨_, rfl⟩
    rw [hq4, ha4] at c4
    have c5 := n_any z m q4 50 hm hz l4 (by omega)
    obtain ⟨q5, hq5⟩ : ∃ k, nA m q4 50 = k := ⟨_, rfl⟩
    have l5 : q5 ≤ m := hq5 ▸ (nA_bd m q4 50 l4).2
    obtain ⟨a5, ha5⟩ : ∃ k, nV z m q4 50 = k := ⟨_, rfl⟩
    rw [hq5, ha5] at c5
    refine fin q5 a4 a5 l5 fun t n ht hn hk hL e1 e2 e3 => ?_
    have lo := node_loop z m p a4 a5 t n hm hz hn ht hk hL 0 (Nat.zero_le _)
    have c6 := n_any z m q5 3 hm hz l5 (by omega)
    have c7 := n_any z m (nA m q5 3) 10 hm hz (nA_bd m q5 3 l5).2 (by omega)
    rw [← e1] at c6
    rw [← e2, ← e3] at c7
    have z1 : nst z m t 0 = t := rfl
    rw [z1, hL] at lo
    refine CallOK.intro Try.call10 Try.func10 rfl rfl ⟨rfl, rfl, rfl, fun _ => rfl, trivial⟩ ?_
    refine Safe.goto mixed 16 [⟨1100, []⟩, ⟨1200, [(2, .call [0, 1, 1201] (I (a1)) [(0, some (.blk ((65 : Nat)) [.sl ((1 : Nat)) ((0 : Nat)) ((1 : Nat)) (m) (none), I ((↑q1 : Int))]))]), (5, .call [0, 1, 1204] (I (a2)) [(0, some (.blk ((65 : Nat)) [.sl ((1 : Nat)) ((0 : Nat)) ((1 : Nat)) (m) (none), I ((↑q2 : Int))]))])]⟩, ⟨1300, [(1, .call [0, 1] (I (a3)) [(0, some (.blk ((65 : Nat)) [.sl ((1 : Nat)) ((0 : Nat)) ((1 : Nat)) (m) (none), I ((↑q3 : Int))]))]), (2, .tt true)]⟩, ⟨1400, [(1, .call [0, 1] (I (a4)) [(0, some (.blk ((65 : Nat)) [.sl ((1 : Nat)) ((0 : Nat)) ((1 : Nat)) (m) (none), I ((↑q4 : Int))]))]), (3, .call [0, 1] (I (a5)) [(0, some (.blk ((65 : Nat)) [.sl ((1 : Nat)) ((0 : Nat)) ((1 : Nat)) (m) (none), I ((↑q5 : Int))]))])]⟩, ⟨1500, [(1, .call [0, 1] (I (t.key)) [(0, some (.blk ((65 : Nat)) [.sl ((1 : Nat)) ((0 : Nat)) ((1 : Nat)) (m) (none), I ((↑(nA m q5 (3 : Int)) : Int))]))])]⟩, ⟨1600, [(1, .call [0, 1] (I ((↑n : Int))) [(0, some (.blk ((65 : Nat)) [.sl ((1 : Nat)) ((0 : Nat)) ((1 : Nat)) (m) (none), I ((↑t.p : Int))]))])]⟩] [0, 2, 3, 4, 5] [0, 1, 1100, 1207] (todo' := loopAt Go.Proofs.Try.f10 0) (sl := slotsOf 52 [(0, .ptr ((0 : Nat)) ((0 : Nat)) ((0 : Nat)) ((0 : Nat))), (2, .ptr ((1100 : Nat)) ((0 : Nat)) ((0 : Nat)) ((0 : Nat))), (3, .ptr ((1207 : Nat)) ((0 : Nat)) ((0 : Nat)) ((0 : Nat))), (4, I (t.key)), (5, I ((↑n : Int)))]) (hp := [(0, .blk ((65 : Nat)) [.sl ((1 : Nat)) ((0 : Nat)) ((1 : Nat)) (m) (none), I ((↑t.p : Int))]), (1, .ro ((1 : Nat)) (z.length) (rowG encI z)), (1100, .blk ((27 : Nat)) [I ((0 : Int)), I ((0 : Int)), .val (Value.slice none (0 : Nat) (0 : Nat))]), (1207, .blk ((27 : Nat)) [I (a4), I (a5), .val (Value.slice none (0 : Nat) (0 : Nat))])]) (ob := [CallOK Try.prog (24 : Nat) ([] ++ [AV.ptr (0 : Nat) (0 : Nat) (0 : Nat) (0 : Nat), AV.sl (1201 : Nat) (0 : Nat) (1 : Nat) (7 : Nat) none] ++ []) [((0 : Nat), Ob.blk (65 : Nat) [AV.sl (1 : Nat) (0 : Nat) (1 : Nat) m none, AV.val (Value.int IntKind.i64 (↑p : Int))]), ((1 : Nat), Ob.ro (1 : Nat) z.length (rowG encI z)), ((1201 : Nat), Ob.vec (3 : Nat) (1 : Nat) (7 : Nat) (rowsOf [AV.val (Value.int IntKind.i64 (0 : Int)), AV.val (Value.int IntKind.i64 (0 : Int)), AV.val (Value.int IntKind.i64 (1 : Int)), AV.val (Value.int IntKind.i64 (2 : Int)), AV.val (Value.int IntKind.i64 (8 : Int)), AV.val (Value.int IntKind.i64 (9 : Int)), AV.val (Value.int IntKind.i64 (-1 : Int))] (1 : Nat)))] (AV.val (Value.int IntKind.i64 a1)) [((0 : Nat), some (Ob.blk (65 : Nat) [AV.sl (1 : Nat) (0 : Nat) (1 : Nat) m none, AV.val (Value.int IntKind.i64 (↑q1 : Int))]))], CallOK Try.prog (24 : Nat) ([] ++ [AV.ptr (0 : Nat) (0 : Nat) (0 : Nat) (0 : Nat), AV.sl (1204 : Nat) (0 : Nat) (1 : Nat) (6 : Nat) none] ++ []) [((0 : Nat), Ob.blk (65 : Nat) [AV.sl (1 : Nat) (0 : Nat) (1 : Nat) m none, AV.val (Value.int IntKind.i64 (↑q1 : Int))]), ((1 : Nat), Ob.ro (1 : Nat) z.length (rowG encI z)), ((1204 : Nat), Ob.vec (3 : Nat) (1 : Nat) (6 : Nat) (rowsOf [AV.val (Value.int IntKind.i64 (0 : Int)), AV.val (Value.int IntKind.i64 (1 : Int)), AV.val (Value.int IntKind.i64 (9 : Int)), AV.val (Value.int IntKind.i64 (16777215 : Int)), AV.val (Value.int IntKind.i64 (16777216 : Int)), AV.val (Value.int IntKind.i64 (-1 : Int))] (1 : Nat)))] (AV.val (Value.int IntKind.i64 a2)) [((0 : Nat), some (Ob.blk (65 : Nat) [AV.sl (1 : Nat) (0 : Nat) (1 : Nat) m none, AV.val (Value.int IntKind.i64 (↑q2 : Int))]))], CallOK Try.prog (11 : Nat) ([] ++ [AV.ptr (0 : Nat) (0 : Nat) (0 : Nat) (0 : Nat), ofV (Value.int IntKind.i64 (4 : Int))] ++ []) [((0 : Nat), Ob.blk (65 : Nat) [AV.sl (1 : Nat) (0 : Nat) (1 : Nat) m none, AV.val (Value.int IntKind.i64 (↑q2 : Int))]), ((1 : Nat), Ob.ro (1 : Nat) z.length (rowG encI z))] (AV.val (Value.int IntKind.i64 a3)) [((0 : Nat), some (Ob.blk (65 : Nat) [AV.sl (1 : Nat) (0 : Nat) (1 : Nat) m none, AV.val (Value.int IntKind.i64 (↑q3 : Int))]))], decide (a3 > (0 : Int)) = true, CallOK Try.prog (11 : Nat) ([] ++ [AV.ptr (0 : Nat) (0 : Nat) (0 : Nat) (0 : Nat), ofV (Value.int IntKind.i64 (3 : Int))] ++ []) [((0 : Nat), Ob.blk (65 : Nat) [AV.sl (1 : Nat) (0 : Nat) (1 : Nat) m none, AV.val (Value.int IntKind.i64 (↑q3 : Int))]), ((1 : Nat), Ob.ro (1 : Nat) z.length (rowG encI z))] (AV.val (Value.int IntKind.i64 a4)) [((0 : Nat), some (Ob.blk (65 : Nat) [AV.sl (1 : Nat) (0 : Nat) (1 : Nat) m none, AV.val (Value.int IntKind.i64 (↑q4 : Int))]))], CallOK Try.prog (11 : Nat) ([] ++ [AV.ptr (0 : Nat) (0 : Nat) (0 : Nat) (0 : Nat), ofV (Value.int IntKind.i64 (50 : Int))] ++ []) [((0 : Nat), Ob.blk (65 : Nat) [AV.sl (1 : Nat) (0 : Nat) (1 : Nat) m none, AV.val (Value.int IntKind.i64 (↑q4 : Int))]), ((1 : Nat), Ob.ro (1 : Nat) z.length (rowG encI z))] (AV.val (Value.int IntKind.i64 a5)) [((0 : Nat), some (Ob.blk (65 : Nat) [AV.sl (1 : Nat) (0 : Nat) (1 : Nat) m none, AV.val (Value.int IntKind.i64 (↑q5 : Int))]))], CallOK Try.prog (11 : Nat) ([] ++ [AV.ptr (0 : Nat) (0 : Nat) (0 : Nat) (0 : Nat), ofV (Value.int IntKind.i64 (3 : Int))] ++ []) [((0 : Nat), Ob.blk (65 : Nat) [AV.sl (1 : Nat) (0 : Nat) (1 : Nat) m none, AV.val (Value.int IntKind.i64 (↑q5 : Int))]), ((1 : Nat), Ob.ro (1 : Nat) z.length (rowG encI z))] (AV.val (Value.int IntKind.i64 t.key)) [((0 : Nat), some (Ob.blk (65 : Nat) [AV.sl (1 : Nat) (0 : Nat) (1 : Nat) m none, AV.val (Value.int IntKind.i64 (↑(nA m q5 (3 : Int)) : Int))]))], CallOK Try.prog (11 : Nat) ([] ++ [AV.ptr (0 : Nat) (0 : Nat) (0 : Nat) (0 : Nat), ofV (Value.int IntKind.i64 (10 : Int))] ++ []) [((0 : Nat), Ob.blk (65 : Nat) [AV.sl (1 : Nat) (0 : Nat) (1 : Nat) m none, AV.val (Value.int IntKind.i64 (↑(nA m q5 (3 : Int)) : Int))]), ((1 : Nat), Ob.ro (1 : Nat) z.length (rowG encI z))] (AV.val (Value.int IntKind.i64 (↑n : Int))) [((0 : Nat), some (Ob.blk (65 : Nat) [AV.sl (1 : Nat) (0 : Nat) (1 : Nat) m none, AV.val (Value.int IntKind.i64 (↑t.p : Int))]))]]) rfl rfl (by kernel_rfl) ⟨(CallOK.simR (CallOK.ren (CallOK.own 3 2 rfl rfl rfl c1) [(0, 0), (2, 1201), (1, 1)] [0, 2, 1] rfl rfl rfl rfl ⟨rfl, rfl, rfl, fun _ => rfl, rfl, closed_rows rfl, trivial⟩ rfl ⟨rfl, rfl, rfl, fun _ => rfl, rfl, closed_rows rfl, trivial⟩) (HpSim.cons rfl (OSim.refl _) (HpSim.cons rfl (OSim.refl _) (HpSim.cons rfl (OSim.rowsV rfl) HpSim.nil)))), (CallOK.simR (CallOK.ren (CallOK.own 3 2 rfl rfl rfl c2) [(0, 0), (2, 1204), (1, 1)] [0, 2, 1] rfl rfl rfl rfl ⟨rfl, rfl, rfl, fun _ => rfl, rfl, closed_rows rfl, trivial⟩ rfl ⟨rfl, rfl, rfl, fun _ => rfl, rfl, closed_rows rfl, trivial⟩) (HpSim.cons rfl (OSim.refl _) (HpSim.cons rfl (OSim.refl _) (HpSim.cons rfl (OSim.rowsV rfl) HpSim.nil)))), c3, (decide_eq_true h3), c4, c5, c6, c7, trivial⟩ rfl ⟨rfl, rfl, rfl, fun _ => rfl, rfl, rfl, rfl, rfl, trivial⟩ ?_
    refine Safe.ren [(1100, 20), (1207, 21)] rfl rfl rfl rfl ⟨rfl, rfl, rfl, fun _ => rfl, rfl, rfl, rfl, rfl, trivial⟩ ?_
    refine Safe.nilCell 21 2 22 52 2 (rowG encE []) (bty := 27) (cs := [I a4, I a5, .val (.slice none 0 0)]) rfl rfl rfl ⟨rfl, rfl, rfl, fun _ => rfl, rfl, rfl, rfl, rfl, trivial⟩ ?_ rfl
    rw [show (n : Int) - ((0 : Nat) : Int) = n by omega] at lo
    exact Safe.leH lo rfl (SlLe.refl _) ⟨ObLe.refl _, ObLe.refl _, ObLe.refl _, ObLe.refl _, ⟨rfl, rfl, rfl, fun _ _ => rfl⟩, trivial⟩ rfl ⟨rfl, rfl, rfl, fun _ => rfl, rfl, rfl, rfl, rfl, rfl, fun _ => rfl, trivial⟩
  · refine fin q3 a1 a2 l3 fun t n ht hn hk hL e1 e2 e3 => ?_
    have lo := node_loop z m p a1 a2 t n hm hz hn ht hk hL 0 (Nat.zero_le _)
    have c6 := n_any z m q3 3 hm hz l3 (by omega)
    have c7 := n_any z m (nA m q3 3) 10 hm hz (nA_bd m q3 3 l3).2 (by omega)
    rw [← e1] at c6
    rw [← e2, ← e3] at c7
    have z1 : nst z m t 0 = t := rfl
    rw [z1, hL] at lo
    refine CallOK.intro Try.call10 Try.func10 rfl rfl ⟨rfl, rfl, rfl, fun _ => rfl, trivial⟩ ?_
    refine Safe.goto mixed 16 [⟨1100, []⟩, ⟨1200, [(2, .call [0, 1, 1201] (I (a1)) [(0, some (.blk ((65 : Nat)) [.sl ((1 : Nat)) ((0 : Nat)) ((1 : Nat)) (m) (none), I ((↑q1 : Int))]))]), (5, .call [0, 1, 1204] (I (a2)) [(0, some (.blk ((65 : Nat)) [.sl ((1 : Nat)) ((0 : Nat)) ((1 : Nat)) (m) (none), I ((↑q2 : Int))]))])]⟩, ⟨1300, [(1, .call [0, 1] (I (a3)) [(0, some (.blk ((65 : Nat)) [.sl ((1 : Nat)) ((0 : Nat)) ((1 : Nat)) (m) (none), I ((↑q3 : Int))]))]), (2, .tt false)]⟩, ⟨1400, [(1, .call [0, 1] (I (t.key)) [(0, some (.blk ((65 : Nat)) [.sl ((1 : Nat)) ((0 : Nat)) ((1 : Nat)) (m) (none), I ((↑(nA m q3 (3 : Int)) : Int))]))])]⟩, ⟨1500, [(1, .call [0, 1] (I ((↑n : Int))) [(0, some (.blk ((65 : Nat)) [.sl ((1 : Nat)) ((0 : Nat)) ((1 : Nat)) (m) (none), I ((↑t.p : Int))]))])]⟩] [0, 2, 3, 4, 5] [0, 1, 1100, 1207] (todo' := loopAt Go.Proofs.Try.f10 0) (sl := slotsOf 52 [(0, .ptr ((0 : Nat)) ((0 : Nat)) ((0 : Nat)) ((0 : Nat))), (2, .ptr ((1100 : Nat)) ((0 : Nat)) ((0 : Nat)) ((0 : Nat))), (3, .ptr ((1207 : Nat)) ((0 : Nat)) ((0 : Nat)) ((0 : Nat))), (4, I (t.key)), (5, I ((↑n : Int)))]) (hp := [(0, .blk ((65 : Nat)) [.sl ((1 : Nat)) ((0 : Nat)) ((1 : Nat)) (m) (none), I ((↑t.p : Int))]), (1, .ro ((1 : Nat)) (z.length) (rowG encI z)), (1100, .blk ((27 : Nat)) [I ((0 : Int)), I ((0 : Int)), .val (Value.slice none (0 : Nat) (0 : Nat))]), (1207, .blk ((27 : Nat)) [I (a1), I (a2), .val (Value.slice none (0 : Nat) (0 : Nat))])]) (ob := [CallOK Try.prog (24 : Nat) ([] ++ [AV.ptr (0 : Nat) (0 : Nat) (0 : Nat) (0 : Nat), AV.sl (1201 : Nat) (0 : Nat) (1 : Nat) (7 : Nat) none] ++ []) [((0 : Nat), Ob.blk (65 : Nat) [AV.sl (1 : Nat) (0 : Nat) (1 : Nat) m none, AV.val (Value.int IntKind.i64 (↑p : Int))]), ((1 : Nat), Ob.ro (1 : Nat) z.length (rowG encI z)), ((1201 : Nat), Ob.vec (3 : Nat) (1 : Nat) (7 : Nat) (rowsOf [AV.val (Value.int IntKind.i64 (0 : Int)), AV.val (Value.int IntKind.i64 (0 : Int)), AV.val (Value.int IntKind.i64 (1 : Int)), AV.val (Value.int IntKind.i64 (2 : Int)), AV.val (Value.int IntKind.i64 (8 : Int)), AV.val (Value.int IntKind.i64 (9 : Int)), AV.val (Value.int IntKind.i64 (-1 : Int))] (1 : Nat)))] (AV.val (Value.int IntKind.i64 a1)) [((0 : Nat), some (Ob.blk (65 : Nat) [AV.sl (1 : Nat) (0 : Nat) (1 : Nat) m none, AV.val (Value.int IntKind.i64 (↑q1 : Int))]))], CallOK Try.prog (24 : Nat) ([] ++ [AV.ptr (0 : Nat) (0 : Nat) (0 : Nat) (0 : Nat), AV.sl (1204 : Nat) (0 : Nat) (1 : Nat) (6 : Nat) none] ++ []) [((0 : Nat), Ob.blk (65 : Nat) [AV.sl (1 : Nat) (0 : Nat) (1 : Nat) m none, AV.val (Value.int IntKind.i64 (↑q1 : Int))]), ((1 : Nat), Ob.ro (1 : Nat) z.length (rowG encI z)), ((1204 : Nat), Ob.vec (3 : Nat) (1 : Nat) (6 : Nat) (rowsOf [AV.val (Value.int IntKind.i64 (0 : Int)), AV.val (Value.int IntKind.i64 (1 : Int)), AV.val (Value.int IntKind.i64 (9 : Int)), AV.val (Value.int IntKind.i64 (16777215 : Int)), AV.val (Value.int IntKind.i64 (16777216 : Int)), AV.val (Value.int IntKind.i64 (-1 : Int))] (1 : Nat)))] (AV.val (Value.int IntKind.i64 a2)) [((0 : Nat), some (Ob.blk (65 : Nat) [AV.sl (1 : Nat) (0 : Nat) (1 : Nat) m none, AV.val (Value.int IntKind.i64 (↑q2 : Int))]))], CallOK Try.prog (11 : Nat) ([] ++ [AV.ptr (0 : Nat) (0 : Nat) (0 : Nat) (0 : Nat), ofV (Value.int IntKind.i64 (4 : Int))] ++ []) [((0 : Nat), Ob.blk (65 : Nat) [AV.sl (1 : Nat) (0 : Nat) (1 : Nat) m none, AV.val (Value.int IntKind.i64 (↑q2 : Int))]), ((1 : Nat), Ob.ro (1 : Nat) z.length (rowG encI z))] (AV.val (Value.int IntKind.i64 a3)) [((0 : Nat), some (Ob.blk (65 : Nat) [AV.sl (1 : Nat) (0 : Nat) (1 : Nat) m none, AV.val (Value.int IntKind.i64 (↑q3 : Int))]))], decide (a3 > (0 : Int)) = false, CallOK Try.prog (11 : Nat) ([] ++ [AV.ptr (0 : Nat) (0 : Nat) (0 : Nat) (0 : Nat), ofV (Value.int IntKind.i64 (3 : Int))] ++ []) [((0 : Nat), Ob.blk (65 : Nat) [AV.sl (1 : Nat) (0 : Nat) (1 : Nat) m none, AV.val (Value.int IntKind.i64 (↑q3 : Int))]), ((1 : Nat), Ob.ro (1 : Nat) z.length (rowG encI z))] (AV.val (Value.int IntKind.i64 t.key)) [((0 : Nat), some (Ob.blk (65 : Nat) [AV.sl (1 : Nat) (0 : Nat) (1 : Nat) m none, AV.val (Value.int IntKind.i64 (↑(nA m q3 (3 : Int)) : Int))]))], CallOK Try.prog (11 : Nat) ([] ++ [AV.ptr (0 : Nat) (0 : Nat) (0 : Nat) (0 : Nat), ofV (Value.int IntKind.i64 (10 : Int))] ++ []) [((0 : Nat), Ob.blk (65 : Nat) [AV.sl (1 : Nat) (0 : Nat) (1 : Nat) m none, AV.val (Value.int IntKind.i64 (↑(nA m q3 (3 : Int)) : Int))]), ((1 : Nat), Ob.ro (1 : Nat) z.length (rowG encI z))] (AV.val (Value.int IntKind.i64 (↑n : Int))) [((0 : Nat), some (Ob.blk (65 : Nat) [AV.sl (1 : Nat) (0 : Nat) (1 : Nat) m none, AV.val (Value.int IntKind.i64 (↑t.p : Int))]))]]) rfl rfl (by kernel_rfl) ⟨(CallOK.simR (CallOK.ren (CallOK.own 3 2 rfl rfl rfl c1) [(0, 0), (2, 1201), (1, 1)] [0, 2, 1] rfl rfl rfl rfl ⟨rfl, rfl, rfl, fun _ => rfl, rfl, closed_rows rfl, trivial⟩ rfl ⟨rfl, rfl, rfl, fun _ => rfl, rfl, closed_rows rfl, trivial⟩) (HpSim.cons rfl (OSim.refl _) (HpSim.cons rfl (OSim.refl _) (HpSim.cons rfl (OSim.rowsV rfl) HpSim.nil)))), (CallOK.simR (CallOK.ren (CallOK.own 3 2 rfl rfl rfl c2) [(0, 0), (2, 1204), (1, 1)] [0, 2, 1] rfl rfl rfl rfl ⟨rfl, rfl, rfl, fun _ => rfl, rfl, closed_rows rfl, trivial⟩ rfl ⟨rfl, rfl, rfl, fun _ => rfl, rfl, closed_rows rfl, trivial⟩) (HpSim.cons rfl (OSim.refl _) (HpSim.cons rfl (OSim.refl _) (HpSim.cons rfl (OSim.rowsV rfl) HpSim.nil)))), c3, (decide_eq_false h3), c6, c7, trivial⟩ rfl ⟨rfl, rfl, rfl, fun _ => rfl, rfl, rfl, rfl, rfl, trivial⟩ ?_
    refine Safe.ren [(1100, 20), (1207, 21)] rfl rfl rfl rfl ⟨rfl, rfl, rfl, fun _ => rfl, rfl, rfl, rfl, rfl, trivial⟩ ?_
    refine Safe.nilCell 21 2 22 52 2 (rowG encE []) (bty := 27) (cs := [I a1, I a2, .val (.slice none 0 0)]) rfl rfl rfl ⟨rfl, rfl, rfl, fun _ => rfl, rfl, rfl, rfl, rfl, trivial⟩ ?_ rfl
    rw [show (n : Int) - ((0 : Nat) : Int) = n by omega] at lo
    exact Safe.leH lo rfl (SlLe.refl _) ⟨ObLe.refl _, ObLe.refl _, ObLe.refl _, ObLe.refl _, ⟨rfl, rfl, rfl, fun _ _ => rfl⟩, trivial⟩ rfl ⟨rfl, rfl, rfl, fun _ => rfl, rfl, rfl, rfl, rfl, rfl, fun _ => rfl, trivial⟩
set_option maxRecDepth 10000 in
set_option maxHeartbeats 4000000 in
theorem sameU_true (A A2 : List Int) (m : Nat) (hm : m ≤ 1000000) (h : ∀ q, q < m → A.getD q default = A2.getD q default) : CallOK Try.prog 16 [.sl 0 0 1 m none, .sl 1 0 1 m none] [(0, .ro 1 m (rowG encU A)), (1, .ro 1 m (rowG encU A2))] (B true) [] := by
  refine CallOK.intro Try.call16 Try.func16 rfl rfl ⟨rfl, fun _ => rfl, rfl, fun _ => rfl, trivial⟩ ?_
  refine Safe.withLoop (loopAt Try.f16 0) [0, 1] 26 (fun k : Nat => [(0, .sl 0 0 1 m none), (1, .sl 1 0 1 m none), (5, I k)]) (fun _ => [(0, .ro 1 m (rowG encU A)), (1, .ro 1 m (rowG encU A2))]) (fun k => k ≤ m) (fun k => m - k) ?_ ?_
  · rintro k hk ih
    by_cases hlt : (k : Int) < (m : Int)
    · have e := h k (by omega)
      refine Safe.goto mixed 14 [⟨1100, [(3, .tt true)]⟩, ⟨1200, [(8, .tt false)]⟩, ⟨1300, []⟩] [0, 1, 5] [0, 1] (todo' := loopAt Go.Proofs.Try.f16 0) (sl := slotsOf 26 [(0, .sl ((0 : Nat)) ((0 : Nat)) ((1 : Nat)) (m) (none)), (1, .sl ((1 : Nat)) ((0 : Nat)) ((1 : Nat)) (m) (none)), (5, I ((↑k : Int) + (1 : Int)))]) (hp := [(0, .ro ((1 : Nat)) (m) (rowG encU A)), (1, .ro ((1 : Nat)) (m) (rowG encU A2))]) (ob := [decide ((↑k : Int) < (↑m : Int)) = true, (0 : Int) ≤ (↑k : Int) ∧ (↑k : Int) < (↑m : Int), k < m, (0 : Int) ≤ (↑k : Int) ∧ (↑k : Int) < (↑m : Int), k < m, (decide ¬A.getD k default = A2.getD k default) = false, inK IntKind.i64 ((↑k : Int) + (1 : Int))]) rfl rfl (by kernel_rfl) ⟨(decide_eq_true hlt), (by omega), (by omega), (by omega), (by omega), (decide_eq_false (fun hn => hn e)), (by simp only [inK]; omega), trivial⟩ rfl ⟨rfl, fun _ => rfl, rfl, fun _ => rfl, trivial⟩ ?_
      exact ih (k + 1) (by omega) (by omega)
    · skip
      refine Safe.ends mixed Go.Proofs.Try.func16 7 [⟨1100, [(3, .tt false)]⟩, ⟨1200, []⟩] (r := B (true)) (hp := [(0, .ro ((1 : Nat)) (m) (rowG encU A)), (1, .ro ((1 : Nat)) (m) (rowG encU A2))]) (ob := [decide ((↑k : Int) < (↑m : Int)) = false]) rfl (by kernel_rfl) ⟨(decide_eq_false hlt), trivial⟩ rfl ⟨ObLe.refl _, ObLe.refl _, trivial⟩ ⟨rfl, fun _ => rfl, rfl, fun _ => rfl, trivial⟩ rfl
  · intro H
    have e : (m : Int) = m := rfl
    refine Safe.goto mixed 12 [⟨1100, []⟩, ⟨1200, [(4, .tt false)]⟩, ⟨1300, []⟩] [0, 1, 5] [0, 1] (todo' := loopAt Go.Proofs.Try.f16 0) (sl := slotsOf 26 [(0, .sl ((0 : Nat)) ((0 : Nat)) ((1 : Nat)) (m) (none)), (1, .sl ((1 : Nat)) ((0 : Nat)) ((1 : Nat)) (m) (none)), (5, I ((0 : Int)))]) (hp := [(0, .ro ((1 : Nat)) (m) (rowG encU A)), (1, .ro ((1 : Nat)) (m) (rowG encU A2))]) (ob := [(decide ¬(↑m : Int) = (↑m : Int)) = false]) rfl rfl (by kernel_rfl) ⟨(decide_eq_false (fun hn => hn e)), trivial⟩ rfl ⟨rfl, fun _ => rfl, rfl, fun _ => rfl, trivial⟩ ?_
    exact H 0 (Nat.zero_le _)
set_option maxRecDepth 10000 in
set_option maxHeartbeats 4000000 in
theorem sameU_nil : CallOK Try.prog 16 [.val (.slice none 0 0), .val (.slice none 0 0)] [] (B true) [] := by
  refine CallOK.intro Try.call16 Try.func16 rfl rfl trivial ?_
  refine Safe.ends mixed Go.Proofs.Try.func16 19 [⟨100, []⟩, ⟨200, []⟩, ⟨300, []⟩, ⟨400, []⟩, ⟨500, []⟩] (r := B (true)) (hp := []) (ob := []) rfl (by kernel_rfl) trivial rfl trivial trivial rfl
end Go.Proofs.Ytonjaghkiaaipaa
