/- BlockSound: requests that came in; the law. No conditions but those of each theorem. -/
import Derived.Test.YtcoilldcghamdaaSyZ
import Derived.KernelRfl
import Derived.Test.YtcoilldcghamdaaDSb
import Derived.Test.YtcoilldcghamdaaDSc
import Derived.Deep.SlicePairs
import Derived.ChangeMaps5
import Derived.Below
import Derived.WalkKit
import Derived.OpenShut
namespace Go.Proofs.Ytcoilldcghamdaa
open Go.ChangeShapes Go.WideShapes Go.ChangeAt Go.RowKit Go.Deep
open OldD (Dk Un Wr Sc hs hd chk3 chk4 rdV wrE wrK flK reK up upto pFail pFlush ge)
set_option linter.unusedVariables false
set_option linter.unnecessarySimpa false
set_option linter.unusedSimpArgs false
theorem addr_at (a : Addr) (j : Nat) : a.add j = if j = 0 then a else ⟨a.block, a.off + j, none⟩ := by
  by_cases e : j = 0
  · subst e; simp [Addr.add]
  · simp [Addr.add, e]
theorem cells89 : Try.prog.cellsOf 89 = 4 := by kernel_rfl
theorem cells3 : Try.prog.cellsOf 3 = 1 := by kernel_rfl
theorem cells36 : Try.prog.cellsOf 36 = 1 := by kernel_rfl
def valsT (t : Stp) : List Value := [.int .i64 t.k, .int .i64 t.a, .int .u64 t.v, .int .u64 t.w]
theorem flat_rows {α β : Type} {n : Nat} {f : α → List β} (hf : ∀ x, (f x).length = n) : ∀ (L : List α), (L.flatMap f).length = L.length * n ∧ ∀ q (h : q < L.length), ((L.flatMap f).drop (q * n)).take n = f L[q]
  | [] => ⟨by simp, fun q h => by simp at h⟩
  | x :: L => by
    obtain ⟨h1, h2⟩ := flat_rows hf L
    refine ⟨by rw [List.flatMap_cons, List.length_append, h1, hf, List.length_cons, Nat.add_mul]; omega, fun q hq => ?_⟩
    rw [List.flatMap_cons]
    cases q with
    | zero => rw [Nat.zero_mul, List.drop_zero, List.take_append_of_le_length (by rw [hf]; exact Nat.le_refl _), List.take_of_length_le (by rw [hf]; exact Nat.le_refl _)]; rfl
    | succ q =>
      rw [show (q + 1) * n = (f x).length + q * n by rw [hf, Nat.add_mul]; omega, List.drop_append]
      simp only [List.drop_of_length_le (show (f x).length ≤ (f x).length + q * n by omega), Nat.add_sub_cancel_left, List.nil_append]
      exact h2 q (by simpa using hq)
/-- requests that came in -/
def Sts (W : World) (a : Option Addr) (cap : Nat) (L : List Stp) : Prop := L.length ≤ cap ∧ (cap = 0 ∨ ∃ b o, a = some ⟨b, o, none⟩ ∧ b < W.heap.size ∧ ∀ i, i < L.length → ∀ j, j < 4 → W.cell? ⟨b, o + (i * 4 + j), none⟩ = (valsT (L.getD i default))[j]?)
set_option maxRecDepth 100000 in
theorem open_steps {H : Type} {enc : TypeId × Value → H} {W : World} {base : Nat} {v : Value} {d : DataW H} {p : List MemPlace} (ok : Value.okWide Try.prog W .any base 23 v) (k : DataW.Trod enc Try.prog W 0 (fun _ => true) true 23 v d p) :
    ∃ (a : Option Addr) (cap : Nat) (L : List Stp), v = .slice a L.length cap ∧ L.length ≤ 9223372036854775807 ∧ Sts W a cap L := by
  obtain ⟨a, len, cap, rfl⟩ := okWide_slice Try.underlying23 ok
  obtain ⟨fuel, hfu⟩ := k
  rcases open_slice Try.underlying23 hfu with ⟨hcs, _⟩ | ⟨x, l, c, m, n, D, Pl, hcs, hb, hl, hm, hmm, hx, hi⟩
  · simp [Value.cells] at hcs
    obtain ⟨rfl, rfl, rfl⟩ := hcs
    exact ⟨none, 0, [], rfl, by simp, Nat.le_refl _, .inl rfl⟩
  · simp [Value.cells] at hcs
    obtain ⟨rfl, rfl, rfl⟩ := hcs
    simp only [if_true] at hmm
    subst hmm
    have hv : ∀ i, i < m → ∃ s : Stp, ∀ j, j < 4 → W.cell? (x.add (i * 4 + j)) = (valsT s)[j]? := fun i hil => by
      obtain ⟨cs', h1, h2⟩ := hi i (by omega)
      rw [cells89] at h1
      obtain ⟨_, hlen, hcell⟩ := World.cells?_some h1
      obtain ⟨xs, k, hk, hxy, _, hxl, hf⟩ := DataW.trod_struct Try.underlying89 h2
      match xs, hxl, cs', hlen with
      | [y0, y1, y2, y3], _, [v0, v1, v2, v3], _ =>
        have g0 := hf 0 _ rfl
        have g1 := hf 1 _ rfl
        have g2 := hf 2 _ rfl
        have g3 := hf 3 _ rfl
        simp [cells3, cells36] at g0 g1 g2 g3
        obtain ⟨z0, a0, _, b0⟩ := DataW.trod_int Try.underlying3 g0
        obtain ⟨z1, a1, _, b1⟩ := DataW.trod_int Try.underlying3 g1
        obtain ⟨z2, a2, _, b2⟩ := DataW.trod_int Try.underlying36 g2
        obtain ⟨z3, a3, _, b3⟩ := DataW.trod_int Try.underlying36 g3
        simp only [List.cons.injEq, and_true] at a0 a1 a2 a3
        subst a0 a1 a2 a3
        refine ⟨⟨z0, z1, z2, z3⟩, fun j hj => ?_⟩
        have e := hcell j (by omega)
        rw [add_add] at e
        rw [e]
        rfl
    obtain ⟨f, hfv⟩ := choose_lt hv
    refine ⟨some x, m, (List.range len).map f, by simp, by simp; unfold maxLen at hm; omega, by simpa using hl, ?_⟩
    by_cases h0 : m = 0
    · exact .inl h0
    · obtain ⟨b, off, spot⟩ := x
      have hc := hfv 0 (by omega) 0 (by omega)
      have hspot : spot = none := by simpa [Addr.add] using World.cell?_spot hc
      subst hspot
      refine .inr ⟨b, off, rfl, ?_, fun i hi j hj => ?_⟩
      · have hc' : W.cell? ⟨b, off, none⟩ = some (.int .i64 (f 0).k) := by simpa [Addr.add, valsT] using hc
        exact block_lt_of_cell hc'
      · have hil : i < len := by simpa using hi
        have e : ((List.range len).map f).getD i default = f i := by simp [List.getD_eq_getElem?_getD, hil]
        have q := hfv i (by omega) j hj
        rw [addr_at] at q
        rw [e]
        by_cases e0 : i * 4 + j = 0
        · rw [if_pos e0] at q; rw [e0]; exact q
        · rw [if_neg e0] at q; exact q
theorem valsT_len (t : Stp) : (valsT t).length = 4 := rfl
theorem Sts.ro {W : World} {a : Option Addr} {cap : Nat} {L : List Stp} {E : Env} {id : Nat} (h : Sts W a cap L) (hE : E id = if cap = 0 then some (none, 0) else some (a, cap)) : Holds E W id (.ro 4 L.length (rowG encSt L)) ∧ SlOK (if cap = 0 then none else a) (if cap = 0 then 0 else cap) 0 4 L.length none (.slice a L.length cap) := by
  obtain ⟨hl, h2⟩ := h
  obtain ⟨f1, f2⟩ := flat_rows valsT_len L
  by_cases h0 : cap = 0
  · subst h0
    have hL : L.length = 0 := by omega
    refine ⟨⟨none, 0, [], by rw [hE]; rfl, by simp [hL], .inl ⟨rfl, hL, rfl⟩, fun u hu => by simp at hu, fun q hq => by omega⟩, ?_⟩
    rw [hL]
    exact ⟨a, rfl, rfl, rfl⟩
  · rcases h2 with h2 | ⟨b, o, rfl, hb, hc⟩
    · exact absurd h2 h0
    · rw [if_neg h0] at hE
      rw [if_neg h0, if_neg h0]
      refine ⟨⟨some ⟨b, o, none⟩, cap, L.flatMap valsT, hE, f1, .inr ⟨_, rfl, hb, hl, fun j u hu => ?_⟩, fun u hu => ?_, fun q hq => ?_⟩, ⟨o, cap, rfl, hl, by omega, fun _ => by simp, by simp⟩⟩
      · have hj : j < L.length * 4 := by rw [← f1]; exact (List.getElem?_eq_some_iff.1 hu).1
        have hq : j / 4 < L.length := by omega
        have e := f2 (j / 4) hq
        have e1 : (L.flatMap valsT)[j]? = (valsT L[j / 4])[j % 4]? := by
          rw [← e, List.getElem?_take, if_pos (by omega), List.getElem?_drop]
          congr 1
          omega
        have e2 : L.getD (j / 4) default = L[j / 4] := by rw [List.getD_eq_getElem?_getD, List.getElem?_eq_getElem hq]; rfl
        have := hc (j / 4) hq (j % 4) (by omega)
        rw [e2, ← e1, hu, show j / 4 * 4 + j % 4 = j by omega] at this
        exact this
      · obtain ⟨t, _, ht⟩ := List.mem_flatMap.1 hu
        simp only [valsT, List.mem_cons, List.not_mem_nil, or_false] at ht
        rcases ht with rfl | rfl | rfl | rfl <;> rfl
      · unfold cellsAt
        rw [f2 q hq]
        have e2 : rowG encSt L q = encSt L[q] := by unfold rowG; rw [List.getD_eq_getElem?_getD, List.getElem?_eq_getElem hq]; rfl
        rw [e2]
        simp [encSt, valsT, RVs, RV, I, U]
theorem row_steps {W : World} {a a1 : Option Addr} {len cap c1 : Nat} {z : List Int} {l : List Stp} (h : IsRow .i64 W a len cap z) (h1 : Sts W a1 c1 l) :
    ∃ E : Env, RH E [(1, .ro 1 (z.take len).length (rowG encI (z.take len))), (2, .ro 4 l.length (rowG encSt l))] W ∧ RV E (.sl 1 0 1 (z.take len).length none) (.slice a len cap) ∧ RV E (.sl 2 0 4 l.length none) (.slice a1 l.length c1) := by
  obtain ⟨E, hE⟩ : ∃ E : Env, E = fun id => if id = 1 then some (inE a cap) else if id = 2 then (if c1 = 0 then some (none, 0) else some (a1, c1)) else none := ⟨_, rfl⟩
  have k1 := h.ro (E := E) (id := 1) (by rw [hE]; rfl)
  have k2 := h1.ro (E := E) (id := 2) (by rw [hE]; rfl)
  refine ⟨E, RH.ros (fun id o ho => ?_) (fun id o ho => ?_), k1.2, ?_⟩
  · rcases find2 ho with ⟨rfl, rfl⟩ | ⟨rfl, _, rfl⟩
    · exact k1.1
    · exact k2.1
  · rcases find2 ho with ⟨rfl, rfl⟩ | ⟨rfl, _, rfl⟩ <;> rfl
  · simp only [RV]
    refine ⟨_, _, ?_, k2.2⟩
    rw [hE]
    by_cases e : c1 = 0 <;> simp [e]
set_option maxRecDepth 10000
theorem few_any (l : List Stp) : CallOK Try.prog 10 [.sl 2 0 4 l.length none] [(2, .ro 4 l.length (rowG encSt l))] (B (decide ((l.length : Int) ≤ 24))) [] := by
  refine CallOK.intro Try.call10 Try.func10 rfl rfl ⟨rfl, fun _ => rfl, trivial⟩ ?_
  refine Safe.ends mixed Go.Proofs.Try.func10 4 [⟨1100, []⟩, ⟨1200, []⟩] (r := B (decide ((↑l.length : Int) ≤ (24 : Int)))) (hp := [(2, .ro ((4 : Nat)) (l.length) (rowG encSt l))]) (ob := []) rfl (by kernel_rfl) trivial rfl ⟨ObLe.refl _, trivial⟩ ⟨rfl, fun _ => rfl, trivial⟩ rfl
set_option maxHeartbeats 2000000 in
theorem sound_walk (z : List Int) (hzl : z.length ≤ 9223372036854775807) (l : List Stp) (hll : l.length ≤ 9223372036854775807) (m : Nat) (em : m = mF z) (P0 P1 P2 : List Int) (l0 : P0.length = 6) (l1 : P1.length = 5) (l2 : P2.length = 7) (k0 : Dk) (ek : k0 = dkN [P0, P1, P2])
    (w0 : CallOK Try.prog 15 [I 6, U 100] [] (.sl 10 0 1 6 none) [(10, some (.vec 36 1 6 (rowG encU P0)))])
    (w1 : CallOK Try.prog 15 [I 5, U 200] [] (.sl 10 0 1 5 none) [(10, some (.vec 36 1 5 (rowG encU P1)))])
    (w2 : CallOK Try.prog 15 [I 7, U 300] [] (.sl 10 0 1 7 none) [(10, some (.vec 36 1 7 (rowG encU P2)))])
    (ld : CallOK Try.prog 14 [.sl 1 0 1 3 none] [(1, .ro 1 3 (rowsOf [.sl 2 0 1 6 none, .sl 3 0 1 5 none, .sl 4 0 1 7 none] 1)), (2, .vec 36 1 6 (rowG encU P0)), (3, .vec 36 1 5 (rowG encU P1)), (4, .vec 36 1 7 (rowG encU P2))] (.ptr 10 0 0 0) [(10, some (.box (dbox 0 k0)))]) :
    CallOK Try.prog 3 [.sl 1 0 1 z.length none, .sl 2 0 4 l.length none] [(1, .ro 1 z.length (rowG encI z)), (2, .ro 4 l.length (rowG encSt l))] (B true) [] := by
  refine CallOK.intro Try.call3 Try.func3 rfl rfl ⟨rfl, fun _ => rfl, rfl, fun _ => rfl, trivial⟩ ?_
  have fw := few_any l
  by_cases h24 : l.length ≤ 24
  · rw [decide_eq_true (show (l.length : Int) ≤ 24 by omega)] at fw
    obtain ⟨sF, eF⟩ : ∃ sF, sF = skRun z m [P0, P1, P2] (i0F z m) (s0F m) := ⟨_, rfl⟩
    have st := stack_any z hzl m em P0 P1 P2 l0 l1 l2 k0 sF eF w0 w1 w2 ld
    have hm : m ≤ 1000 := by rw [em]; unfold mF; omega
    have b := nV_bd z m 0 (4 - 1 + 1) (by omega)
    have pb := nA_bd m 0 (4 - 1 + 1) (by omega)
    have hI : SkI m [P0, P1, P2] 0 sF := by
      rw [eF]
      refine SkI.run _ _ ⟨pb.2, ⟨rfl, fun d hd => ?_⟩, by show (0 : Nat) + i0F z m ≤ 4; unfold i0F; omega, fun j hj => by simp [s0F] at hj, fun a b hab hb => by simp [s0F] at hb, rfl, fun j hj => by simp [s0F] at hj⟩
      obtain rfl | rfl | rfl : d = 0 ∨ d = 1 ∨ d = 2 := by omega
      · exact ⟨Int.le_refl 0, by show (0 : Int) ≤ (P0.length : Int); omega⟩
      · exact ⟨Int.le_refl 0, by show (0 : Int) ≤ (P1.length : Int); omega⟩
      · exact ⟨Int.le_refl 0, by show (0 : Int) ≤ (P2.length : Int); omega⟩
    have hb3 : ∀ d, d < 3 → ([P0, P1, P2].getD d []).length ≤ 1000 := fun d hd => by
      obtain rfl | rfl | rfl : d = 0 ∨ d = 1 ∨ d = 2 := by omega
      · show P0.length ≤ 1000; omega
      · show P1.length ≤ 1000; omega
      · show P2.length ≤ 1000; omega
    have spl := hI.spl rfl hb3
    have hx := hI.x
    have hxl := hI.xlen
    have b1 := nV_bd z m sF.p (sF.X.length + 1) (by omega)
    obtain ⟨lo, elo⟩ : ∃ lo : Nat, loF z m sF = (lo : Int) := ⟨(loF z m sF).toNat, by unfold loF; omega⟩
    have b1' : (lo : Int) < sF.X.length + 1 := by rw [← elo]; exact b1.2
    have b2 := nV_bd z m (nA m sF.p (sF.X.length + 1)) (sF.X.length - loF z m sF + 1) (by rw [elo]; omega)
    obtain ⟨N, eN⟩ : ∃ N : Nat, nF z m sF = N := ⟨_, rfl⟩
    have hN : lo + N ≤ sF.X.length := by
      have : (N : Int) = nV z m (nA m sF.p (sF.X.length + 1)) (sF.X.length - loF z m sF + 1) := by rw [← eN]; unfold nF; omega
      rw [elo] at this b2
      omega
    rw [elo, eN, Int.toNat_natCast] at st
    have hw : 0 ≤ (lo : Int) ∧ (lo : Int) + N ≤ upS sF.L sF.L.length := by omega
    have rn := hI.rn rfl hb3 lo N hw.2
    have hz : ∀ d, d < 3 → szL [P0, P1, P2] d ≤ 100000 := fun d hd => by have := hb3 d hd; unfold szL; omega
    rw [← ek] at rn
    by_cases h0 : N = 0
    · subst h0
      have so := sound0 0 k0 sF.L 3 _ spl lo hw (fun d hd => ⟨rn.s.g.sz hd, hz d hd⟩) sF.X lo l
      clear rn spl hI eF eN b2 hx
      generalize sF.L = LL at st so
      generalize sF.X = XX at st so
      refine Safe.ends mixed Go.Proofs.Try.func3 11 [⟨1100, []⟩, ⟨1200, [(1, .call [2] (B (true)) [])]⟩, ⟨1300, [(1, .call [1] (.tup [.ptr ((1355 : Nat)) ((0 : Nat)) ((0 : Nat)) ((0 : Nat)), .fn (Fn.func (38 : FuncId)) [] [.ptr ((1356 : Nat)) ((0 : Nat)) ((0 : Nat)) ((0 : Nat)), .ptr ((1357 : Nat)) ((0 : Nat)) ((0 : Nat)) ((0 : Nat)), .ptr ((1358 : Nat)) ((0 : Nat)) ((0 : Nat)) ((0 : Nat)), .ptr ((1359 : Nat)) ((0 : Nat)) ((0 : Nat)) ((0 : Nat))], .sl ((1360 : Nat)) (lo) ((1 : Nat)) ((0 : Nat)) (none)]) [(1355, some (.box (dbox (0 : Nat) k0))), (1356, some (.blk ((81 : Nat)) [.sl ((1361 : Nat)) ((0 : Nat)) ((3 : Nat)) (LL.length) (none)])), (1357, some (.blk ((26 : Nat)) [.ptr ((1355 : Nat)) ((0 : Nat)) ((0 : Nat)) ((0 : Nat))])), (1358, some (.blk ((3 : Nat)) [I ((↑lo : Int))])), (1359, some (.blk ((3 : Nat)) [I ((↑lo : Int) + (↑(0 : Nat) : Int))])), (1360, some (.vec ((36 : Nat)) ((1 : Nat)) (XX.length) (fun q => renL [((1 : Nat), (1 : Nat)), ((10 : Nat), (1355 : Nat)), ((11 : Nat), (1356 : Nat)), ((12 : Nat), (1357 : Nat)), ((13 : Nat), (1358 : Nat)), ((14 : Nat), (1359 : Nat)), ((15 : Nat), (1360 : Nat)), ((16 : Nat), (1361 : Nat))] (rowG encU XX q)))), (1361, some (.vec ((84 : Nat)) ((3 : Nat)) (LL.length) (fun q => renL [((1 : Nat), (1 : Nat)), ((10 : Nat), (1355 : Nat)), ((11 : Nat), (1356 : Nat)), ((12 : Nat), (1357 : Nat)), ((13 : Nat), (1358 : Nat)), ((14 : Nat), (1359 : Nat)), ((15 : Nat), (1360 : Nat)), ((16 : Nat), (1361 : Nat))] (rowG encS3 LL q))))])]⟩, ⟨1400, [(7, .call [1355, 1356, 1357, 1358, 1359, 1361, 1360, 2] (B (true)) [(1355, none)]), (10, .call [] (B (true)) [])]⟩] (r := B (true)) (hp := [(1, .ro ((1 : Nat)) (z.length) (rowG encI z)), (2, .ro ((4 : Nat)) (l.length) (rowG encSt l))]) (ob := [CallOK Try.prog (10 : Nat) ([] ++ [AV.sl (2 : Nat) (0 : Nat) (4 : Nat) l.length none] ++ []) [((2 : Nat), Ob.ro (4 : Nat) l.length (rowG encSt l))] (AV.val (Value.bool true)) [], CallOK Try.prog (12 : Nat) ([] ++ [AV.sl (1 : Nat) (0 : Nat) (1 : Nat) z.length none] ++ []) [((1 : Nat), Ob.ro (1 : Nat) z.length (rowG encI z))] (AV.tup [AV.ptr (1355 : Nat) (0 : Nat) (0 : Nat) (0 : Nat), AV.fn (Fn.func (38 : FuncId)) [] [AV.ptr (1356 : Nat) (0 : Nat) (0 : Nat) (0 : Nat), AV.ptr (1357 : Nat) (0 : Nat) (0 : Nat) (0 : Nat), AV.ptr (1358 : Nat) (0 : Nat) (0 : Nat) (0 : Nat), AV.ptr (1359 : Nat) (0 : Nat) (0 : Nat) (0 : Nat)], AV.sl (1360 : Nat) lo (1 : Nat) (0 : Nat) none]) [((1355 : Nat), some (Ob.box (dbox (0 : Nat) k0))), ((1356 : Nat), some (Ob.blk (81 : Nat) [AV.sl (1361 : Nat) (0 : Nat) (3 : Nat) LL.length none])), ((1357 : Nat), some (Ob.blk (26 : Nat) [AV.ptr (1355 : Nat) (0 : Nat) (0 : Nat) (0 : Nat)])), ((1358 : Nat), some (Ob.blk (3 : Nat) [AV.val (Value.int IntKind.i64 (↑lo : Int))])), ((1359 : Nat), some (Ob.blk (3 : Nat) [AV.val (Value.int IntKind.i64 ((↑lo : Int) + (↑(0 : Nat) : Int)))])), ((1360 : Nat), some (Ob.vec (36 : Nat) (1 : Nat) XX.length fun q => renL [((1 : Nat), (1 : Nat)), ((10 : Nat), (1355 : Nat)), ((11 : Nat), (1356 : Nat)), ((12 : Nat), (1357 : Nat)), ((13 : Nat), (1358 : Nat)), ((14 : Nat), (1359 : Nat)), ((15 : Nat), (1360 : Nat)), ((16 : Nat), (1361 : Nat))] (rowG encU XX q))), ((1361 : Nat), some (Ob.vec (84 : Nat) (3 : Nat) LL.length fun q => renL [((1 : Nat), (1 : Nat)), ((10 : Nat), (1355 : Nat)), ((11 : Nat), (1356 : Nat)), ((12 : Nat), (1357 : Nat)), ((13 : Nat), (1358 : Nat)), ((14 : Nat), (1359 : Nat)), ((15 : Nat), (1360 : Nat)), ((16 : Nat), (1361 : Nat))] (rowG encS3 LL q)))], CallOK Try.prog (13 : Nat) ([] ++ [AV.ptr (1355 : Nat) (0 : Nat) (0 : Nat) (0 : Nat), AV.fn (Fn.func (38 : FuncId)) [] [AV.ptr (1356 : Nat) (0 : Nat) (0 : Nat) (0 : Nat), AV.ptr (1357 : Nat) (0 : Nat) (0 : Nat) (0 : Nat), AV.ptr (1358 : Nat) (0 : Nat) (0 : Nat) (0 : Nat), AV.ptr (1359 : Nat) (0 : Nat) (0 : Nat) (0 : Nat)], AV.sl (1360 : Nat) lo (1 : Nat) (0 : Nat) none, AV.sl (2 : Nat) (0 : Nat) (4 : Nat) l.length none] ++ []) [((1355 : Nat), Ob.box (dbox (0 : Nat) k0)), ((1356 : Nat), Ob.blk (81 : Nat) [AV.sl (1361 : Nat) (0 : Nat) (3 : Nat) LL.length none]), ((1357 : Nat), Ob.blk (26 : Nat) [AV.ptr (1355 : Nat) (0 : Nat) (0 : Nat) (0 : Nat)]), ((1358 : Nat), Ob.blk (3 : Nat) [AV.val (Value.int IntKind.i64 (↑lo : Int))]), ((1359 : Nat), Ob.blk (3 : Nat) [AV.val (Value.int IntKind.i64 ((↑lo : Int) + (↑(0 : Nat) : Int)))]), ((1361 : Nat), Ob.vec (84 : Nat) (3 : Nat) LL.length fun q => renL [((1 : Nat), (1 : Nat)), ((10 : Nat), (1355 : Nat)), ((11 : Nat), (1356 : Nat)), ((12 : Nat), (1357 : Nat)), ((13 : Nat), (1358 : Nat)), ((14 : Nat), (1359 : Nat)), ((15 : Nat), (1360 : Nat)), ((16 : Nat), (1361 : Nat))] (rowG encS3 LL q)), ((1360 : Nat), Ob.vec (36 : Nat) (1 : Nat) XX.length fun q => renL [((1 : Nat), (1 : Nat)), ((10 : Nat), (1355 : Nat)), ((11 : Nat), (1356 : Nat)), ((12 : Nat), (1357 : Nat)), ((13 : Nat), (1358 : Nat)), ((14 : Nat), (1359 : Nat)), ((15 : Nat), (1360 : Nat)), ((16 : Nat), (1361 : Nat))] (rowG encU XX q)), ((2 : Nat), Ob.ro (4 : Nat) l.length (rowG encSt l))] (AV.val (Value.bool true)) [((1355 : Nat), none)], CallOK Try.prog (11 : Nat) ([] ++ [] ++ []) [] (AV.val (Value.bool true)) []]) rfl (by kernel_rfl) ⟨fw, (CallOK.ren st [(1, 1), (10, 1355), (11, 1356), (12, 1357), (13, 1358), (14, 1359), (15, 1360), (16, 1361)] [1, 10, 11, 12, 13, 14, 15, 16] rfl rfl rfl rfl ⟨rfl, fun _ => rfl, trivial⟩ rfl ⟨rfl, fun _ => rfl, rfl, trivial, rfl, rfl, rfl, rfl, rfl, rfl, rfl, rfl, rfl, fun _ => rfl, rfl, fun _ => rfl, trivial⟩), (CallOK.ren (CallOK.own 36 12 (es := (1 : Nat)) (n := XX.length) (row := rowG encU XX) rfl rfl rfl (CallOK.own 84 9 (es := (3 : Nat)) (n := LL.length) (row := rowG encS3 LL) rfl rfl rfl so)) [(0, 1355), (3, 1356), (4, 1357), (7, 1358), (8, 1359), (12, 1360), (13, 2), (9, 1361)] [0, 3, 4, 7, 8, 12, 13, 9] rfl rfl rfl rfl ⟨rfl, trivial, rfl, rfl, rfl, rfl, rfl, rfl, rfl, rfl, rfl, fun _ => rfl, rfl, fun _ => rfl, rfl, fun _ => rfl, trivial⟩ rfl ⟨rfl, rfl, rfl, rfl, rfl, rfl, rfl, rfl, rfl, fun _ => rfl, rfl, fun _ => rfl, rfl, fun _ => rfl, trivial⟩), awake_any, trivial⟩ rfl ⟨ObLe.refl _, ObLe.refl _, trivial⟩ ⟨rfl, fun _ => rfl, rfl, fun _ => rfl, trivial⟩ rfl
      all_goals skip
    · have hl1 : 1 ≤ sF.L.length := by
        refine Classical.not_not.1 fun hn => ?_
        have e : sF.L.length = 0 := by omega
        rw [e] at hw
        simp only [upS] at hw
        omega
      have so := sound_any 0 sF.L 3 _ spl hl1 lo N hw (by omega) (by omega) hz sF.X lo hN l h24 k0 rn
      clear rn spl hI eF eN b2 hx
      generalize sF.L = LL at st so
      generalize sF.X = XX at st so
      refine Safe.ends mixed Go.Proofs.Try.func3 11 [⟨1100, []⟩, ⟨1200, [(1, .call [2] (B (true)) [])]⟩, ⟨1300, [(1, .call [1] (.tup [.ptr ((1355 : Nat)) ((0 : Nat)) ((0 : Nat)) ((0 : Nat)), .fn (Fn.func (38 : FuncId)) [] [.ptr ((1356 : Nat)) ((0 : Nat)) ((0 : Nat)) ((0 : Nat)), .ptr ((1357 : Nat)) ((0 : Nat)) ((0 : Nat)) ((0 : Nat)), .ptr ((1358 : Nat)) ((0 : Nat)) ((0 : Nat)) ((0 : Nat)), .ptr ((1359 : Nat)) ((0 : Nat)) ((0 : Nat)) ((0 : Nat))], .sl ((1360 : Nat)) (lo) ((1 : Nat)) (N) (none)]) [(1355, some (.box (dbox (0 : Nat) k0))), (1356, some (.blk ((81 : Nat)) [.sl ((1361 : Nat)) ((0 : Nat)) ((3 : Nat)) (LL.length) (none)])), (1357, some (.blk ((26 : Nat)) [.ptr ((1355 : Nat)) ((0 : Nat)) ((0 : Nat)) ((0 : Nat))])), (1358, some (.blk ((3 : Nat)) [I ((↑lo : Int))])), (1359, some (.blk ((3 : Nat)) [I ((↑lo : Int) + (↑N : Int))])), (1360, some (.vec ((36 : Nat)) ((1 : Nat)) (XX.length) (fun q => renL [((1 : Nat), (1 : Nat)), ((10 : Nat), (1355 : Nat)), ((11 : Nat), (1356 : Nat)), ((12 : Nat), (1357 : Nat)), ((13 : Nat), (1358 : Nat)), ((14 : Nat), (1359 : Nat)), ((15 : Nat), (1360 : Nat)), ((16 : Nat), (1361 : Nat))] (rowG encU XX q)))), (1361, some (.vec ((84 : Nat)) ((3 : Nat)) (LL.length) (fun q => renL [((1 : Nat), (1 : Nat)), ((10 : Nat), (1355 : Nat)), ((11 : Nat), (1356 : Nat)), ((12 : Nat), (1357 : Nat)), ((13 : Nat), (1358 : Nat)), ((14 : Nat), (1359 : Nat)), ((15 : Nat), (1360 : Nat)), ((16 : Nat), (1361 : Nat))] (rowG encS3 LL q))))])]⟩, ⟨1400, [(7, .call [1355, 1356, 1357, 1358, 1359, 1361, 1360, 2] (B (true)) [(1355, none)]), (10, .call [] (B (true)) [])]⟩] (r := B (true)) (hp := [(1, .ro ((1 : Nat)) (z.length) (rowG encI z)), (2, .ro ((4 : Nat)) (l.length) (rowG encSt l))]) (ob := [CallOK Try.prog (10 : Nat) ([] ++ [AV.sl (2 : Nat) (0 : Nat) (4 : Nat) l.length none] ++ []) [((2 : Nat), Ob.ro (4 : Nat) l.length (rowG encSt l))] (AV.val (Value.bool true)) [], CallOK Try.prog (12 : Nat) ([] ++ [AV.sl (1 : Nat) (0 : Nat) (1 : Nat) z.length none] ++ []) [((1 : Nat), Ob.ro (1 : Nat) z.length (rowG encI z))] (AV.tup [AV.ptr (1355 : Nat) (0 : Nat) (0 : Nat) (0 : Nat), AV.fn (Fn.func (38 : FuncId)) [] [AV.ptr (1356 : Nat) (0 : Nat) (0 : Nat) (0 : Nat), AV.ptr (1357 : Nat) (0 : Nat) (0 : Nat) (0 : Nat), AV.ptr (1358 : Nat) (0 : Nat) (0 : Nat) (0 : Nat), AV.ptr (1359 : Nat) (0 : Nat) (0 : Nat) (0 : Nat)], AV.sl (1360 : Nat) lo (1 : Nat) N none]) [((1355 : Nat), some (Ob.box (dbox (0 : Nat) k0))), ((1356 : Nat), some (Ob.blk (81 : Nat) [AV.sl (1361 : Nat) (0 : Nat) (3 : Nat) LL.length none])), ((1357 : Nat), some (Ob.blk (26 : Nat) [AV.ptr (1355 : Nat) (0 : Nat) (0 : Nat) (0 : Nat)])), ((1358 : Nat), some (Ob.blk (3 : Nat) [AV.val (Value.int IntKind.i64 (↑lo : Int))])), ((1359 : Nat), some (Ob.blk (3 : Nat) [AV.val (Value.int IntKind.i64 ((↑lo : Int) + (↑N : Int)))])), ((1360 : Nat), some (Ob.vec (36 : Nat) (1 : Nat) XX.length fun q => renL [((1 : Nat), (1 : Nat)), ((10 : Nat), (1355 : Nat)), ((11 : Nat), (1356 : Nat)), ((12 : Nat), (1357 : Nat)), ((13 : Nat), (1358 : Nat)), ((14 : Nat), (1359 : Nat)), ((15 : Nat), (1360 : Nat)), ((16 : Nat), (1361 : Nat))] (rowG encU XX q))), ((1361 : Nat), some (Ob.vec (84 : Nat) (3 : Nat) LL.length fun q => renL [((1 : Nat), (1 : Nat)), ((10 : Nat), (1355 : Nat)), ((11 : Nat), (1356 : Nat)), ((12 : Nat), (1357 : Nat)), ((13 : Nat), (1358 : Nat)), ((14 : Nat), (1359 : Nat)), ((15 : Nat), (1360 : Nat)), ((16 : Nat), (1361 : Nat))] (rowG encS3 LL q)))], CallOK Try.prog (13 : Nat) ([] ++ [AV.ptr (1355 : Nat) (0 : Nat) (0 : Nat) (0 : Nat), AV.fn (Fn.func (38 : FuncId)) [] [AV.ptr (1356 : Nat) (0 : Nat) (0 : Nat) (0 : Nat), AV.ptr (1357 : Nat) (0 : Nat) (0 : Nat) (0 : Nat), AV.ptr (1358 : Nat) (0 : Nat) (0 : Nat) (0 : Nat), AV.ptr (1359 : Nat) (0 : Nat) (0 : Nat) (0 : Nat)], AV.sl (1360 : Nat) lo (1 : Nat) N none, AV.sl (2 : Nat) (0 : Nat) (4 : Nat) l.length none] ++ []) [((1355 : Nat), Ob.box (dbox (0 : Nat) k0)), ((1356 : Nat), Ob.blk (81 : Nat) [AV.sl (1361 : Nat) (0 : Nat) (3 : Nat) LL.length none]), ((1357 : Nat), Ob.blk (26 : Nat) [AV.ptr (1355 : Nat) (0 : Nat) (0 : Nat) (0 : Nat)]), ((1358 : Nat), Ob.blk (3 : Nat) [AV.val (Value.int IntKind.i64 (↑lo : Int))]), ((1359 : Nat), Ob.blk (3 : Nat) [AV.val (Value.int IntKind.i64 ((↑lo : Int) + (↑N : Int)))]), ((1361 : Nat), Ob.vec (84 : Nat) (3 : Nat) LL.length fun q => renL [((1 : Nat), (1 : Nat)), ((10 : Nat), (1355 : Nat)), ((11 : Nat), (1356 : Nat)), ((12 : Nat), (1357 : Nat)), ((13 : Nat), (1358 : Nat)), ((14 : Nat), (1359 : Nat)), ((15 : Nat), (1360 : Nat)), ((16 : Nat), (1361 : Nat))] (rowG encS3 LL q)), ((1360 : Nat), Ob.vec (36 : Nat) (1 : Nat) XX.length fun q => renL [((1 : Nat), (1 : Nat)), ((10 : Nat), (1355 : Nat)), ((11 : Nat), (1356 : Nat)), ((12 : Nat), (1357 : Nat)), ((13 : Nat), (1358 : Nat)), ((14 : Nat), (1359 : Nat)), ((15 : Nat), (1360 : Nat)), ((16 : Nat), (1361 : Nat))] (rowG encU XX q)), ((2 : Nat), Ob.ro (4 : Nat) l.length (rowG encSt l))] (AV.val (Value.bool true)) [((1355 : Nat), none)], CallOK Try.prog (11 : Nat) ([] ++ [] ++ []) [] (AV.val (Value.bool true)) []]) rfl (by kernel_rfl) ⟨fw, (CallOK.ren st [(1, 1), (10, 1355), (11, 1356), (12, 1357), (13, 1358), (14, 1359), (15, 1360), (16, 1361)] [1, 10, 11, 12, 13, 14, 15, 16] rfl rfl rfl rfl ⟨rfl, fun _ => rfl, trivial⟩ rfl ⟨rfl, fun _ => rfl, rfl, trivial, rfl, rfl, rfl, rfl, rfl, rfl, rfl, rfl, rfl, fun _ => rfl, rfl, fun _ => rfl, trivial⟩), (CallOK.ren (CallOK.own 36 12 (es := (1 : Nat)) (n := XX.length) (row := rowG encU XX) rfl rfl rfl (CallOK.own 84 9 (es := (3 : Nat)) (n := LL.length) (row := rowG encS3 LL) rfl rfl rfl so)) [(0, 1355), (3, 1356), (4, 1357), (7, 1358), (8, 1359), (12, 1360), (13, 2), (9, 1361)] [0, 3, 4, 7, 8, 12, 13, 9] rfl rfl rfl rfl ⟨rfl, trivial, rfl, rfl, rfl, rfl, rfl, rfl, rfl, rfl, rfl, fun _ => rfl, rfl, fun _ => rfl, rfl, fun _ => rfl, trivial⟩ rfl ⟨rfl, rfl, rfl, rfl, rfl, rfl, rfl, rfl, rfl, fun _ => rfl, rfl, fun _ => rfl, rfl, fun _ => rfl, trivial⟩), awake_any, trivial⟩ rfl ⟨ObLe.refl _, ObLe.refl _, trivial⟩ ⟨rfl, fun _ => rfl, rfl, fun _ => rfl, trivial⟩ rfl
      all_goals skip
  · rw [decide_eq_false (show ¬ (l.length : Int) ≤ 24 by omega)] at fw
    refine Safe.ends mixed Go.Proofs.Try.func3 8 [⟨1100, []⟩, ⟨1200, [(1, .call [2] (B (false)) [])]⟩, ⟨1300, [(0, .call [] (B (true)) [])]⟩] (r := B (true)) (hp := [(1, .ro ((1 : Nat)) (z.length) (rowG encI z)), (2, .ro ((4 : Nat)) (l.length) (rowG encSt l))]) (ob := [CallOK Try.prog (10 : Nat) ([] ++ [AV.sl (2 : Nat) (0 : Nat) (4 : Nat) l.length none] ++ []) [((2 : Nat), Ob.ro (4 : Nat) l.length (rowG encSt l))] (AV.val (Value.bool false)) [], CallOK Try.prog (11 : Nat) ([] ++ [] ++ []) [] (AV.val (Value.bool true)) []]) rfl (by kernel_rfl) ⟨fw, awake_any, trivial⟩ rfl ⟨ObLe.refl _, ObLe.refl _, trivial⟩ ⟨rfl, fun _ => rfl, rfl, fun _ => rfl, trivial⟩ rfl
def Q6 : List Int := wordsL 100 6
def Q5 : List Int := wordsL 200 5
def Q7 : List Int := wordsL 300 7
theorem sound_law (z : List Int) (hzl : z.length ≤ 9223372036854775807) (l : List Stp) (hll : l.length ≤ 9223372036854775807) : CallOK Try.prog 3 [.sl 1 0 1 z.length none, .sl 2 0 4 l.length none] [(1, .ro 1 z.length (rowG encI z)), (2, .ro 4 l.length (rowG encSt l))] (B true) [] := by
  have w0 : CallOK Try.prog 15 [I 6, U 100] [] (.sl 10 0 1 6 none) [(10, some (.vec 36 1 6 (rowG encU Q6)))] := words_any 6 100 (by omega)
  have w1 : CallOK Try.prog 15 [I 5, U 200] [] (.sl 10 0 1 5 none) [(10, some (.vec 36 1 5 (rowG encU Q5)))] := words_any 5 200 (by omega)
  have w2 : CallOK Try.prog 15 [I 7, U 300] [] (.sl 10 0 1 7 none) [(10, some (.vec 36 1 7 (rowG encU Q7)))] := words_any 7 300 (by omega)
  have ld : CallOK Try.prog 14 [.sl 1 0 1 3 none] [(1, .ro 1 3 (rowsOf [.sl 2 0 1 6 none, .sl 3 0 1 5 none, .sl 4 0 1 7 none] 1)), (2, .vec 36 1 6 (rowG encU Q6)), (3, .vec 36 1 5 (rowG encU Q5)), (4, .vec 36 1 7 (rowG encU Q7))] (.ptr 10 0 0 0) [(10, some (.box (dbox 0 (dkN [Q6, Q5, Q7]))))] := loadedN3 Q6 Q5 Q7 ⟨by decide, by decide⟩ ⟨by decide, by decide⟩ ⟨by decide, by decide⟩
  exact sound_walk z hzl l hll (mF z) rfl Q6 Q5 Q7 rfl rfl rfl _ rfl w0 w1 w2 ld
end Go.Proofs.Ytcoilldcghamdaa
