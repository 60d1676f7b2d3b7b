/- Tracked, Restart as contracts. No conditions but those of each theorem. -/
import Derived.Test.YtbgbjgedjmhcaaaDL
namespace Go.Proofs.Ytbgbjgedjmhcaaa
open Go.RowKit
open OldD (TK TS RoU Sc Gr Row KB DA Dk fp Fresh reK own_gr own_lt ck sf up upto pFail pFlush ck_at lt_mul ge hid)
set_option linter.unusedVariables false
set_option linter.unusedSimpArgs false
theorem find3 {n m l id : Nat} {o p q o' : Ob} (h : find [(n, o), (m, p), (l, q)] id = some o') : (id = n ∧ o' = o) ∨ (id = m ∧ id ≠ n ∧ o' = p) ∨ (id = l ∧ id ≠ n ∧ id ≠ m ∧ o' = q) := by
  unfold find at h
  by_cases e : n = id
  · rw [if_pos (by simpa using e)] at h; exact .inl ⟨e.symm, (Option.some.inj h).symm⟩
  · rw [if_neg (by simpa using e)] at h
    have e' : id ≠ n := fun c => e c.symm
    rcases find2 h with ⟨h1, h2⟩ | ⟨h1, h2, h3⟩
    · exact .inr (.inl ⟨h1, e', h2⟩)
    · exact .inr (.inr ⟨h1, e', h2, h3⟩)
def tr0 (X : List Int) : Nat → Sc := fun i => ⟨[ge X i], true, ge X i⟩
theorem row_at {E : Env} {W : World} {id T q n : Nat} {row : Nat → List AV} {c : Value} (h1 : 1 ≤ n) (hq : q + n ≤ T) (hh : Holds E W id (.ro 1 T row)) (hc : RV E (.sl id q 1 n none) c) :
    ∃ b off cap, c = .slice (some ⟨b, off, none⟩) n cap ∧ b < W.heap.size ∧ ∀ j, j < n → ∃ v, RVs E (row (q + j)) [v] ∧ W.cell? ⟨b, off + j, none⟩ = some v := by
  obtain ⟨b, k, xs, h1, h2, h3, h4, h5⟩ := hh
  simp only [RV] at hc
  obtain ⟨b2, k2, h6, h7⟩ := hc
  rw [h1] at h6
  simp only [Option.some.injEq, Prod.mk.injEq] at h6
  obtain ⟨rfl, rfl⟩ := h6
  cases b with
  | none =>
    obtain ⟨b', rfl, h8, _⟩ := h7
    omega
  | some a =>
    obtain ⟨o, m, rfl, h8, h9, h10, h11⟩ := h7
    rcases h3 with ⟨h3, _⟩ | ⟨a', ha, hlt, hk, hcell⟩
    · cases h3
    · simp only [Option.some.injEq] at ha
      subst ha
      refine ⟨a.block, o, m, rfl, hlt, fun j hj => ?_⟩
      have hl : q + j < xs.length := by omega
      refine ⟨xs[q + j], ?_, ?_⟩
      · have := h5 (q + j) (by omega)
        simp only [cellsAt, Nat.mul_one] at this
        rwa [List.drop_eq_getElem_cons hl, List.take_succ_cons, List.take_zero] at this
      · rw [h10 (by omega), Nat.mul_one, Nat.add_assoc]
        exact hcell _ _ (List.getElem?_eq_getElem hl)
theorem tracked_q (Y : List Int) (q N : Nat) (hN : 1 ≤ N) (hq : q + N ≤ Y.length) (hn : N ≤ 1000) :
    CallOK Try.prog 74 [.sl 0 q 1 N none] [(0, .ro 1 Y.length (rowG encU Y))] (.ptr 10 0 0 0) [(10, some (.blk 177 [.sl 11 0 3 N none])), (11, some (.box (sbox N (tr0 ((Y.drop q).take N)))))] := by
  refine ⟨Try.call74, fun E W cs hcs rh hnew => ?_⟩
  simp only [RVs] at hcs
  obtain ⟨y, l, rfl, hy, rfl⟩ := hcs
  obtain ⟨p, off, cap, rfl, hp, hcell⟩ := row_at hN hq (rh.holds 0 _ rfl) hy
  have hlen : ((Y.drop q).take N).length = N := by rw [List.length_take, List.length_drop]; omega
  have hR : RoU W p off ((Y.drop q).take N) := ⟨hp, fun j hj => by
    obtain ⟨v, h1, h2⟩ := hcell j (by omega)
    simp only [rowG, encU, U, RVs, RV] at h1
    obtain ⟨y, l, e1, rfl, rfl⟩ := h1
    simp only [List.cons.injEq, and_true] at e1
    rw [h2, e1, List.getD_eq_getElem?_getD]
    unfold ge
    rw [List.getElem?_take_of_lt (by omega), List.getElem?_drop]
    rfl⟩
  have h1 : 1 ≤ ((Y.drop q).take N).length := by omega
  have hn : ((Y.drop q).take N).length ≤ 1000 := by omega
  generalize (Y.drop q).take N = X at *
  subst hlen
  refine (OldD.tracked_ok hR h1 hn).mono ?_
  rintro e W' ⟨t, rfl, HH⟩
  obtain ⟨b, cb, G, q1, q2, q3, q4, q5⟩ := HH.out
  have n10 := hnew 10 (by simp [newIds, hasId, find, upd])
  have n11 := hnew 11 (by simp [newIds, hasId, find, upd])
  obtain ⟨E', hE'⟩ : ∃ E' : Env, E' = fun y => if y = 10 then some (some ⟨t, 0, none⟩, 1) else if y = 11 then some (some ⟨b, 0, none⟩, cb) else E y := ⟨_, rfl⟩
  have e10 : E' 10 = some (some ⟨t, 0, none⟩, 1) := by rw [hE']; rfl
  have e11 : E' 11 = some (some ⟨b, 0, none⟩, cb) := by rw [hE']; rfl
  have hx : Ext E E' [10, 11] := by
    refine ⟨fun y z h => ?_, fun y h => ?_⟩
    · have h10 : y ≠ 10 := fun e => by rw [e, n10] at h; cases h
      have h11 : y ≠ 11 := fun e => by rw [e, n11] at h; cases h
      rw [hE']; simp only [if_neg h10, if_neg h11]; exact h
    · by_cases e : y = 10
      · exact .inr (by simp [e])
      · by_cases e2 : y = 11
        · exact .inr (by simp [e2])
        · rw [hE'] at h; simp only [if_neg e, if_neg e2] at h; exact .inl h
  have sk' : SK W' b X.length G (tr0 X) := ⟨q1.row, q1.inn, fun i hi => (q1.sep i hi).2, q1.lim⟩
  have F0 : ∀ V x, Foot E' V 10 (.blk 177 [.sl 11 0 3 X.length none]) x ↔ x = t := fun V x => by simp [Foot, Ob.bx, FootB, blkOf, e10, eq_comm]
  have F1 := fun x => sbox_foot (f' := tr0 X) e11 sk' x
  obtain ⟨z, hz⟩ := (rh.holds 0 _ rfl).bound
  have Fr : ∀ x, Foot E' W' 0 (.ro 1 Y.length (rowG encU Y)) x → x < W.heap.size := fun x hx2 => by
    have : Foot E W 0 (.ro 1 Y.length (rowG encU Y)) x := hx2.congr rfl (blkOf_ext hx.1 hz).symm
    exact Holds.blk_lt this (rh.holds 0 _ rfl)
  have F0' : ∀ x, Foot E' W' 10 (.blk 177 [.sl 11 0 3 X.length none]) x → W.heap.size ≤ x := fun x h => by rw [(F0 W' x).1 h]; exact q3
  have F1' : ∀ x, Foot E' W' 11 (.box (sbox X.length (tr0 X))) x → W.heap.size ≤ x := fun x h => by
    rcases (F1 x).1 h with h | ⟨i, hi, h⟩
    · rw [h]; exact q4
    · rw [h]; exact q5 i hi
  have hsep : ¬ Foot E' W' 11 (.box (sbox X.length (tr0 X))) t := fun h => by
    rcases (F1 t).1 h with h | ⟨i, hi, h⟩
    · exact q1.tb h
    · exact (q1.sep i hi).1 h.symm
  refine ⟨_, E', rfl, hx, ?_, ?_, ?_⟩
  · simp only [RV]; exact ⟨_, _, e10, rfl⟩
  · refine ⟨fun id o ho => ?_, fun i j o p hi hj hne hw x hx hx2 => ?_⟩
    · rcases find3 ho with ⟨rfl, rfl⟩ | ⟨rfl, _, rfl⟩ | ⟨rfl, _, _, rfl⟩
      · exact ((rh.holds 0 _ rfl).kept q2.size fun b hb => q2.block b (Holds.blk_lt hb (rh.holds 0 _ rfl))).mono hx.1
      · obtain ⟨cr, hr⟩ := q1.row
        refine ⟨t, 1, _, e10, tk_cells q1, ?_, rfl⟩
        simp only [RVs, RV]
        have hle : X.length ≤ cb := q1.cap
        exact ⟨_, _, rfl, ⟨some ⟨b, 0, none⟩, cb, e11, 0, cb, rfl, hle, by omega, fun _ => by simp, by simp⟩, rfl⟩
      · exact ⟨b, cb, e11, W', G, rfl, sk'⟩
    · rcases find3 hi with ⟨rfl, rfl⟩ | ⟨rfl, _, rfl⟩ | ⟨rfl, _, _, rfl⟩
      · cases hw
      · rcases find3 hj with ⟨rfl, rfl⟩ | ⟨rfl, _, rfl⟩ | ⟨rfl, _, _, rfl⟩
        · have := Fr x hx2; have := F0' x hx; omega
        · exact hne rfl
        · obtain rfl := (F0 W' x).1 hx; exact hsep hx2
      · rcases find3 hj with ⟨rfl, rfl⟩ | ⟨rfl, _, rfl⟩ | ⟨rfl, _, _, rfl⟩
        · have := Fr x hx2; have := F1' x hx; omega
        · obtain rfl := (F0 W' x).1 hx2; exact hsep hx
        · exact hne rfl
  · refine ⟨q2.os, q2.tape, q2.output, q2.size, fun x hlt hno => q2.block x hlt, fun id o x ho hx3 => ?_⟩
    rcases find3 ho with ⟨rfl, rfl⟩ | ⟨rfl, _, rfl⟩ | ⟨rfl, _, _, rfl⟩
    · exact .inl ⟨0, _, rfl, fun h => h, hx3.congr rfl (blkOf_ext hx.1 hz).symm⟩
    · exact .inr (F0' x hx3)
    · exact .inr (F1' x hx3)
theorem own_rowG {E : Env} {W : World} {id ty n : Nat} {row : Nat → List AV} {c : Value} (h1 : 1 ≤ n) (hh : Holds E W id (.vec ty 1 n row)) (hc : RV E (.sl id 0 1 n none) c) :
    ∃ g cg, c = .slice (some ⟨g, 0, none⟩) n cg ∧ g < W.heap.size ∧ Foot E W id (.vec ty 1 n row) g ∧ ∀ j, j < n → ∃ v, RVs E (row j) [v] ∧ W.cell? ⟨g, j, none⟩ = some v := by
  obtain ⟨b, k, xs, g1, g2, g3, g4⟩ := hh
  simp only [RV] at hc
  obtain ⟨b2, k2, h6, h7⟩ := hc
  rw [g1] at h6
  simp only [Option.some.injEq, Prod.mk.injEq] at h6
  obtain ⟨rfl, rfl⟩ := h6
  obtain ⟨g, rfl⟩ := OldD.own_pos g2 (by omega)
  obtain ⟨o, m, rfl, h8, h9, h10, h11⟩ := h7
  have : m = k := by simpa using h11
  subst this
  have ho : o = 0 := by have := h10 (by omega); simpa using this
  subst ho
  refine ⟨g, m, rfl, OldD.own_lt g2, by simp [Foot, Ob.bx, FootB, blkOf, g1], fun j hj => ?_⟩
  have hl : xs.length = n := by have := g2.1; omega
  have hj2 : j < xs.length := by omega
  refine ⟨xs[j], ?_, ?_⟩
  · have := g4 j hj
    simp only [cellsAt, Nat.mul_one] at this
    rwa [List.drop_eq_getElem_cons hj2, List.take_succ_cons, List.take_zero] at this
  · rw [World.ownsRow.cellAt g2 j (by omega)]
    exact List.getElem?_eq_getElem hj2
def encB (b : Bool) : List AV := [B b]
theorem restart_c (m : Nat) (k : Dk) (L : List Bool) (h1 : 1 ≤ L.length) (h2 : L.length ≤ 1000) (hF : k.F.length ≤ 2 ^ 32) :
    CallOK Try.prog 31 [.ptr 0 0 0 0, .sl 1 0 1 L.length none] [(0, .box (dbox m k)), (1, .vec 4 1 L.length (rowG encB L))] (.tup []) [(0, some (.box (dbox m (reK k (fun i => L.getD i false)))))] := by
  refine ⟨Try.call31, fun E W cs hcs rh _ => ?_⟩
  simp only [RVs, RV] at hcs
  obtain ⟨y, l, rfl, ⟨a0, k0, e0, rfl⟩, y3, l3, rfl, hs3, rfl⟩ := hcs
  obtain ⟨A, co, kk, e1, e2, e3, e4, e5⟩ := dbox_open (rh.holds 0 _ rfl) (c := .pointer (some ⟨a0.block, a0.off + (0 * 0 + 0), none⟩)) (by simp only [RV]; exact ⟨a0, k0, e0, rfl⟩)
  obtain ⟨g, cg, rfl, hg, hfg, hcell⟩ := own_rowG h1 (rh.holds 1 _ rfl) (by simp only [RV]; exact hs3)
  rw [e1]
  have hK : KB W (fp A co) (some ⟨g, 0, none⟩) L.length (fun i => L.getD i false) := ⟨.inr ⟨g, rfl, hg, fun hm => rh.apart 0 1 _ _ rfl rfl (by decide) rfl g ((e5 g).2 hm) hfg, fun i hi => by
      obtain ⟨v, v1, v2⟩ := hcell i hi
      simp only [rowG, encB, B, RVs, RV] at v1
      obtain ⟨y, l, e6, rfl, rfl⟩ := v1
      simp only [List.cons.injEq, and_true] at e6
      rw [v2, e6]
      simp [List.getD_eq_getElem?_getD, List.getElem?_eq_getElem hi]⟩, fun i hi => by simp [List.getD_eq_getElem?_getD, List.getElem?_eq_none hi]⟩
  refine (OldD.restart_ok e3 (some ⟨g, 0, none⟩) L.length cg _ hK (by omega) hF).mono ?_
  rintro e W' ⟨rfl, HH⟩
  obtain ⟨q1, q2⟩ := box_step (m' := m) rh rfl e2 e5 HH.out.1 e4 HH.out.2 (fun x hx => by
    rcases OldD.fp_cases hx with rfl | rfl | hb | hb | ⟨i, hi, hb⟩
    · exact .inl OldD.fp_A
    · exact .inl OldD.fp_m
    · exact .inl (OldD.fp_u hb)
    · cases hb
    · rcases hb with rfl | rfl
      · exact .inl (OldD.fp_n hi)
      · exact .inl (OldD.fp_d hi))
  exact ⟨_, E, rfl, Ext.refl E, by simp [RV, RVs], q1, q2⟩
end Go.Proofs.Ytbgbjgedjmhcaaa
