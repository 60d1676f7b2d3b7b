/- Arrays that are made, filled, and looked at: New, Load, Image. No conditions but those of each theorem. -/
import Derived.Test.YtbgbjgedjmhcaaaD2
import Derived.Test.YtbgbjgedjmhcaaaD3
namespace Go.Proofs.Ytbgbjgedjmhcaaa
open Go.RowKit
open OldD (DA Dk Co fp Gr Row Fresh hid hd hs gu nk good ldK ge vu Ar un stF)
set_option linter.unusedVariables false
set_option linter.unusedSimpArgs false
/-- an array changes, beside other objects -/
theorem box_step {E : Env} {h : Hp} {W W' : World} {m m' A kk : Nat} {k k' : Dk} {co c' : Co} (r : RH E h W) (hf : find h 0 = some (.box (dbox m k))) (hE : E 0 = some (some ⟨A, 0, none⟩, kk))
    (hft : ∀ b, Foot E W 0 (.box (dbox m k)) b ↔ b ∈ fp A co) (q1 : DA W' A c' k') (q2 : c'.mn ≤ m') (q3 : Gr (fp A co) W W') (q4 : Fresh W A co c') :
    RH E (upd h 0 (.box (dbox m' k'))) W' ∧ Mod E h W E (upd h 0 (.box (dbox m' k'))) W' := by
  obtain ⟨p1, p2⟩ := dbox_holds (E := E) hE q1 q2
  have hu : ∀ x y, x ≠ 0 → find (upd h 0 (.box (dbox m' k'))) x = some y → find h x = some y := fun x y hx hy => by
    rw [find_upd, if_neg (fun e => hx e.symm)] at hy; exact hy
  have h0 : ∀ y, find (upd h 0 (.box (dbox m' k'))) 0 = some y → y = .box (dbox m' k') := fun y hy => by
    rw [find_upd, if_pos rfl] at hy; exact (Option.some.inj hy).symm
  have hk : ∀ x y, x ≠ 0 → find h x = some y → (∀ b, Foot E W x y b → b < W.heap.size ∧ b ∉ fp A co ∧ W'.heap[b]? = W.heap[b]?) := fun x y hx hy b hb => by
    have h1 := Holds.blk_lt hb (r.holds x y hy)
    have h2 : b ∉ fp A co := fun hm => r.apart 0 x _ y hf hy (fun e => hx e.symm) rfl b ((hft b).2 hm) hb
    exact ⟨h1, h2, q3.block b h1 h2⟩
  have hfk : ∀ x y, x ≠ 0 → find h x = some y → ∀ b, Foot E W' x y b → Foot E W x y b := fun x y hx hy b hb => Foot.kept q3.size (fun b hb => (hk x y hx hy b hb).2.2) (r.holds x y hy) b hb
  refine ⟨⟨fun x y hy => ?_, fun x y o p hx hy hne hw b hb hb2 => ?_⟩, ⟨q3.os, q3.tape, q3.output, q3.size, fun b hlt hno => q3.block b hlt fun hb => hno 0 _ hf rfl ((hft b).2 hb), fun x y b hy hb => ?_⟩⟩
  · by_cases e : x = 0
    · subst e; rw [h0 y hy]; exact p1
    · exact (r.holds x y (hu x y e hy)).kept q3.size fun b hb => (hk x y e (hu x y e hy) b hb).2.2
  · have key : ∀ x y o p, find (upd h 0 (.box (dbox m' k'))) x = some o → find (upd h 0 (.box (dbox m' k'))) y = some p → x = 0 → y ≠ 0 → Foot E W' x o b → Foot E W' y p b → False := fun x y o p hx hy e0 e1 hb hb2 => by
      subst e0
      rw [h0 o hx] at hb
      obtain ⟨g1, g2, _⟩ := hk y p e1 (hu y p e1 hy) b (hfk y p e1 (hu y p e1 hy) b hb2)
      rcases q4 b (p2 b hb) with h | h
      · exact g2 h
      · omega
    by_cases e0 : x = 0
    · exact key x y o p hx hy e0 (fun e => hne (e0.trans e.symm)) hb hb2
    · by_cases e1 : y = 0
      · exact key y x p o hy hx e1 e0 hb2 hb
      · exact r.apart x y o p (hu x o e0 hx) (hu y p e1 hy) hne hw b (hfk x o e0 (hu x o e0 hx) b hb) (hfk y p e1 (hu y p e1 hy) b hb2)
  · by_cases e : x = 0
    · subst e
      rw [h0 y hy] at hb
      rcases q4 b (p2 b hb) with h | h
      · exact .inl ⟨0, _, hf, fun _ => rfl, (hft b).2 h⟩
      · exact .inr h
    · exact .inl ⟨x, y, hu x y e hy, fun h => h, hfk x y e (hu x y e hy) b hb⟩
theorem row_of {E : Env} {W : World} {id n : Nat} {row : Nat → List AV} {c : Value} (hh : Holds E W id (.ro 1 n row)) (hc : RV E (.sl id 0 1 n none) c) :
    ∃ a cap, c = .slice a n cap ∧ (n = 0 ∨ ∃ b off, a = some ⟨b, off, none⟩ ∧ b < W.heap.size ∧ ∀ j, j < n → ∃ v, RVs E (row j) [v] ∧ W.cell? ⟨b, off + j, none⟩ = some v) := by
  obtain ⟨b, k, xs, h1, h2, h3, h4, h5⟩ := hh
  simp only [RV] at hc
  obtain ⟨b2, k2, h6, h7⟩ := hc
  rw [h1] at h6
  simp only [Option.some.injEq, Prod.mk.injEq] at h6
  obtain ⟨rfl, rfl⟩ := h6
  cases b with
  | none =>
    obtain ⟨b', rfl, h8, _⟩ := h7
    exact ⟨b', 0, by rw [h8], .inl h8⟩
  | some a =>
    obtain ⟨o, m, rfl, h8, h9, h10, h11⟩ := h7
    refine ⟨_, m, rfl, ?_⟩
    by_cases h0 : n = 0
    · exact .inl h0
    · right
      have hm : m ≠ 0 := by omega
      rcases h3 with ⟨h3, _⟩ | ⟨a', ha, hlt, hk, hcell⟩
      · cases h3
      · simp only [Option.some.injEq] at ha
        subst ha
        refine ⟨a.block, o, rfl, hlt, fun j hj => ?_⟩
        have hl : j < xs.length := by omega
        refine ⟨xs[j], ?_, ?_⟩
        · have := h5 j hj
          simp only [cellsAt, Nat.mul_one] at this
          rwa [List.drop_eq_getElem_cons hl, List.take_succ_cons, List.take_zero] at this
        · rw [h10 hm, Nat.zero_mul, Nat.add_zero]
          exact hcell _ _ (List.getElem?_eq_getElem hl)
theorem new_c (X : List Int) (h8 : X.length ≤ 8) (hX : ∀ i, i < X.length → good (ge X i)) :
    CallOK Try.prog 57 [.sl 1 0 1 X.length none] [(1, .ro 1 X.length (rowG encI X))] (.tup [.ptr 10 0 0 0, I 0]) [(10, some (.box (dbox 0 (nk X))))] := by
  refine ⟨Try.call57, fun E W cs hcs rh hn => ?_⟩
  simp only [RVs] at hcs
  obtain ⟨y, l, rfl, hy, rfl⟩ := hcs
  obtain ⟨a, cap, rfl, h⟩ := row_of (rh.holds 1 _ rfl) hy
  have hA : Ar W a X := h.imp (fun h => h) fun ⟨b, off, e, hb, hcell⟩ => ⟨b, off, e, hb, fun j hj => by
    obtain ⟨v, h1, h2⟩ := hcell j hj
    simp only [rowG, encI, I, RVs, RV] at h1
    obtain ⟨y, l, e1, rfl, rfl⟩ := h1
    simp only [List.cons.injEq, and_true] at e1
    rw [h2, e1, List.getD_eq_getElem?_getD]
    rfl⟩
  refine (OldD.new_ok a cap X W h8 hX hA).mono ?_
  rintro e W' ⟨A, rfl, HH⟩
  obtain ⟨c, h1, h2, h3, h4⟩ := HH.out
  have hne := hn 10 (by simp [newIds, hasId, find, upd])
  have hxt := nw_set E 10 (some ⟨A, 0, none⟩, 0) hne
  obtain ⟨p1, p2⟩ := dbox_holds (E := fun y => if y = 10 then some (some ⟨A, 0, none⟩, 0) else E y) (id := 10) (m := 0) (kk := 0) (by simp) h2 (by omega)
  have gb : W.grownBy W' none := ⟨h3.os, h3.tape, h3.output, h3.size, fun i hi _ => h3.block i hi⟩
  obtain ⟨q1, q2⟩ := RH.change (h' := upd [(1, .ro 1 X.length (rowG encI X))] 10 (.box (dbox 0 (nk X)))) (row := none) rh hxt gb (fun b hb => by cases hb) (by rw [find_upd]; simp) (fun x hx y hy => by rw [find_upd, if_neg (fun e => hx e.symm)] at hy; exact hy) p1 (fun b hb => .inr (h4 b (p2 b hb)))
  refine ⟨_, _, rfl, hxt, ?_, q1, q2⟩
  simp only [RV, RVs, I]
  exact ⟨[.pointer (some ⟨A, 0, none⟩), .int .i64 0], rfl, _, _, rfl, ⟨⟨A, 0, none⟩, 0, by simp, rfl⟩, _, _, rfl, rfl, rfl⟩
/-- a slice of words of the call's own, as the walks tell it -/
theorem own_row {E : Env} {W : World} {id : Nat} {X : List Int} {c : Value} (h1 : 1 ≤ X.length) (hh : Holds E W id (.vec 22 1 X.length (rowG encU X))) (hc : RV E (.sl id 0 1 X.length none) c) :
    ∃ g cg, c = .slice (some ⟨g, 0, none⟩) X.length cg ∧ Row W g cg X ∧ Foot E W id (.vec 22 1 X.length (rowG encU X)) g := by
  obtain ⟨b, k, xs, g1, g2, g3, g4⟩ := hh
  simp only [RV] at hc
  obtain ⟨b2, k2, h6, h7⟩ := hc
  rw [g1] at h6
  simp only [Option.some.injEq, Prod.mk.injEq] at h6
  obtain ⟨rfl, rfl⟩ := h6
  have hxs : xs = vu X := by
    have hl : xs.length = X.length := by have := g2.1; omega
    refine List.ext_getElem (by simp [vu, hl]) fun i hi hi2 => ?_
    have := g4 i (by omega)
    simp only [cellsAt, Nat.mul_one] at this
    rw [List.drop_eq_getElem_cons hi, List.take_succ_cons, List.take_zero] at this
    simp only [rowG, encU, U, RVs, RV] at this
    obtain ⟨y, l, e1, rfl, rfl⟩ := this
    simp only [List.cons.injEq, and_true] at e1
    have hi3 : i < X.length := by omega
    rw [e1]
    simp [vu, List.getD_eq_getElem?_getD, List.getElem?_eq_getElem hi3]
  subst hxs
  obtain ⟨g, rfl⟩ := OldD.own_pos g2 (by omega)
  obtain ⟨o, m, rfl, h8, h9, h10, h11⟩ := h7
  have : m = k := by simpa using h11
  subst this
  have ho : o = 0 := by have := h10 (by omega); simpa using this
  subst ho
  exact ⟨g, m, rfl, g2, by simp [Foot, Ob.bx, FootB, blkOf, g1]⟩
theorem load_c (k : Dk) (n : Nat) (X : List Int) (hn : n < k.U.length) (hl : X.length = (gu k.U n).now.length) (h1 : 1 ≤ X.length) (hF : k.F.length ≤ 2 ^ 32) :
    CallOK Try.prog 58 [.ptr 0 0 0 0, I (n : Int), .sl 1 0 1 X.length none] [(0, .box (dbox 0 k)), (1, .vec 22 1 X.length (rowG encU X))] (I 0) [(0, some (.box (dbox 0 (ldK k n X))))] := by
  refine ⟨Try.call58, fun E W cs hcs rh _ => ?_⟩
  simp only [RVs, RV, I] at hcs
  obtain ⟨y, l, rfl, ⟨a0, k0, e0, rfl⟩, y2, l2, rfl, rfl, y3, l3, rfl, hs3, rfl⟩ := hcs
  obtain ⟨A, co, kk, e1, e2, e3, e4, e5⟩ := dbox_open (rh.holds 0 _ rfl) (c := .pointer (some ⟨a0.block, a0.off + (0 * 0 + 0), none⟩)) (by simp only [RV]; exact ⟨a0, k0, e0, rfl⟩)
  obtain ⟨g, cg, rfl, hr, hfg⟩ := own_row h1 (rh.holds 1 _ rfl) (by simp only [RV]; exact hs3)
  rw [e1]
  refine (OldD.load_ok e3 n hn g cg X hr (fun hm => rh.apart 0 1 _ _ rfl rfl (by decide) rfl g ((e5 g).2 hm) hfg) hl hF (by omega)).mono ?_
  rintro e W' ⟨rfl, HH⟩
  obtain ⟨q1, q2⟩ := box_step (m' := 0) rh rfl e2 e5 HH.out.1 e4 HH.out.2 (Fresh.refl _ _ _)
  exact ⟨_, E, rfl, Ext.refl E, by simp [RV, I], q1, q2⟩
end Go.Proofs.Ytbgbjgedjmhcaaa
