/- A call that only reads the front of a slice. No conditions but those of each theorem. -/
import Derived.Test.YtbgbjgedjmhcaaaLW
import Derived.Test.YtbgbjgedjmhcaaaLT
namespace Go.Proofs.Ytbgbjgedjmhcaaa
open Go.RowKit
set_option linter.unusedVariables false
set_option linter.unusedSimpArgs false
/-- what the call only reads may be longer -/
theorem CallOK.ro_sub {P : Program} {g : FuncId} {args : List AV} {h : Hp} {ret : AV} {outs : List (Nat × Option Ob)} (id n N : Nat) {row row2 : Nat → List AV} (h0 : 1 ≤ n) (hnN : n ≤ N) (hrow : ∀ q, q < n → row q = row2 q) (hf : find h id = some (.ro 1 n row)) (hn : notIn id (outIds outs) = true) (ha : allOwned outs = true) (c : CallOK P g args h ret outs) : CallOK P g args (upd h id (.ro 1 N row2)) ret outs := by
  have hn' : id ∉ outIds outs := fun hm => by have := allB_ok hn id hm; simp at this
  have hh : hasId h id = true := by unfold hasId; rw [hf]
  obtain ⟨a1, a2, a3⟩ := apply_beside id (.ro 1 N row2) outs h (upd h id (.ro 1 N row2)) hn' hh (fun x => by
    rw [find_upd]
    by_cases e : id = x
    · rw [if_pos e, if_pos e.symm]
    · rw [if_neg e, if_neg (fun e' => e e'.symm)])
  refine ⟨c.1, fun E W cargs hargs rh hfr => ?_⟩
  rw [a2] at hfr ⊢
  have hv := rh.holds id (.ro 1 N row2) (by rw [find_upd, if_pos rfl])
  have hro : Holds E W id (.ro 1 n row) := by
    obtain ⟨b, k, xs, h1, h2, h3, h4, h5⟩ := hv
    refine ⟨b, k, xs.take n, h1, by rw [List.length_take]; omega, ?_, fun u hu => h4 u (List.mem_of_mem_take hu), fun p hp => ?_⟩
    · rcases h3 with ⟨_, e, _⟩ | ⟨a, e1, e2, e3, e4⟩
      · omega
      · refine .inr ⟨a, e1, e2, by omega, fun j u hu => e4 j u ?_⟩
        rw [List.getElem?_take] at hu
        split at hu
        · exact hu
        · cases hu
    · rw [hrow p hp]
      have := h5 p (by omega)
      have e : cellsAt (xs.take n) 1 p = cellsAt xs 1 p := by
        unfold cellsAt
        rw [Nat.mul_one, List.drop_take, List.take_take]
        congr 1
        omega
      rw [e]
      exact this
  have hrest : ∀ x o, x ≠ id → find h x = some o → find (upd h id (.ro 1 N row2)) x = some o := fun x o hx ho => by
    rw [find_upd, if_neg (fun e => hx e.symm)]; exact ho
  have hid : find (upd h id (.ro 1 N row2)) id = some (.ro 1 N row2) := by rw [find_upd, if_pos rfl]
  have rh0 : RH E h W := by
    refine ⟨fun x o ho => ?_, fun i j o p hi hj hne hw b hb hb2 => ?_⟩
    · by_cases e : x = id
      · subst e; rw [hf] at ho; obtain rfl := Option.some.inj ho; exact hro
      · exact rh.holds x o (hrest x o e ho)
    · have hi' : i ≠ id := fun e => by subst e; rw [hf] at hi; obtain rfl := Option.some.inj hi; cases hw
      by_cases e : j = id
      · subst e
        rw [hf] at hj; obtain rfl := Option.some.inj hj
        exact rh.apart i j o _ (hrest i o hi' hi) hid hne hw b hb (hb2.congr rfl rfl)
      · exact rh.apart i j o p (hrest i o hi' hi) (hrest j p e hj) hne hw b hb hb2
  refine (c.2 E W cargs hargs rh0 hfr).mono ?_
  rintro e W' ⟨cv, E', rfl, hx, hvr, hh', hm⟩
  have hbid : blkOf E' id = blkOf E id := by
    obtain ⟨z, hz⟩ := hv.bound
    exact blkOf_ext hx.1 hz
  have hvec' : Holds E' W' id (.ro 1 N row2) := by
    refine (hv.mono hx.1).kept hm.size fun b hb => ?_
    have hb := hb.cg hbid.symm
    refine hm.old b (Holds.blk_lt hb hv) fun i o hi hw hib => ?_
    have hi' : i ≠ id := fun e => by subst e; rw [hf] at hi; obtain rfl := Option.some.inj hi; cases hw
    exact rh.apart i id o _ (hrest i o hi' hi) hid hi' hw b hib hb
  have hold : ∀ x o b, x ≠ id → find (applyO h outs) x = some o → Foot E' W' x o b → o.owned = true → ¬ Foot E' W' id (.ro 1 N row2) b := fun x o b hx' ho hb hw hb2 => by
    have hb2 : Foot E W id (.ro 1 N row2) b := (hb2.cg hbid.symm).plain rfl
    rcases hm.own x o b ho hb with ⟨i, p, p1, p2, p3⟩ | hge
    · have hp := p2 hw
      have hi' : i ≠ id := fun e => by subst e; rw [hf] at p1; obtain rfl := Option.some.inj p1; cases hp
      exact rh.apart i id p _ (hrest i p hi' p1) hid hi' hp b p3 hb2
    · have := Holds.blk_lt hb2 hv; omega
  refine ⟨cv, E', rfl, hx, hvr, ⟨fun x o ho => ?_, fun i j o p hi hj hne hw b hb hb2 => ?_⟩, ⟨hm.os, hm.tape, hm.output, hm.size, fun b hb hno => hm.old b hb fun i o hi hw => ?_, fun x o b ho hb => ?_⟩⟩
  · rw [a1] at ho
    by_cases e : x = id
    · subst e; rw [if_pos rfl] at ho; obtain rfl := Option.some.inj ho; exact hvec'
    · rw [if_neg e] at ho; exact hh'.holds x o ho
  · rw [a1] at hi hj
    by_cases ei : i = id
    · subst ei
      rw [if_pos rfl] at hi
      obtain rfl := Option.some.inj hi
      cases hw
    · rw [if_neg ei] at hi
      by_cases ej : j = id
      · subst ej; rw [if_pos rfl] at hj; obtain rfl := Option.some.inj hj; exact hold i o b ei hi hb hw hb2
      · rw [if_neg ej] at hj; exact hh'.apart i j o p hi hj hne hw b hb hb2
  · have hi' : i ≠ id := fun e => by subst e; rw [hf] at hi; obtain rfl := Option.some.inj hi; cases hw
    exact hno i o (hrest i o hi' hi) hw
  · rw [a1] at ho
    by_cases e : x = id
    · subst e
      rw [if_pos rfl] at ho
      obtain rfl := Option.some.inj ho
      exact .inl ⟨x, _, hid, fun h => h, (hb.cg hbid.symm).plain rfl⟩
    · rw [if_neg e] at ho
      refine (hm.own x o b ho hb).imp_left fun ⟨i, p, p1, p2, p3⟩ => ?_
      by_cases ei : i = id
      · subst ei; rw [hf] at p1; obtain rfl := Option.some.inj p1; exact ⟨i, _, hid, p2, p3⟩
      · exact ⟨i, p, hrest i p ei p1, p2, p3⟩
end Go.Proofs.Ytbgbjgedjmhcaaa
namespace Go.Proofs.Ytbgbjgedjmhcaaa
open Go.RowKit
open OldD (Dk Un gu)
set_option linter.unusedVariables false
set_option linter.unusedSimpArgs false
def frontL (X : List Int) : List Int := [X.getD 0 default, X.getD 1 default, X.getD 2 default, X.getD 3 default, X.getD 4 default, X.getD 5 default, X.getD 6 default, X.getD 7 default]
theorem front_wf {X : List Int} (h : Wf X) : Wf (frontL X) := by
  intro x hx
  simp only [frontL, List.mem_cons, List.not_mem_nil, or_false] at hx
  rcases hx with rfl | rfl | rfl | rfl | rfl | rfl | rfl | rfl <;> exact h.at _
theorem fw_cases (a0 a1 a2 a3 a4 a5 a6 a7 : Int) (hw : Wf [a0, a1, a2, a3, a4, a5, a6, a7]) :
    (∃ e : Int, e ≠ 0 ∧
      CallOK Try.prog 19 [.sl 1 0 1 8 none] [(1, .ro 1 8 (rowG encU [a0, a1, a2, a3, a4, a5, a6, a7]))] (.tup [noL, I e]) [] ∧
      CallOK Try.prog 20 [.sl 1 0 1 8 none] [(1, .ro 1 8 (rowG encU [a0, a1, a2, a3, a4, a5, a6, a7]))] (.tup [noL, I e]) []) ∨
    (∃ i s t a g : Int,
      CallOK Try.prog 19 [.sl 1 0 1 8 none] [(1, .ro 1 8 (rowG encU [a0, a1, a2, a3, a4, a5, a6, a7]))] (.tup [.agg [U i, I s, I t, I a, U g], I 0]) [] ∧
      CallOK Try.prog 20 [.sl 1 0 1 8 none] [(1, .ro 1 8 (rowG encU [a0, a1, a2, a3, a4, a5, a6, a7]))] (.tup [.agg [U i, I s, I t, I a, U g], I 0]) []) := by
  have h1 : Wd a1 := hw a1 (by simp)
  have h2 : Wd a2 := hw a2 (by simp)
  have h3 : Wd a3 := hw a3 (by simp)
  have h4 : Wd a4 := hw a4 (by simp)
  have h5 : Wd a5 := hw a5 (by simp)
  by_cases hf : a0 ≠ mgc ∨ a7 ≠ 0
  · exact .inl ⟨2, by decide, fw_form _ _ _ _ _ _ _ _ hf, rfw_form _ _ _ _ _ _ _ _ hf⟩
  · obtain ⟨e0, e7⟩ : a0 = mgc ∧ a7 = 0 := ⟨Classical.not_not.1 fun h => hf (.inl h), Classical.not_not.1 fun h => hf (.inr h)⟩
    subst e0 e7
    by_cases hs : a6 = sumL a1 a2 a3 a4 a5
    · subst hs
      have p := fw_tail a1 a2 a3 a4 a5 h1 h2 h3 h4 h5
      have r := rfw_tail a1 a2 a3 a4 a5 h1 h2 h3 h4 h5
      by_cases hk : lbOK a2 a3 a4
      · rw [if_pos hk] at p r
        exact .inr ⟨_, _, _, _, _, p, r⟩
      · rw [if_neg hk] at p r
        exact .inl ⟨1, by decide, p, r⟩
    · exact .inl ⟨11, by decide, fw_sum _ _ _ _ _ _ h1 h2 h3 h4 h5 hs, rfw_sum _ _ _ _ _ _ h1 h2 h3 h4 h5 hs⟩
theorem front_sub {g : FuncId} {X : List Int} {ret : AV} (h8 : 8 ≤ X.length) (c : CallOK Try.prog g [.sl 1 0 1 8 none] [(1, .ro 1 8 (rowG encU (frontL X)))] ret []) : CallOK Try.prog g [.sl 1 0 1 8 none] [(1, .ro 1 X.length (rowG encU X))] ret [] :=
  c.ro_sub 1 8 X.length (row := rowG encU (frontL X)) (row2 := rowG encU X) (by decide) h8 (fun q hq => match q, hq with | 0, _ | 1, _ | 2, _ | 3, _ | 4, _ | 5, _ | 6, _ | 7, _ => rfl) rfl rfl rfl
theorem rd_cases (X : List Int) (k : Dk) {c : Nat} {w : Nat → Int} {f : Int} {T : Nat → Prop} (hw : Wf X) (h8 : 8 ≤ X.length ∧ X.length ≤ 1000) (q : Q1 k X.length c (fun t => X.getD t default) w f T) :
    (∃ e : Int, e ≠ 0 ∧
      CallOK Try.prog 23 [.ifc 170 (.agg [.ptr 0 0 0 0, I 0, I 0, I X.length])] [(0, .box (dbox 0 k))] (.tup [noL, I e]) [(0, some (.box (dbox 0 k)))] ∧
      CallOK Try.prog 20 [.sl 1 0 1 8 none] [(1, .ro 1 X.length (rowG encU X))] (.tup [noL, I e]) []) ∨
    (∃ i s t a g : Int, ¬ s > (X.length : Int) ∧
      CallOK Try.prog 23 [.ifc 170 (.agg [.ptr 0 0 0 0, I 0, I 0, I X.length])] [(0, .box (dbox 0 k))] (.tup [.agg [U i, I s, I t, I a, U g], I 0]) [(0, some (.box (dbox 0 k)))] ∧
      CallOK Try.prog 20 [.sl 1 0 1 8 none] [(1, .ro 1 X.length (rowG encU X))] (.tup [.agg [U i, I s, I t, I a, U g], I 0]) []) ∨
    (∃ i s t a g : Int, s > (X.length : Int) ∧
      CallOK Try.prog 23 [.ifc 170 (.agg [.ptr 0 0 0 0, I 0, I 0, I X.length])] [(0, .box (dbox 0 k))] (.tup [noL, I 3]) [(0, some (.box (dbox 0 k)))] ∧
      CallOK Try.prog 20 [.sl 1 0 1 8 none] [(1, .ro 1 X.length (rowG encU X))] (.tup [.agg [U i, I s, I t, I a, U g], I 0]) []) := by
  have e8 : rdP k 8 = frontL X := rdP_eq q h8.1
  rcases fw_cases _ _ _ _ _ _ _ _ (front_wf hw) with ⟨e, he, p, r⟩ | ⟨i, s, t, a, g, p, r⟩
  · exact .inl ⟨e, he, lread_err 0 k X.length q.g q.dn h8 (frontL X) e8 e he p, front_sub h8.1 r⟩
  · have rd := lread_lab 0 k X.length q.g q.dn h8 (frontL X) e8 i s t a g p
    by_cases hs : s ≤ (X.length : Int)
    · rw [if_pos hs] at rd
      exact .inr (.inl ⟨i, s, t, a, g, by omega, rd, front_sub h8.1 r⟩)
    · rw [if_neg hs] at rd
      exact .inr (.inr ⟨i, s, t, a, g, by omega, rd, front_sub h8.1 r⟩)
end Go.Proofs.Ytbgbjgedjmhcaaa
namespace Go.Proofs.Ytbgbjgedjmhcaaa
open Go.RowKit
open OldD (Dk Un gu ge)
set_option linter.unusedVariables false
set_option linter.unusedSimpArgs false
theorem unf0 (m : Nat) (k : Dk) {N c : Nat} {v w : Nat → Int} {f : Int} (q : Q1 k N c v w f (fun _ => False)) : CallOK Try.prog 27 [.ptr 0 0 0 0] [(0, .box (dbox m k))] (I 0) [(0, some (.box (dbox m k)))] := by
  have e : k.F = [] := by
    cases h : k.F with
    | nil => rfl
    | cons x l => exact (q.ft x (by rw [h]; simp)).elim
  have u := unfl_c m k
  rw [e] at u
  exact u
/-- the words of a device under a new label -/
def newL (i s t a g : Int) (X : List Int) : List Int := wdL i s t a g ++ X.drop 8
theorem newL_len (i s t a g : Int) {X : List Int} (h8 : 8 ≤ X.length) : (newL i s t a g X).length = X.length := by
  unfold newL
  rw [List.length_append, List.length_drop]
  show 8 + (X.length - 8) = X.length
  omega
theorem newL_at (i s t a g : Int) {X : List Int} (j : Nat) : (newL i s t a g X).getD j default = if j < 8 then (wdL i s t a g).getD j default else X.getD j default := by
  unfold newL
  rw [List.getD_eq_getElem?_getD, List.getElem?_append]
  have e : (wdL i s t a g).length = 8 := rfl
  rw [e]
  split
  · rw [List.getD_eq_getElem?_getD]
  · rw [List.getElem?_drop, List.getD_eq_getElem?_getD]
    congr 2
    omega
theorem now_eq {k : Dk} {N c : Nat} {v w : Nat → Int} {f : Int} {T : Nat → Prop} (q : Q1 k N c v w f T) (Y : List Int) (hl : Y.length = N) (h : ∀ t, t < N → v t = Y.getD t default) : (gu k.U 0).now = Y := by
  have l := (q.g.ln 0 (by omega)).1
  refine List.ext_getElem (by rw [l, hl]) fun t h1 h2 => ?_
  have e := q.nv t (by omega)
  rw [h t (by omega)] at e
  unfold nw ge at e
  rw [List.getElem?_eq_getElem h1, List.getD_eq_getElem?_getD, List.getElem?_eq_getElem h2] at e
  exact e
theorem now_new {k : Dk} {c : Nat} {w : Nat → Int} {f : Int} {T : Nat → Prop} (i s t a g : Int) (X : List Int) (h8 : 8 ≤ X.length) (q : Q1 k X.length c (wrV i s t a g (sumL i s t a g) (fun t => X.getD t default)) w f T) : (gu k.U 0).now = newL i s t a g X :=
  now_eq q _ (newL_len i s t a g h8) fun j hj => by
    rw [newL_at]
    rfl
theorem img_new {k : Dk} {c : Nat} {w : Nat → Int} {f : Int} {T : Nat → Prop} (i s t a g : Int) (X : List Int) (h8 : 8 ≤ X.length) (q : Q1 k X.length c (wrV i s t a g (sumL i s t a g) (fun t => X.getD t default)) w f T) :
    CallOK Try.prog 26 [.ptr 0 0 0 0, I 0] [(0, .box (dbox 0 k))] (.tup [.sl 10 0 1 X.length none, I 0]) [(10, some (.vec 22 1 X.length (rowG encU (newL i s t a g X))))] := by
  have := image_c 0 k 0 _ (now_new i s t a g X h8 q) (by rw [q.g.ul]; decide)
  rw [newL_len i s t a g h8] at this
  exact this
theorem img_old {k : Dk} {c : Nat} {w : Nat → Int} {f : Int} {T : Nat → Prop} (X : List Int) (q : Q1 k X.length c (fun t => X.getD t default) w f T) :
    CallOK Try.prog 26 [.ptr 0 0 0 0, I 0] [(0, .box (dbox 0 k))] (.tup [.sl 10 0 1 X.length none, I 0]) [(10, some (.vec 22 1 X.length (rowG encU X)))] :=
  image_c 0 k 0 _ (now_eq q X rfl fun j hj => rfl) (by rw [q.g.ul]; decide)
theorem same_self (X : List Int) (hl : X.length ≤ 1000000) : CallOK Try.prog 16 [.sl 0 0 1 X.length none, .sl 1 0 1 X.length none] [(0, .ro 1 X.length (rowG encU X)), (1, .ro 1 X.length (rowG encU X))] (B true) [] := by
  have sm := same_any X X hl hl
  rw [decide_eq_true rfl] at sm
  exact sm
theorem same_new (i s t a g : Int) (X : List Int) (hx : 8 ≤ X.length ∧ X.length ≤ 40) : CallOK Try.prog 16 [.sl 0 0 1 X.length none, .sl 1 0 1 (7 + 1 + (X.length - 8)) none] [(0, .ro 1 X.length (rowG encU (newL i s t a g X))), (1, .ro 1 (7 + 1 + (X.length - 8)) (catR 8 (rowG encU (wdL i s t a g)) (fun q => rowG encU X (7 + 1 + q))))] (B true) [] := by
  have e : 7 + 1 + (X.length - 8) = X.length := by omega
  rw [e]
  have sm := same_self (newL i s t a g X) (by rw [newL_len i s t a g hx.1]; omega)
  rw [newL_len i s t a g hx.1] at sm
  refine sm.sim fun id => ?_
  have hr : ∀ q, q < X.length → rowG encU (newL i s t a g X) q = catR 8 (rowG encU (wdL i s t a g)) (fun q => rowG encU X (7 + 1 + q)) q := fun q hq => by
    rw [catR_at]
    show [U ((newL i s t a g X).getD q default)] = _
    rw [newL_at]
    split
    · rfl
    · show _ = [U (X.getD (7 + 1 + (q - 8)) default)]
      have e2 : 7 + 1 + (q - 8) = q := by omega
      rw [e2]
  simp only [find]
  split
  · exact OSim.refl _
  · split
    · exact ⟨⟨rfl, rfl, fun q hq => hr q hq⟩, rfl, rfl, fun q hq => (hr q hq).symm⟩
    · exact OSim.refl _
theorem nag3 (c0 c1 c2 c3 c4 : Int) : ¬ ((!(decide (c0 = c0) && (decide (c1 = c1) && (decide (c2 = c2) && (decide (c3 = c3) && (decide (c4 = c4) && true)))))) = true) := by simp
/-- a device with one disk, erased -/
theorem er0 {k : Dk} {N c : Nat} {v : Nat → Int} (q : Q1 k N c v v 0 (fun _ => False)) (hc : c ≤ 1000) (hN : 8 ≤ N ∧ N ≤ 1000) : ∃ k2 : Dk,
    CallOK Try.prog 24 [.ifc 170 (.agg [.ptr 0 0 0 0, I 0, I 0, I N])] [(0, .box (dbox 0 k))] (I 0) [(0, some (.box (dbox 0 k2)))] ∧
    CallOK Try.prog 27 [.ptr 0 0 0 0] [(0, .box (dbox 0 k2))] (I 0) [(0, some (.box (dbox 0 k2)))] ∧
    CallOK Try.prog 23 [.ifc 170 (.agg [.ptr 0 0 0 0, I 0, I 0, I N])] [(0, .box (dbox 0 k2))] (.tup [noL, I 2]) [(0, some (.box (dbox 0 k2)))] := by
  have e := lerase_ok 0 k N q.bc hc hN
  rcases le_run q hN.1 with ⟨h0, f', q2, _⟩ | ⟨h, _⟩
  · rw [h0] at e
    refine ⟨seqK k leA, e, unf0 0 _ q2, lread_0 0 _ N q2.g q2.dn hN ?_⟩
    rw [q2.nv 0 (by omega)]
    show (0 : Int) ≠ mgc
    decide
  · exact absurd rfl h
/-- a device with one disk, a label written -/
theorem wr0 {k : Dk} {X : List Int} (q : Q1 k X.length 0 (fun t => X.getD t default) (fun t => X.getD t default) 0 (fun _ => False)) (hN : 8 ≤ X.length ∧ X.length ≤ 1000) (i s t a g : Int) (hi : Wd i) (hg : Wd g) (hk : lbOK s t a) (hs : s ≤ X.length) : ∃ k1 : Dk,
    CallOK Try.prog 25 [.ifc 170 (.agg [.ptr 0 0 0 0, I 0, I 0, I X.length]), .agg [U i, I s, I t, I a, U g]] [(0, .box (dbox 0 k))] (I 0) [(0, some (.box (dbox 0 k1)))] ∧
    Q1 k1 X.length 9 (wrV i s t a g (sumL i s t a g) (fun t => X.getD t default)) (wrV i s t a g (sumL i s t a g) (fun t => X.getD t default)) 0 (fun _ => False) := by
  have lw := lwrite_ok 0 k X.length i s t a g q.bc (by omega) hN hi hg hk hs (sumL i s t a g) rfl
  rcases lw_run q hN.1 i s t a g (sumL i s t a g) with ⟨e, f', q1, hf⟩ | ⟨e, _⟩
  · rw [e] at lw
    obtain rfl := hf rfl
    exact ⟨_, lw, q1⟩
  · exact absurd rfl e
end Go.Proofs.Ytbgbjgedjmhcaaa
