/- The builtin copy of a whole row of words; unflushed writes laid over what is durable. No conditions but those of each theorem. -/
import Derived.Test.YtfaeieeokelokaaS
namespace Go.Proofs.Ytfaeieeokelokaa
open Go.ChangeShapes Go.WideShapes Go.ChangeAt Go.RowKit
set_option linter.unusedVariables false
set_option linter.unusedSimpArgs false
theorem wpList_copy_run {P : Program} (w : World) {ops : Array Oper} {rest : List Oper} {o : Oper} {a : Act} {Q : Exit → Act → World → Prop} (hg : o.guard = none) (s x : Operand) (t t' : TypeId)
    (ho : o.op = .call { callee := .builtin .copy, args := #[s, x], argTypes := #[t, t'] }) (v vx v' : Value) (w' : World) (hs : a.eval s = v) (hx : a.eval x = vx)
    (hrun : (Builtin.copy_ #[t, t'] o.type #[v, vx]).run P w = .ok v' w') (hK : wpList P ops Q rest (a.put o.dst v') w') : wpList P ops Q (o :: rest) a w := by
  refine wpList_plain hg fun K' hK' => ?_
  unfold Oper.wp
  simp [execOp, ho, resolve, invoke, builtin, hs, hx, hrun, Result.andThen, Oper.upon]
  exact hK' _ _ hK
theorem Row.copy {w : World} {p cp q cq : Nat} {D N : List Int} (hD : Row w p cp D) (hN : Row w q cq N) (hl : D.length = N.length) (h1 : 1 ≤ N.length) (ty : TypeId) :
    ∃ w', (Builtin.copy_ #[36, 36] ty #[.slice (some ⟨p, 0, none⟩) N.length cp, .slice (some ⟨q, 0, none⟩) N.length cq]).run Try.prog w = .ok (goInt N.length) w' ∧ Row w' p cp N ∧ Gr [p] w w' := by
  rcases hD.2 with ⟨h2, _⟩ | ⟨g, cap, cur, h2, hb, hg, hnc, hcm, hcs, htake⟩
  · simp at h2
  · simp only [Value.slice.injEq, Option.some.injEq, Addr.mk.injEq, and_true, true_and] at h2
    obtain ⟨rfl, rfl⟩ := h2
    have hvl := vu_len N
    have hrun := run_copy_row (P := Try.prog) w 36 36 ty 26 p 0 N.length cp ⟨q, 0, none⟩ N.length cq cur 26 (vu N) Try.underlying36 (by kernel_rfl) hg (by rw [hvl]; simp) hN.news (by rw [hvl, hcs]; omega) (one_vu N)
    rw [hvl] at hrun
    refine ⟨_, hrun, ⟨by rw [hvl]; omega, .inr ⟨p, cp, _, rfl, hb, setRow_heap _ _ _ _ _ _ hg, by omega, hcm, ?_, ?_⟩⟩, ?_⟩
    · simp [hvl]; omega
    · rw [List.toList_toArray, Nat.mul_one]
      rw [List.take_zero, List.nil_append, List.take_left' hvl]
    · exact ⟨rfl, rfl, rfl, by simp [World.setRow], fun k hk hn => setRow_other _ _ _ _ (by intro e; apply hn; rw [e]; simp)⟩
theorem Row.kp {R : List Nat} {w w' : World} {g c : Nat} {X : List Int} (h : Row w g c X) (hk : Kp R w w') (hg : g ∈ R) : Row w' g c X := by
  refine ⟨h.1, ?_⟩
  rcases h.2 with hn | ⟨g', cap, cur, e, hb, hgg, rest⟩
  · exact .inl hn
  · refine .inr ⟨g', cap, cur, e, hb, ?_, rest⟩
    simp only [Value.slice.injEq, Option.some.injEq, Addr.mk.injEq, and_true, true_and] at e
    rw [← e.1, hk.2 g hg, e.1]
    exact hgg
/-- writes laid over a row -/
def ap (F : List Wr) (X : List Int) : List Int := F.foldl (fun X w => X.set w.at' w.v) X
theorem ap_app (F : List Wr) (w : Wr) (X : List Int) : ap (F ++ [w]) X = (ap F X).set w.at' w.v := by unfold ap; rw [List.foldl_append]; rfl
theorem ap_len (F : List Wr) (X : List Int) : (ap F X).length = X.length := by
  unfold ap
  induction F generalizing X with
  | nil => rfl
  | cons w F ih => rw [List.foldl_cons, ih, List.length_set]
theorem ge_set (X : List Int) (i : Nat) (v : Int) (j : Nat) : ge (X.set i v) j = if i = j ∧ i < X.length then v else ge X j := by
  unfold ge
  rw [List.getElem?_set]
  by_cases h : i = j
  · subst h
    by_cases h2 : i < X.length
    · simp [h2]
    · simp [h2, List.getElem?_eq_none (Nat.not_lt.1 h2)]
  · rw [if_neg h, if_neg (by omega)]
theorem ap_at (F : List Wr) (X : List Int) (j : Nat) (h : ∀ w ∈ F, w.at' ≠ j) : ge (ap F X) j = ge X j := by
  unfold ap
  induction F generalizing X with
  | nil => rfl
  | cons w F ih =>
    rw [List.foldl_cons, ih _ (fun w' hw' => h w' (List.mem_cons_of_mem _ hw')), ge_set, if_neg (fun e => h w (List.mem_cons_self ..) e.1)]
theorem stU_ap (U : List Un) (h : 0 < U.length) : ∀ (F : List Wr), (∀ w ∈ F, w.d = 0) → (gu (stU 0 true U F) 0).dur = ap F (gu U 0).dur := by
  have key : ∀ (F : List Wr) (V : List Un), 0 < V.length → (∀ w ∈ F, w.d = 0) → (gu (stU 0 true V F) 0).dur = ap F (gu V 0).dur := by
    intro F
    induction F with
    | nil => intro V _ _; rfl
    | cons w F ih =>
      intro V hV hF
      show (gu (stU 0 true (if w.d = 0 ∧ true = true then V.set 0 { gu V 0 with dur := (gu V 0).dur.set w.at' w.v } else V) F) 0).dur = _
      rw [if_pos ⟨hF w (List.mem_cons_self ..), rfl⟩, ih _ (by rw [List.length_set]; exact hV) (fun w' hw' => hF w' (List.mem_cons_of_mem _ hw')), gu_set, if_pos ⟨rfl, hV⟩]
      rfl
  exact fun F => key F U h
/-- the row behind the first j writes' sectors read what is durable -/
theorem rs1_all (F : List Wr) (kp : Nat → Bool) (U : List Un) (hU : 0 < U.length) (hF : ∀ w ∈ F, w.d = 0) (hk : ∀ i, i < F.length → kp i = true) : ∀ j, j ≤ F.length → (gu (rs1 F kp U j) 0).dur = ap (F.take j) (gu U 0).dur := by
  intro j
  induction j with
  | zero => intro _; simp [rs1, ap]
  | succ j ih =>
    intro hj
    have hd : (gf F j).d = 0 := hF _ (gf_mem hj)
    have hk1 := rs1_keep F kp U j
    unfold rs1
    rw [if_pos (hk j hj), hd, gu_set, if_pos ⟨rfl, by rw [hk1.1]; exact hU⟩]
    show (gu (rs1 F kp U j) 0).dur.set _ _ = _
    rw [ih (by omega), List.take_succ_eq_append_getElem hj, ap_app]
    unfold gf
    rw [List.getElem?_eq_getElem hj]
    rfl
theorem rs1_none (F : List Wr) (U : List Un) : ∀ j, rs1 F (fun _ => false) U j = U := by
  intro j
  induction j with
  | zero => rfl
  | succ j ih => unfold rs1; rw [if_neg (by simp)]; exact ih
theorem rs2_same (F : List Wr) (U : List Un) (hU : 0 < U.length) (hF : ∀ w ∈ F, w.d = 0) (h : (gu U 0).dur = (gu U 0).now) : ∀ j, j ≤ F.length → (gu (rs2 F U j) 0).now = (gu U 0).now := by
  intro j
  induction j with
  | zero => intro _; rfl
  | succ j ih =>
    intro hj
    have hd : (gf F j).d = 0 := hF _ (gf_mem hj)
    have hk := rs2_keep F U j
    unfold rs2
    rw [hd, gu_set, if_pos ⟨rfl, by rw [hk.1]; exact hU⟩]
    show (gu (rs2 F U j) 0).now.set _ (ge (gu (rs2 F U j) 0).dur _) = _
    rw [ih (by omega), (hk.2 0).1, h]
    apply List.ext_getElem?
    intro i
    rw [List.getElem?_set]
    split
    · rename_i e
      subst e
      split
      · rename_i h2; unfold ge; rw [List.getElem?_eq_getElem h2]; rfl
      · rename_i h2; rw [List.getElem?_eq_none (Nat.not_lt.1 h2)]
    · rfl
theorem rs2_at (F : List Wr) (U : List Un) (hU : 0 < U.length) (hF : ∀ w ∈ F, w.d = 0) (hl : (gu U 0).dur.length = (gu U 0).now.length) (x : Nat) (hx : x < (gu U 0).now.length) : ∀ j, j ≤ F.length → ge (gu (rs2 F U j) 0).now x = if ∃ w ∈ F.take j, w.at' = x then ge (gu U 0).dur x else ge (gu U 0).now x := by
  intro j
  induction j with
  | zero => intro _; simp [rs2]
  | succ j ih =>
    intro hj
    have hd : (gf F j).d = 0 := hF _ (gf_mem hj)
    have hk := rs2_keep F U j
    unfold rs2
    rw [hd, gu_set, if_pos ⟨rfl, by rw [hk.1]; exact hU⟩]
    show ge ((gu (rs2 F U j) 0).now.set _ (ge (gu (rs2 F U j) 0).dur _)) x = _
    rw [ge_set, ih (by omega), (hk.2 0).1, (hk.2 0).2.2]
    have et : (∃ w ∈ F.take (j + 1), w.at' = x) ↔ (∃ w ∈ F.take j, w.at' = x) ∨ (gf F j).at' = x := by
      rw [List.take_succ_eq_append_getElem hj]
      unfold gf
      rw [List.getElem?_eq_getElem hj]
      simp only [List.mem_append, List.mem_singleton, Option.getD_some]
      constructor
      · rintro ⟨w, hw | hw, e⟩
        · exact .inl ⟨w, hw, e⟩
        · rw [hw] at e; exact .inr e
      · rintro (⟨w, hw, e⟩ | e)
        · exact ⟨w, .inl hw, e⟩
        · exact ⟨_, .inr rfl, e⟩
    by_cases h1 : (gf F j).at' = x
    · rw [if_pos ⟨h1, by rw [h1]; exact hx⟩, if_pos (et.2 (.inr h1)), h1]
    · rw [if_neg (fun e => h1 e.1)]
      by_cases h2 : ∃ w ∈ F.take j, w.at' = x
      · rw [if_pos h2, if_pos (et.2 (.inl h2))]
      · rw [if_neg h2, if_neg (fun e => (et.1 e).elim h2 h1)]
/-- with nothing kept, the sectors read what is durable -/
theorem rs2_back (F : List Wr) (U : List Un) (hU : 0 < U.length) (hF : ∀ w ∈ F, w.d = 0) (hl : (gu U 0).dur.length = (gu U 0).now.length) (hn : (gu U 0).now = ap F (gu U 0).dur) : (gu (rs2 F U F.length) 0).now = (gu U 0).dur := by
  refine list_eq (by rw [((rs2_keep F U F.length).2 0).2.2, hl]) (fun x hx => ?_)
  rw [((rs2_keep F U F.length).2 0).2.2] at hx
  rw [rs2_at F U hU hF hl x hx F.length (Nat.le_refl _), List.take_length]
  by_cases h : ∃ w ∈ F, w.at' = x
  · rw [if_pos h]
  · rw [if_neg h, hn, ap_at]
    exact fun w hw e => h ⟨w, hw, e⟩
end Go.Proofs.Ytfaeieeokelokaa
