/- What is known of the sectors of a device, as objects: Tracked, Wrote, Flushed, Failed, Reads as contracts. No conditions but those of each theorem. -/
import Derived.Test.YtbgbjgedjmhcaaaOE
import Derived.Test.YtbgbjgedjmhcaaaD5
namespace Go.Proofs.Ytbgbjgedjmhcaaa
open Go.RowKit
open OldD (TK TS RoU Sc Gr Row own_gr own_lt ck sf up upto pFail pFlush ck_at lt_mul ge hid)
set_option linter.unusedVariables false
set_option linter.unusedSimpArgs false
/-- block b holds what is known of n sectors -/
structure SK (W : World) (b n : Nat) (G : Nat → Nat × Nat) (f : Nat → Sc) : Prop where
  row : ∃ cr, W.ownsRow 0 179 3 (.slice (some ⟨b, 0, none⟩) n cr) n (ck 3 n (sf G f))
  inn : ∀ i, i < n → Row W (G i).1 (G i).2 (f i).S
  sep : ∀ i, i < n → (G i).1 ≠ b
  lim : n ≤ 1000
theorem SK.heq {W W' : World} {b n : Nat} {G : Nat → Nat × Nat} {f : Nat → Sc} (e : W'.heap = W.heap) (h : SK W b n G f) : SK W' b n G f :=
  ⟨by obtain ⟨cr, h1⟩ := h.row; exact ⟨cr, own_heq e h1⟩, fun i hi => own_heq e (h.inn i hi), h.sep, h.lim⟩
theorem SK.gr {W W' : World} {b n : Nat} {G : Nat → Nat × Nat} {f : Nat → Sc} {S : List Nat} (h : SK W b n G f) (hg : Gr S W W') (h2 : b ∉ S) (h3 : ∀ i, i < n → (G i).1 ∉ S) : SK W' b n G f :=
  ⟨by obtain ⟨cr, h1⟩ := h.row; exact ⟨cr, own_gr h1 hg (fun g hg => by cases hg; exact h2)⟩, fun i hi => (h.inn i hi).gr hg (h3 i hi), h.sep, h.lim⟩
theorem SK.lt {W : World} {b n : Nat} {G : Nat → Nat × Nat} {f : Nat → Sc} (h : SK W b n G f) : b < W.heap.size := by obtain ⟨cr, h1⟩ := h.row; exact own_lt h1
theorem SK.uniq {W : World} {b n : Nat} {G G' : Nat → Nat × Nat} {f f' : Nat → Sc} (h : SK W b n G f) (h' : SK W b n G' f') (i : Nat) (hi : i < n) : (G' i).1 = (G i).1 := by
  obtain ⟨c1, h1⟩ := h.row
  obtain ⟨c2, h2⟩ := h'.row
  have e1 : W.cell? ⟨b, i * 3 + 0, none⟩ = _ := (World.ownsRow.cellAt h1 _ (lt_mul (j := 0) hi (by omega))).trans (ck_at (j := 0) _ hi (by omega))
  have e2 : W.cell? ⟨b, i * 3 + 0, none⟩ = _ := (World.ownsRow.cellAt h2 _ (lt_mul (j := 0) hi (by omega))).trans (ck_at (j := 0) _ hi (by omega))
  rw [e1] at e2
  simp [sf] at e2
  exact e2.1.symm
def sbox (n : Nat) (f : Nat → Sc) : Box where
  ok H b := ∃ W G, W.heap = H ∧ SK W b n G f
  foot H b x := ∃ W G f', W.heap = H ∧ SK W b n G f' ∧ (x = b ∨ ∃ i, i < n ∧ x = (G i).1)
  lt := by
    rintro H a b _ ⟨W, G, f', rfl, h, hb⟩
    rcases hb with rfl | ⟨i, hi, rfl⟩
    · exact h.lt
    · exact (h.inn i hi).lt
  kept := by
    rintro H H' a ⟨W, G, rfl, h⟩ hs hk
    have hg : Gr ((List.range W.heap.size).filter fun b => decide (¬ (b = a ∨ ∃ i, i < n ∧ b = (G i).1))) W { W with heap := H' } := ⟨rfl, rfl, rfl, hs, fun b hlt hn => by
      refine hk b ⟨W, G, f, rfl, h, ?_⟩
      simp only [List.mem_filter, List.mem_range, decide_eq_true_eq, not_and, Classical.not_not] at hn
      exact hn hlt⟩
    have h2 := h.gr hg (fun hf => by
      simp only [List.mem_filter, List.mem_range, decide_eq_true_eq] at hf
      exact absurd hf.2 (by simp)) (fun i hi hf => by
      simp only [List.mem_filter, List.mem_range, decide_eq_true_eq] at hf
      exact hf.2 (.inr ⟨i, hi, rfl⟩))
    refine ⟨⟨_, G, rfl, h2⟩, ?_⟩
    rintro b ⟨W', G', f', e, h', hb⟩
    refine ⟨W, G, f, rfl, h, ?_⟩
    rcases hb with hb | ⟨i, hi, hb⟩
    · exact .inl hb
    · exact .inr ⟨i, hi, hb.trans (SK.uniq h2 (SK.heq (W' := { W with heap := H' }) e.symm h') i hi)⟩
theorem sbox_foot {E : Env} {W : World} {id n b kk : Nat} {G : Nat → Nat × Nat} {f f' : Nat → Sc} (h1 : E id = some (some ⟨b, 0, none⟩, kk)) (h : SK W b n G f) (x : Nat) : Foot E W id (.box (sbox n f')) x ↔ (x = b ∨ ∃ i, i < n ∧ x = (G i).1) := by
  refine ⟨?_, fun hb => ⟨b, by simp [blkOf, h1], W, G, f, rfl, h, hb⟩⟩
  rintro ⟨a, h6, W2, G2, f2, h7, h8, h9⟩
  simp only [blkOf, h1, Option.some.injEq] at h6
  subst h6
  rcases h9 with h9 | ⟨i, hi, h9⟩
  · exact .inl h9
  · exact .inr ⟨i, hi, h9.trans (SK.uniq h (SK.heq (W' := W) h7.symm h8) i hi)⟩
def trkH (n : Nat) (f : Nat → Sc) : Hp := [(0, .blk 177 [.sl 1 0 3 n none]), (1, .box (sbox n f))]
theorem find2 {n m id : Nat} {o p o' : Ob} (h : find [(n, o), (m, p)] id = some o') : (id = n ∧ o' = o) ∨ (id = m ∧ id ≠ n ∧ o' = p) := by
  unfold find at h
  by_cases e : n = id
  · rw [if_pos (by simpa using e)] at h; exact .inl ⟨e.symm, (Option.some.inj h).symm⟩
  · rw [if_neg (by simpa using e)] at h
    obtain ⟨h1, h2⟩ := find1 h
    exact .inr ⟨h1, fun c => e c.symm, h2⟩
theorem sl_zero {E : Env} {n b k : Nat} {y : Value} (h1 : 1 ≤ n) (hE : E 1 = some (some ⟨b, 0, none⟩, k)) (h : RV E (.sl 1 0 3 n none) y) : y = .slice (some ⟨b, 0, none⟩) n k ∧ n ≤ k := by
  simp only [RV] at h
  obtain ⟨b2, k2, h6, h7⟩ := h
  rw [hE] at h6
  simp only [Option.some.injEq, Prod.mk.injEq] at h6
  obtain ⟨rfl, rfl⟩ := h6
  obtain ⟨o, m, rfl, h8, h9, h10, h11⟩ := h7
  have hm : m = k := by simpa using h11
  subst hm
  have ho : o = 0 := by have := h10 (by omega); simpa using this
  subst ho
  exact ⟨rfl, h8⟩
theorem trk_open {E : Env} {W : World} {n : Nat} {f : Nat → Sc} {c : Value} (h1 : 1 ≤ n) (r : RH E (trkH n f) W) (hc : RV E (.ptr 0 0 0 0) c) :
    ∃ t b cb G, c = .pointer (some ⟨t, 0, none⟩) ∧ E 0 = some (some ⟨t, 0, none⟩, 1) ∧ E 1 = some (some ⟨b, 0, none⟩, cb) ∧ TK W t b cb n G f := by
  obtain ⟨t, kt, xs, g1, g2, g3, g7⟩ := r.holds 0 _ rfl
  obtain ⟨b, cb, g4, W1, G, g5, g6⟩ := r.holds 1 _ rfl
  have g6 := SK.heq (W' := W) g5.symm g6
  simp only [RVs] at g3
  obtain ⟨y, l, rfl, hy, rfl⟩ := g3
  obtain rfl : kt = 1 := g7
  obtain ⟨rfl, hcb⟩ := sl_zero h1 g4 hy
  simp only [RV] at hc
  obtain ⟨a, k2, h5, rfl⟩ := hc
  rw [g1] at h5
  simp only [Option.some.injEq, Prod.mk.injEq] at h5
  obtain ⟨rfl, rfl⟩ := h5
  have hap : ∀ x, (x = b ∨ ∃ i, i < n ∧ x = (G i).1) → t ≠ x := fun x hx e => by
    subst e
    exact r.apart 0 1 _ _ rfl rfl (by decide) rfl t (by simp [Foot, Ob.bx, FootB, blkOf, g1]) ((sbox_foot g4 g6 t).2 hx)
  refine ⟨t, b, cb, G, rfl, g1, g4, ⟨?_, g6.row, g6.inn, hap b (.inl rfl), fun i hi => ⟨fun e => hap _ (.inr ⟨i, hi, rfl⟩) e.symm, g6.sep i hi⟩, g6.lim, hcb⟩⟩
  exact ⟨rfl, .inr ⟨t, 1, _, rfl, Nat.zero_le _, g2, Nat.le_refl _, by unfold maxLen; omega, rfl, rfl⟩⟩
theorem tk_cells {W : World} {t b cb n : Nat} {G : Nat → Nat × Nat} {f : Nat → Sc} (h : TK W t b cb n G f) : W.heap[t]? = some (.cells [Value.slice (some ⟨b, 0, none⟩) n cb].toArray 177 (0, 0)) := by
  rcases h.blk.2 with ⟨h1, _⟩ | ⟨g, cap, cur, h1, h2, h3, h4, h5, h6, h7⟩
  · cases h1
  · simp only [Value.slice.injEq, Option.some.injEq, Addr.mk.injEq, and_true, true_and] at h1
    obtain ⟨rfl, rfl⟩ := h1
    rw [h3]
    have : cur = [Value.slice (some ⟨b, 0, none⟩) n cb].toArray := by
      apply Array.ext'
      have hl : cur.toList.length ≤ 1 * 1 := by rw [Array.length_toList, h6]; omega
      rw [List.take_of_length_le hl] at h7
      exact h7
    rw [this]
/-- a call that changes nothing but the track, as a contract -/
theorem trk_call {g : FuncId} {args : List AV} {cargs : List Value} {n : Nat} {f f' : Nat → Sc} {ret : AV} {cret : Value} (h1 : 1 ≤ n) (hent : ∀ cargs w, (callFunc g cargs).run Try.prog w = .ok (.enter g cargs) w)
    (hargs : ∀ E cs, RVs E args cs → cs = cargs) (hret : ∀ E, RV E ret cret)
    (H : ∀ W t b cb G, TK W t b cb n G f → Calls Try.prog g (Value.pointer (some ⟨t, 0, none⟩) :: cargs).toArray W fun e W' => e = .returned cret ∧ Hid (TS W W' t b cb n G f')) :
    CallOK Try.prog g (.ptr 0 0 0 0 :: args) (trkH n f) ret [(1, some (.box (sbox n f')))] := by
  refine ⟨hent, fun E W cs hcs rh _ => ?_⟩
  simp only [RVs] at hcs
  obtain ⟨y, l, rfl, hy, hl⟩ := hcs
  obtain rfl := hargs E l hl
  obtain ⟨t, b, cb, G, rfl, e0, e1, ht⟩ := trk_open h1 rh hy
  refine (H W t b cb G ht).mono ?_
  rintro e W' ⟨rfl, HT⟩
  obtain ⟨G', q1, q2, q3⟩ := HT.out
  have sk : SK W b n G f := ⟨ht.row, ht.inn, fun i hi => (ht.sep i hi).2, ht.lim⟩
  have sk' : SK W' b n G' f' := ⟨q1.row, q1.inn, fun i hi => (q1.sep i hi).2, q1.lim⟩
  have ht0 : t < W.heap.size := own_lt ht.blk
  have F0 : ∀ V x, Foot E V 0 (.blk 177 [.sl 1 0 3 n none]) x ↔ x = t := fun V x => by simp [Foot, Ob.bx, FootB, blkOf, e0, eq_comm]
  have F1 := fun x => sbox_foot (f' := f) e1 sk x
  have F1' := fun x => sbox_foot (f' := f') e1 sk' x
  have hsep : ¬ Foot E W' 1 (.box (sbox n f')) t := fun h => by
    rcases (F1' t).1 h with h | ⟨i, hi, h⟩
    · exact q1.tb h
    · exact (q1.sep i hi).1 h.symm
  have hu : applyO (trkH n f) [(1, some (.box (sbox n f')))] = trkH n f' := rfl
  refine ⟨cret, E, rfl, Ext.refl E, hret E, ?_, ?_⟩
  · rw [hu]
    refine ⟨fun id o ho => ?_, fun i j o p hi hj hne hw x hx hx2 => ?_⟩
    · rcases find2 ho with ⟨rfl, rfl⟩ | ⟨rfl, _, rfl⟩
      · obtain ⟨cr, hr⟩ := q1.row
        refine ⟨t, 1, _, e0, tk_cells q1, ?_, rfl⟩
        simp only [RVs, RV]
        have hcb := World.ownsRow.cellAt ht.blk 0 (by omega)
        refine ⟨_, _, rfl, ⟨some ⟨b, 0, none⟩, cb, e1, 0, cb, rfl, ?_, by omega, fun _ => by simp, by simp⟩, rfl⟩
        obtain ⟨y2, l2, e5, h5, _⟩ : ∃ y2 l2, [Value.slice (some ⟨b, 0, none⟩) n cb] = y2 :: l2 ∧ RV E (.sl 1 0 3 n none) y2 ∧ l2 = [] := by
          obtain ⟨t2, k2, xs2, a1, a2, a3, _⟩ := rh.holds 0 _ rfl
          rw [e0] at a1
          simp only [Option.some.injEq, Prod.mk.injEq, Addr.mk.injEq, and_true] at a1
          obtain ⟨rfl, rfl⟩ := a1
          rw [tk_cells ht] at a2
          have : [Value.slice (some ⟨b, 0, none⟩) n cb] = xs2 := by
            have := Option.some.inj a2
            simp only [Obj.cells.injEq, and_true] at this
            simpa using congrArg Array.toList this
          subst this
          simp only [RVs] at a3
          exact a3
        simp only [List.cons.injEq] at e5
        obtain ⟨rfl, rfl⟩ := e5
        exact (sl_zero h1 e1 h5).2
      · exact ⟨b, cb, e1, W', G', rfl, sk'⟩
    · rcases find2 hi with ⟨rfl, rfl⟩ | ⟨rfl, _, rfl⟩ <;> rcases find2 hj with ⟨rfl, rfl⟩ | ⟨rfl, _, rfl⟩
      · exact hne rfl
      · obtain rfl := (F0 W' x).1 hx; exact hsep hx2
      · obtain rfl := (F0 W' x).1 hx2; exact hsep hx
      · exact hne rfl
  · rw [hu]
    refine ⟨q2.os, q2.tape, q2.output, q2.size, fun x hlt hno => ?_, fun id o x ho hx => ?_⟩
    · refine q2.block x hlt fun hm => ?_
      rcases List.mem_cons.1 hm with rfl | hm
      · exact hno 0 _ rfl rfl ((F0 W x).2 rfl)
      · obtain rfl := List.mem_singleton.1 hm
        exact hno 1 _ rfl rfl ((F1 x).2 (.inl rfl))
    · rcases find2 ho with ⟨rfl, rfl⟩ | ⟨rfl, _, rfl⟩
      · exact .inl ⟨0, _, rfl, fun _ => rfl, (F0 W x).2 ((F0 W' x).1 hx)⟩
      · rcases (F1' x).1 hx with h | ⟨i, hi, h⟩
        · exact .inl ⟨1, _, rfl, fun _ => rfl, (F1 x).2 (.inl h)⟩
        · rcases q3 i hi with h3 | h3
          · exact .inl ⟨1, _, rfl, fun _ => rfl, (F1 x).2 (.inr ⟨i, hi, by rw [h, h3]⟩)⟩
          · exact .inr (by rw [h]; exact h3)
theorem twrote_c (n : Nat) (f : Nat → Sc) (i : Nat) (v : Int) (d : Bool) (hi : i < n) (hS : (f i).S.length ≤ 1000) :
    CallOK Try.prog 75 [.ptr 0 0 0 0, I (i : Int), .val (.int .u64 v), B d] [(0, .blk 177 [.sl 1 0 3 n none]), (1, .box (sbox n f))] (.tup []) [(1, some (.box (sbox n (up f i ⟨(f i).S ++ [v], d, v⟩))))] :=
  trk_call (cargs := [.int .i64 (i : Int), .int .u64 v, .bool d]) (cret := .tuple #[]) (by omega) Try.call75 (fun E cs h => by
    simp only [RVs, RV, I, B] at h
    obtain ⟨_, _, rfl, rfl, _, _, rfl, rfl, _, _, rfl, rfl, rfl⟩ := h
    rfl) (fun E => by simp [RV, RVs]) fun W t b cb G h => OldD.wrote_ok h i hi v d hS
theorem tflushed_c (n : Nat) (f : Nat → Sc) (hn : 1 ≤ n) : CallOK Try.prog 77 [.ptr 0 0 0 0] [(0, .blk 177 [.sl 1 0 3 n none]), (1, .box (sbox n f))] (.tup []) [(1, some (.box (sbox n (upto n pFlush f))))] :=
  trk_call (cargs := []) (cret := .tuple #[]) hn Try.call77 (fun E cs h => by simpa [RVs] using h) (fun E => by simp [RV, RVs]) fun W t b cb G h => OldD.flushed_ok h
theorem TK.ts {W W' : World} {t b cb n : Nat} {G : Nat → Nat × Nat} {f' : Nat → Sc} (h : TK W' t b cb n G f') (hg : Gr [t, b] W W') : TS W W' t b cb n G f' := ⟨G, h, hg, fun _ _ => .inl rfl⟩
theorem tfailed_c (n : Nat) (f : Nat → Sc) (hn : 1 ≤ n) : CallOK Try.prog 107 [.ptr 0 0 0 0] [(0, .blk 177 [.sl 1 0 3 n none]), (1, .box (sbox n f))] (.tup []) [(1, some (.box (sbox n (upto n pFail f))))] :=
  trk_call (cargs := []) (cret := .tuple #[]) hn Try.call107 (fun E cs h => by simpa [RVs] using h) (fun E => by simp [RV, RVs]) fun W t b cb G h => (OldD.failed_ok h).mono fun e W' ⟨he, HH⟩ => ⟨he, hid (TK.ts HH.out.1 HH.out.2)⟩
theorem treads_c (n : Nat) (f : Nat → Sc) (i : Nat) (v : Int) (hi : i < n) (hk : (f i).kn = false) (hS : (f i).S.length ≤ 1000) (hv : v ∈ (f i).S) :
    CallOK Try.prog 76 [.ptr 0 0 0 0, I (i : Int), .val (.int .u64 v), B true] [(0, .blk 177 [.sl 1 0 3 n none]), (1, .box (sbox n f))] (B true) [(1, some (.box (sbox n (up f i ⟨[v], true, v⟩))))] :=
  trk_call (cargs := [.int .i64 (i : Int), .int .u64 v, .bool true]) (cret := .bool true) (by omega) Try.call76 (fun E cs h => by
    simp only [RVs, RV, I, B] at h
    obtain ⟨_, _, rfl, rfl, _, _, rfl, rfl, _, _, rfl, rfl, rfl⟩ := h
    rfl) (fun E => by simp [RV, B]) fun W t b cb G h => by
      have := OldD.reads_ok h i hi v hk hS
      rw [decide_eq_true hv] at this
      exact this
theorem tknown_c (n : Nat) (f : Nat → Sc) (i : Nat) (v : Int) (s : Bool) (hi : i < n) (hk : (f i).kn = true) (hv : v = (f i).v) :
    CallOK Try.prog 76 [.ptr 0 0 0 0, I (i : Int), .val (.int .u64 v), B s] [(0, .blk 177 [.sl 1 0 3 n none]), (1, .box (sbox n f))] (B true) [(1, some (.box (sbox n f)))] :=
  trk_call (cargs := [.int .i64 (i : Int), .int .u64 v, .bool s]) (cret := .bool true) (by omega) Try.call76 (fun E cs h => by
    simp only [RVs, RV, I, B] at h
    obtain ⟨_, _, rfl, rfl, _, _, rfl, rfl, _, _, rfl, rfl, rfl⟩ := h
    rfl) (fun E => by simp [RV, B]) fun W t b cb G h => by
      refine (OldD.reads_kn h i hi v s hk).mono ?_
      rintro e W' ⟨he, rfl⟩
      rw [decide_eq_true hv] at he
      exact ⟨he, hid (TK.ts h (Gr.refl _ _))⟩
end Go.Proofs.Ytbgbjgedjmhcaaa
