/- The program's New. No conditions but those of each theorem. -/
import Derived.Test.YtfaeieeokelokaaL
import Derived.Deep.AppendLies
namespace Go.Proofs.Ytfaeieeokelokaa
open Go.ChangeShapes Go.WideShapes Go.ChangeAt Go.RowKit
set_option linter.unusedVariables false
set_option linter.unusedSimpArgs false
attribute [local go_sem] Oper.semAt_some putAll
theorem Try.info80 : (Try.prog.info? 80).map (fun i => (i.zero, i.size, i.bytes)) = some (some (.agg #[.slice none 0 0, .slice none 0 0, .bool false]), 3, 56) := by kernel_rfl
/-- integers that are handed over -/
def Ar (W : World) (a : Option Addr) (X : List Int) : Prop := X.length = 0 ∨ ∃ b o, a = some ⟨b, o, none⟩ ∧ b < W.heap.size ∧ ∀ i, i < X.length → W.cell? ⟨b, o + i, none⟩ = some (.int .i64 (ge X i))
theorem Ar.below {W W' : World} {a : Option Addr} {X : List Int} (h : Ar W a X) (hb : Below W.heap.size W W') : Ar W' a X := by
  rcases h with h | ⟨b, o, h1, h2, h3⟩
  · exact .inl h
  · exact .inr ⟨b, o, h1, Nat.lt_of_lt_of_le h2 hb.size, fun i hi => (hb.cell (p := ⟨b, o + i, none⟩) h2).trans (h3 i hi)⟩
/-- a new disk -/
def un (z : Int) : Un := ⟨List.replicate z.toNat 0, List.replicate z.toNat 0, false⟩
/-- a new array -/
def nk (X : List Int) : Dk := { U := X.map un, bad := fun _ _ => false, F := [], fuse := 0, down := false, wr := 0 }
def good (z : Int) : Prop := 1 ≤ z ∧ z ≤ 65536
instance (z : Int) : Decidable (good z) := by unfold good; infer_instance
theorem gu_app (U : List Un) (u : Un) (i : Nat) : gu (U ++ [u]) i = if i < U.length then gu U i else if i = U.length then u else gu [] 0 := by
  unfold gu
  by_cases h : i < U.length
  · rw [if_pos h, List.getElem?_append_left h]
  · rw [if_neg h, List.getElem?_append_right (by omega)]
    by_cases h2 : i = U.length
    · rw [if_pos h2, h2]; simp
    · rw [if_neg h2, List.getElem?_eq_none (by simp; omega)]; rfl
theorem gb_app (U : List UB) (u : UB) (i : Nat) : gb (U ++ [u]) i = if i < U.length then gb U i else if i = U.length then u else gb [] 0 := by
  unfold gb
  by_cases h : i < U.length
  · rw [if_pos h, List.getElem?_append_left h]
  · rw [if_neg h, List.getElem?_append_right (by omega)]
    by_cases h2 : i = U.length
    · rw [if_pos h2, h2]; simp
    · rw [if_neg h2, List.getElem?_eq_none (by simp; omega)]; rfl
theorem fa_lt {W : World} {A : Nat} {c : Co} {k : Dk} (h : DA W A c k) : ∀ x ∈ oblk c.fa, x < W.heap.size := fun x hx => h.fp_lt x (fp_f hx)
theorem ua_lt {W : World} {A : Nat} {c : Co} {k : Dk} (h : DA W A c k) : ∀ x ∈ oblk c.ua, x < W.heap.size := fun x hx => h.fp_lt x (fp_u hx)
/-- one disk more -/
theorem DA.addU {W W' : World} {A : Nat} {c : Co} {k : Dk} (h : DA W A c k) (ua : Option Addr) (uc : Nat) (b : UB) (u : Un) (hg : Gr (A :: oblk c.ua) W W')
    (hb : W'.ownsRow 0 78 6 (.slice (some ⟨A, 0, none⟩) 1 1) 1 [.slice ua (k.U.length + 1) uc, .map (some c.mb), .slice c.fa k.F.length c.fc, .int .i64 k.fuse, .bool k.down, .int .i64 k.wr])
    (hr : W'.ownsRow 0 80 3 (.slice ua (k.U.length + 1) uc) (k.U.length + 1) (ck 3 (k.U.length + 1) (uf (c.bs ++ [b]) (k.U ++ [u]))))
    (hn : ∀ g ∈ oblk ua, g ∈ oblk c.ua ∨ W.heap.size ≤ g) (rn : Row W' b.n b.cn u.now) (rd : Row W' b.d b.cd u.dur) (hbn : W.heap.size ≤ b.n) (hbd : W.heap.size ≤ b.d) (hne : b.n ≠ b.d) (hnu : b.n ∉ oblk ua) (hdu : b.d ∉ oblk ua)
    (hl : u.dur.length = u.now.length) (hl1 : 1 ≤ u.now.length) (hl2 : u.now.length ≤ 65536) (h8 : k.U.length < 8) :
    DA W' A { c with ua := ua, uc := uc, bs := c.bs ++ [b] } { k with U := k.U ++ [u] } := by
  have key : ∀ x, x ≠ A → x ∉ oblk c.ua → x ∉ A :: oblk c.ua := fun x h1 h2 h3 => by
    rcases List.mem_cons.1 h3 with h3 | h3
    · exact h1 h3
    · exact h2 h3
  have nw : ∀ x, x < W.heap.size → x ∉ oblk c.ua → x ∉ oblk ua := fun x h1 h2 h3 => by
    rcases hn x h3 with h4 | h4
    · exact h2 h4
    · omega
  have hlb := h.lb
  have hbl : (c.bs ++ [b]).length = k.U.length + 1 := by simp [hlb]
  have hul : (k.U ++ [u]).length = k.U.length + 1 := by simp
  have gl : ∀ i, i < k.U.length → gu (k.U ++ [u]) i = gu k.U i ∧ gb (c.bs ++ [b]) i = gb c.bs i := fun i hi => ⟨by rw [gu_app, if_pos hi], by rw [gb_app, if_pos (by omega)]⟩
  have gr : gu (k.U ++ [u]) k.U.length = u ∧ gb (c.bs ++ [b]) k.U.length = b := ⟨by rw [gu_app, if_neg (by omega), if_pos rfl], by rw [gb_app, if_neg (by omega), if_pos (by omega)]⟩
  have hA := h.lt
  have hM := h.mp.lt
  have nl : ∀ i, i < k.U.length → (gb c.bs i).n < W.heap.size ∧ (gb c.bs i).d < W.heap.size := fun i hi => ⟨(h.rn i hi).lt, (h.rd i hi).lt⟩
  have hfl := fa_lt h
  exact {
    blk := by
      show W'.ownsRow 0 78 6 _ 1 [.slice ua (k.U ++ [u]).length uc, _, _, _, _, _]
      rw [hul]; exact hb
    ru := by
      show W'.ownsRow 0 80 3 (.slice ua (k.U ++ [u]).length uc) (k.U ++ [u]).length (ck 3 (k.U ++ [u]).length _)
      rw [hul]; exact hr
    rf := own_gr h.rf hg (fun g hx => by have := oblk_of hx; exact key _ (fun e => h.sep.af (e ▸ this)) (fun e => h.sep.uf _ e this))
    mp := h.mp.gr hg (key _ (Ne.symm h.sep.am) h.sep.mu)
    rn := fun i hi => by
      have hi' : i < k.U.length + 1 := by rw [← hul]; exact hi
      by_cases e : i < k.U.length
      · show Row W' (gb (c.bs ++ [b]) i).n (gb (c.bs ++ [b]) i).cn (gu (k.U ++ [u]) i).now
        rw [(gl i e).1, (gl i e).2]
        exact (h.rn i e).gr hg (key _ (h.sep.n1 i (by omega)).1 (h.sep.n1 i (by omega)).2.2.1)
      · obtain rfl : i = k.U.length := by omega
        show Row W' (gb (c.bs ++ [b]) k.U.length).n (gb (c.bs ++ [b]) k.U.length).cn (gu (k.U ++ [u]) k.U.length).now
        rw [gr.1, gr.2]; exact rn
    rd := fun i hi => by
      have hi' : i < k.U.length + 1 := by rw [← hul]; exact hi
      by_cases e : i < k.U.length
      · show Row W' (gb (c.bs ++ [b]) i).d (gb (c.bs ++ [b]) i).cd (gu (k.U ++ [u]) i).dur
        rw [(gl i e).1, (gl i e).2]
        exact (h.rd i e).gr hg (key _ (h.sep.d1 i (by omega)).1 (h.sep.d1 i (by omega)).2.2.1)
      · obtain rfl : i = k.U.length := by omega
        show Row W' (gb (c.bs ++ [b]) k.U.length).d (gb (c.bs ++ [b]) k.U.length).cd (gu (k.U ++ [u]) k.U.length).dur
        rw [gr.1, gr.2]; exact rd
    lb := by show (c.bs ++ [b]).length = (k.U ++ [u]).length; rw [hbl, hul]
    ld := fun i hi => by
      have hi' : i < k.U.length + 1 := by rw [← hul]; exact hi
      show (gu (k.U ++ [u]) i).dur.length = (gu (k.U ++ [u]) i).now.length
      by_cases e : i < k.U.length
      · rw [(gl i e).1]; exact h.ld i e
      · obtain rfl : i = k.U.length := by omega
        rw [gr.1]; exact hl
    b8 := by show (k.U ++ [u]).length ≤ 8; rw [hul]; omega
    bn := fun i hi => by
      have hi' : i < k.U.length + 1 := by rw [← hul]; exact hi
      show 1 ≤ (gu (k.U ++ [u]) i).now.length ∧ (gu (k.U ++ [u]) i).now.length ≤ 65536
      by_cases e : i < k.U.length
      · rw [(gl i e).1]; exact h.bn i e
      · obtain rfl : i = k.U.length := by omega
        rw [gr.1]; exact ⟨hl1, hl2⟩
    fi := fun i hi => by
      have h1 := h.fi i hi
      show (gf k.F i).d < (k.U ++ [u]).length ∧ (gf k.F i).at' < (gu (k.U ++ [u]) (gf k.F i).d).now.length
      rw [hul, (gl _ h1.1).1]
      exact ⟨by omega, h1.2⟩
    sep := {
      am := h.sep.am
      au := nw _ hA h.sep.au
      af := h.sep.af
      mu := nw _ hM h.sep.mu
      mf := h.sep.mf
      uf := fun g hx hf => by
        rcases hn g hx with h1 | h1
        · exact h.sep.uf g h1 hf
        · have := hfl g hf; omega
      n1 := fun i hi => by
        have hi' : i < k.U.length + 1 := by rw [← hbl]; exact hi
        show (gb (c.bs ++ [b]) i).n ≠ A ∧ (gb (c.bs ++ [b]) i).n ≠ c.mb ∧ (gb (c.bs ++ [b]) i).n ∉ oblk ua ∧ (gb (c.bs ++ [b]) i).n ∉ oblk c.fa
        by_cases e : i < k.U.length
        · rw [(gl i e).2]
          have h1 := h.sep.n1 i (by omega)
          exact ⟨h1.1, h1.2.1, nw _ (nl i e).1 h1.2.2.1, h1.2.2.2⟩
        · obtain rfl : i = k.U.length := by omega
          rw [gr.2]
          exact ⟨by omega, by omega, hnu, fun hx => by have := hfl _ hx; omega⟩
      d1 := fun i hi => by
        have hi' : i < k.U.length + 1 := by rw [← hbl]; exact hi
        show (gb (c.bs ++ [b]) i).d ≠ A ∧ (gb (c.bs ++ [b]) i).d ≠ c.mb ∧ (gb (c.bs ++ [b]) i).d ∉ oblk ua ∧ (gb (c.bs ++ [b]) i).d ∉ oblk c.fa
        by_cases e : i < k.U.length
        · rw [(gl i e).2]
          have h1 := h.sep.d1 i (by omega)
          exact ⟨h1.1, h1.2.1, nw _ (nl i e).2 h1.2.2.1, h1.2.2.2⟩
        · obtain rfl : i = k.U.length := by omega
          rw [gr.2]
          exact ⟨by omega, by omega, hdu, fun hx => by have := hfl _ hx; omega⟩
      nd := fun i j hi hj => by
        have hi' : i < k.U.length + 1 := by rw [← hbl]; exact hi
        have hj' : j < k.U.length + 1 := by rw [← hbl]; exact hj
        show (gb (c.bs ++ [b]) i).n ≠ (gb (c.bs ++ [b]) j).d
        by_cases e : i < k.U.length <;> by_cases e2 : j < k.U.length
        · rw [(gl i e).2, (gl j e2).2]; exact h.sep.nd i j (by omega) (by omega)
        · obtain rfl : j = k.U.length := by omega
          rw [(gl i e).2, gr.2]; have := (nl i e).1; omega
        · obtain rfl : i = k.U.length := by omega
          rw [(gl j e2).2, gr.2]; have := (nl j e2).2; omega
        · obtain rfl : i = k.U.length := by omega
          obtain rfl : j = k.U.length := by omega
          rw [gr.2]; exact hne
      nn := fun i j hi hj hij => by
        have hi' : i < k.U.length + 1 := by rw [← hbl]; exact hi
        have hj' : j < k.U.length + 1 := by rw [← hbl]; exact hj
        show (gb (c.bs ++ [b]) i).n ≠ (gb (c.bs ++ [b]) j).n ∧ (gb (c.bs ++ [b]) i).d ≠ (gb (c.bs ++ [b]) j).d
        by_cases e : i < k.U.length <;> by_cases e2 : j < k.U.length
        · rw [(gl i e).2, (gl j e2).2]; exact h.sep.nn i j (by omega) (by omega) hij
        · obtain rfl : j = k.U.length := by omega
          rw [(gl i e).2, gr.2]; have := nl i e; omega
        · obtain rfl : i = k.U.length := by omega
          rw [(gl j e2).2, gr.2]; have := nl j e2; omega
        · omega } }
theorem uf_app {bs : List UB} {U : List Un} (hl : bs.length = U.length) (b : UB) (u : Un) :
    ck 3 U.length (uf bs U) ++ [.slice (some ⟨b.n, 0, none⟩) u.now.length b.cn, .slice (some ⟨b.d, 0, none⟩) u.now.length b.cd, .bool u.mis] = ck 3 (U.length + 1) (uf (bs ++ [b]) (U ++ [u])) := by
  have e : [Value.slice (some ⟨b.n, 0, none⟩) u.now.length b.cn, .slice (some ⟨b.d, 0, none⟩) u.now.length b.cd, .bool u.mis] = ck 3 1 (fun _ j => if j = 0 then .slice (some ⟨b.n, 0, none⟩) u.now.length b.cn else if j = 1 then .slice (some ⟨b.d, 0, none⟩) u.now.length b.cd else .bool u.mis) := by
    simp [ck, List.range_succ]
  rw [e, ck_app]
  refine ck_congr fun i j hi hj => ?_
  by_cases h : i < U.length
  · have e1 : gu (U ++ [u]) i = gu U i := by rw [gu_app, if_pos h]
    have e2 : gb (bs ++ [b]) i = gb bs i := by rw [gb_app, if_pos (by omega)]
    rw [if_pos h]
    unfold uf
    rw [e1, e2]
  · have e1 : gu (U ++ [u]) i = u := by rw [gu_app, if_neg h, if_pos (by omega)]
    have e2 : gb (bs ++ [b]) i = b := by rw [gb_app, if_neg (by omega), if_pos (by omega)]
    rw [if_neg h]
    unfold uf
    rw [e1, e2]
/-- two rows of zeros, a literal, an append, a store: one disk more -/
theorem DA.addN {W : World} {A : Nat} {c : Co} {k : Dk} (h : DA W A c k) (z : Nat) (hz1 : 1 ≤ z) (hz2 : z ≤ 65536) (h8 : k.U.length < 8) (p q : Nat) (hpq : (p = W.heap.size ∧ q = W.heap.size + 1) ∨ (p = W.heap.size + 1 ∧ q = W.heap.size))
    (g uc : Nat) (W1 W2 : World) (hW1 : W1 = ((W.alloc (.cells (madeCells #[.int .u64 0] z) 26)).alloc (.cells (madeCells #[.int .u64 0] z) 26)).alloc (.cells #[.slice (some ⟨p, 0, none⟩) z z, .slice (some ⟨q, 0, none⟩) z z, .bool false] 80))
    (hr : W2.ownsRow 0 80 3 (.slice (some ⟨g, 0, none⟩) (k.U.length + 1) uc) (k.U.length + 1) (ck 3 k.U.length (uf c.bs k.U) ++ [.slice (some ⟨p, 0, none⟩) z z, .slice (some ⟨q, 0, none⟩) z z, .bool false]))
    (hg : W1.grownBy W2 (Value.slice c.ua k.U.length c.uc).ownBlock) (hlie : (Value.slice c.ua k.U.length c.uc).ownBlock = some g ∨ g = W1.heap.size) :
    W2.cell? ⟨A, 0, none⟩ = some (.slice c.ua k.U.length c.uc) ∧ W2.frozen? ⟨A, 0, none⟩ = false ∧
    DA (W2.setCell ⟨A, 0, none⟩ (.slice (some ⟨g, 0, none⟩) (k.U.length + 1) uc)) A { c with ua := some ⟨g, 0, none⟩, uc := uc, bs := c.bs ++ [⟨p, z, q, z⟩] } { k with U := k.U ++ [un z] } ∧
    Gr (A :: oblk c.ua) W (W2.setCell ⟨A, 0, none⟩ (.slice (some ⟨g, 0, none⟩) (k.U.length + 1) uc)) ∧ (∀ x ∈ fp A { c with ua := some ⟨g, 0, none⟩, uc := uc, bs := c.bs ++ [⟨p, z, q, z⟩] }, x ∈ fp A c ∨ W.heap.size ≤ x) := by
  have hs : W1.heap.size = W.heap.size + 3 := by rw [hW1]; simp
  have hb1 : Below W.heap.size W W1 := by rw [hW1]; exact (((Below.refl _ _).alloc (Nat.le_refl _) _).alloc (by simp) _).alloc (by simp; omega) _
  have h1 := h.below hb1
  have row : ∀ x, (x = W.heap.size ∨ x = W.heap.size + 1) → Row W1 x z (List.replicate z 0) := by
    intro x hx
    have hv : (madeCells #[(.int .u64 0 : Value)] z).toList = vu (List.replicate z 0) := by rw [toList_madeCells_one]; simp [vu]
    have base : ∀ w : World, Row (w.alloc (.cells (madeCells #[.int .u64 0] z) 26)) w.heap.size z (List.replicate z 0) := fun w => by
      have := World.ownsRow_lit (base := 0) (e := 26) (size := 1) w (madeCells #[.int .u64 0] z) z (Nat.zero_le _) (by unfold maxLen; omega) (by rw [size_madeCells]; omega)
      unfold Row
      rw [List.length_replicate, ← hv]
      exact this
    rw [hW1]
    rcases hx with rfl | rfl
    · exact ((base W).gr (Gr.of_below ((Below.refl _ _).alloc (Nat.le_refl _) _) []) (by simp)).gr (Gr.of_below ((Below.refl _ _).alloc (Nat.le_refl _) _) []) (by simp)
    · have := base (W.alloc (.cells (madeCells #[.int .u64 0] z) 26))
      rw [World.size_alloc] at this
      exact this.gr (Gr.of_below ((Below.refl _ _).alloc (Nat.le_refl _) _) []) (by simp)
  have hA : W2.ownsRow 0 78 6 (.slice (some ⟨A, 0, none⟩) 1 1) 1 [.slice c.ua k.U.length c.uc, .map (some c.mb), .slice c.fa k.F.length c.fc, .int .i64 k.fuse, .bool k.down, .int .i64 k.wr] :=
    World.ownsRow.kept h1.blk hg (.inr (by intro e; exact h.sep.au (oblk_of e.symm)))
  have hul := ua_lt h
  have hgl : g ∈ oblk c.ua ∨ g = W.heap.size + 3 := by
    rcases hlie with e | e
    · exact .inl (oblk_of e)
    · exact .inr (by rw [e, hs])
  have hAl := h.lt
  have hgA : g ≠ A := by
    rcases hgl with e | e
    · intro e2; rw [e2] at e; exact h.sep.au e
    · omega
  have hpg : ∀ x, (x = W.heap.size ∨ x = W.heap.size + 1) → x ∉ oblk (some (⟨g, 0, none⟩ : Addr)) ∧ x ≠ A := fun x hx => by
    refine ⟨fun hm => ?_, by omega⟩
    have hm2 : x = g := List.mem_singleton.1 hm
    rcases hgl with e | e
    · have := hul g e; omega
    · omega
  have hnew : ∀ x ∈ oblk (some (⟨g, 0, none⟩ : Addr)), x ∈ oblk c.ua ∨ W.heap.size ≤ x := by
    intro x hx
    have hx2 : x = g := List.mem_singleton.1 hx
    rw [hx2]
    rcases hgl with e | e
    · exact .inl e
    · exact .inr (by omega)
  have G2 : Gr (A :: oblk c.ua) W W2 := (Gr.of_below hb1 _).trans (Gr.of_grown hg (fun x hx => List.mem_cons_of_mem _ (oblk_of hx)))
  have G3 := set_gr W2 A 0 (.slice (some ⟨g, 0, none⟩) (k.U.length + 1) uc)
  have rowp : ∀ x, (x = W.heap.size ∨ x = W.heap.size + 1) → Row (W2.setCell ⟨A, 0, none⟩ (.slice (some ⟨g, 0, none⟩) (k.U.length + 1) uc)) x z (List.replicate z 0) := fun x hx => by
    refine Row.gr ?_ G3 (by rw [List.mem_singleton]; exact (hpg x hx).2)
    exact own_gr (row x hx) (Gr.of_grown (S := oblk c.ua) hg (fun y hy => oblk_of hy)) (fun y hy => by cases hy; exact fun e => by have h9 : x < W.heap.size := hul x e; omega)
  have G4 := G2.trans (G3.mono (T := A :: oblk c.ua) (fun x hx => by obtain rfl := List.mem_singleton.1 hx; exact List.mem_cons_self ..))
  refine ⟨World.ownsRow.cellAt hA 0 (by omega), World.ownsRow.frozenAt hA 0, ?_, G4, ?_⟩
  · refine h.addU (some ⟨g, 0, none⟩) uc ⟨p, z, q, z⟩ (un z) G4 (World.ownsRow.stored hA 0 _).1 ?_ hnew (by simpa [un] using rowp p (by omega)) (by simpa [un] using rowp q (by omega)) (by show _ ≤ p; omega) (by show _ ≤ q; omega) (by show p ≠ q; omega) (hpg p (by omega)).1 (hpg q (by omega)).1 (by simp [un]) (by simp [un]; exact hz1) (by simp [un]; exact hz2) h8
    have e := uf_app h.lb ⟨p, z, q, z⟩ (un z)
    simp only [un, List.length_replicate, Int.toNat_natCast] at e
    rw [show un (z : Int) = ⟨List.replicate z 0, List.replicate z 0, false⟩ from rfl, ← e]
    exact own_gr hr G3 (fun x hx => by cases hx; rw [List.mem_singleton]; exact hgA)
  · intro x hx
    unfold fp at hx ⊢
    simp only [List.mem_cons, List.mem_append, List.flatMap_append, List.flatMap_cons, List.flatMap_nil, List.append_nil, List.not_mem_nil, or_false] at hx ⊢
    rcases hx with h | h | h | h | h | h | h
    · exact .inl (.inl h)
    · exact .inl (.inr (.inl h))
    · rcases hnew x h with h | h
      · exact .inl (.inr (.inr (.inl h)))
      · exact .inr h
    · exact .inl (.inr (.inr (.inr (.inl h))))
    · exact .inl (.inr (.inr (.inr (.inr h))))
    · right; omega
    · right; omega
end Go.Proofs.Ytfaeieeokelokaa
