/- What the law needs, one text behind the other. No conditions but those of each theorem. -/
import Derived.Deep.RegionLaw
import Derived.Deep.AppendLies
import Derived.KernelRfl
import Derived.Test.YtbgbjgedjmhcaaaKDf
set_option linter.unnecessarySimpa false
set_option linter.unusedSimpArgs false
set_option linter.unusedVariables false
set_option maxHeartbeats 16000000
set_option maxRecDepth 10000
namespace Go.Proofs.Ytbgbjgedjmhcaaa.OldD
open Go.ChangeShapes Go.WideShapes Go.ChangeAt Go.RowKit
structure Sc where
  S : List Int
  kn : Bool
  v : Int
def sf (G : Nat → Nat × Nat) (f : Nat → Sc) (i j : Nat) : Value := if j = 0 then .slice (some ⟨(G i).1, 0, none⟩) (f i).S.length (G i).2 else if j = 1 then .bool (f i).kn else .int .u64 (f i).v
def up {α : Type} (f : Nat → α) (i : Nat) (x : α) : Nat → α := fun j => if j = i then x else f j
theorem up_eq {α : Type} (f : Nat → α) (i : Nat) (x : α) : up f i x i = x := if_pos rfl
theorem up_ne {α : Type} (f : Nat → α) {i j : Nat} (h : j ≠ i) (x : α) : up f i x j = f j := if_neg h
structure TK (W : World) (t b cb n : Nat) (G : Nat → Nat × Nat) (f : Nat → Sc) : Prop where
  blk : W.ownsRow 0 177 1 (.slice (some ⟨t, 0, none⟩) 1 1) 1 [.slice (some ⟨b, 0, none⟩) n cb]
  row : ∃ cr, W.ownsRow 0 179 3 (.slice (some ⟨b, 0, none⟩) n cr) n (ck 3 n (sf G f))
  inn : ∀ i, i < n → Row W (G i).1 (G i).2 (f i).S
  tb : t ≠ b
  sep : ∀ i, i < n → (G i).1 ≠ t ∧ (G i).1 ≠ b
  lim : n ≤ 1000
  cap : n ≤ cb
theorem TK.blt {W : World} {t b cb n : Nat} {G : Nat → Nat × Nat} {f : Nat → Sc} (h : TK W t b cb n G f) : b < W.heap.size := by obtain ⟨cr, h1⟩ := h.row; exact own_lt h1
theorem TK.gr {W W' : World} {t b cb n : Nat} {G : Nat → Nat × Nat} {f : Nat → Sc} {S : List Nat} (h : TK W t b cb n G f) (hg : Gr S W W') (h1 : t ∉ S) (h2 : b ∉ S) (h3 : ∀ i, i < n → (G i).1 ∉ S) : TK W' t b cb n G f where
  blk := own_gr h.blk hg (fun g hg => by cases hg; exact h1)
  row := by obtain ⟨cr, h1⟩ := h.row; exact ⟨cr, own_gr h1 hg (fun g hg => by cases hg; exact h2)⟩
  inn i hi := (h.inn i hi).gr hg (h3 i hi)
  tb := h.tb
  sep := h.sep
  lim := h.lim
  cap := h.cap
theorem TK.below {W W' : World} {t b cb n : Nat} {G : Nat → Nat × Nat} {f : Nat → Sc} (h : TK W t b cb n G f) (hb : Below W.heap.size W W') : TK W' t b cb n G f := h.gr (Gr.of_below hb []) (by simp) (by simp) (fun _ _ => by simp)
theorem TK.cT {W : World} {t b cb n : Nat} {G : Nat → Nat × Nat} {f : Nat → Sc} (h : TK W t b cb n G f) : W.cell? ⟨t, 0, none⟩ = some (.slice (some ⟨b, 0, none⟩) n cb) := World.ownsRow.cellAt h.blk 0 (by omega)
theorem TK.cS {W : World} {t b cb n : Nat} {G : Nat → Nat × Nat} {f : Nat → Sc} (h : TK W t b cb n G f) {i : Nat} (hi : i < n) :
    W.cell? ⟨b, i * 3, none⟩ = some (.slice (some ⟨(G i).1, 0, none⟩) (f i).S.length (G i).2) ∧ W.cell? ⟨b, i * 3 + 1, none⟩ = some (.bool (f i).kn) ∧ W.cell? ⟨b, i * 3 + 2, none⟩ = some (.int .u64 (f i).v) ∧ ∀ j, W.frozen? ⟨b, j, none⟩ = false := by
  obtain ⟨cr, h1⟩ := h.row
  refine ⟨?_, ?_, ?_, fun j => World.ownsRow.frozenAt h1 j⟩
  · show W.cell? ⟨b, i * 3 + 0, none⟩ = _
    rw [World.ownsRow.cellAt h1 _ (lt_mul (j := 0) hi (by omega)), ck_at (j := 0) _ hi (by omega)]; rfl
  · rw [World.ownsRow.cellAt h1 _ (lt_mul (j := 1) hi (by omega)), ck_at (j := 1) _ hi (by omega)]; rfl
  · rw [World.ownsRow.cellAt h1 _ (lt_mul (j := 2) hi (by omega)), ck_at (j := 2) _ hi (by omega)]; rfl
theorem TK.put {W : World} {t b cb n : Nat} {G : Nat → Nat × Nat} {f : Nat → Sc} (h : TK W t b cb n G f) {i j : Nat} (hj : j < 3) (x : Value) (G' : Nat → Nat × Nat) (f' : Nat → Sc)
    (hs : ∀ a c, a < n → c < 3 → (if a = i ∧ c = j then x else sf G f a c) = sf G' f' a c) (hin : ∀ a, a < n → Row W (G' a).1 (G' a).2 (f' a).S) (hsep : ∀ a, a < n → (G' a).1 ≠ t ∧ (G' a).1 ≠ b) :
    TK (W.setCell ⟨b, i * 3 + j, none⟩ x) t b cb n G' f' where
  blk := own_gr h.blk (set_gr W b _ x) (fun g hg => by cases hg; simpa using h.tb)
  row := by
    obtain ⟨cr, h0⟩ := h.row
    have h1 := (World.ownsRow.stored h0 (i * 3 + j) x).1
    rw [ck_set _ hj, ck_congr hs] at h1
    exact ⟨cr, h1⟩
  inn a ha := (hin a ha).gr (set_gr W b _ x) (by simpa using (hsep a ha).2)
  tb := h.tb
  sep := hsep
  lim := h.lim
  cap := h.cap
theorem TK.put0 {W : World} {t b cb n : Nat} {G : Nat → Nat × Nat} {f : Nat → Sc} (h : TK W t b cb n G f) {i : Nat} (g c : Nat) (X : List Int) (hX : Row W g c X) (h1 : g ≠ t) (h2 : g ≠ b) :
    TK (W.setCell ⟨b, i * 3, none⟩ (.slice (some ⟨g, 0, none⟩) X.length c)) t b cb n (up G i (g, c)) (up f i { f i with S := X }) := by
  refine h.put (i := i) (j := 0) (by omega) _ _ _ (fun a d ha hd => ?_) (fun a ha => ?_) (fun a ha => ?_)
  · by_cases e : a = i
    · subst e
      by_cases e2 : d = 0
      · subst e2; rw [if_pos ⟨rfl, rfl⟩]; unfold sf; rw [if_pos rfl, up_eq, up_eq]
      · rw [if_neg (fun h => e2 h.2)]; unfold sf; rw [if_neg e2, if_neg e2, up_eq]
    · rw [if_neg (fun h => e h.1)]; unfold sf; rw [up_ne _ e, up_ne _ e]
  · by_cases e : a = i
    · subst e; rw [up_eq, up_eq]; exact hX
    · rw [up_ne _ e, up_ne _ e]; exact h.inn a ha
  · by_cases e : a = i
    · subst e; rw [up_eq]; exact ⟨h1, h2⟩
    · rw [up_ne _ e]; exact h.sep a ha
theorem TK.put1 {W : World} {t b cb n : Nat} {G : Nat → Nat × Nat} {f : Nat → Sc} (h : TK W t b cb n G f) {i : Nat} (x : Bool) :
    TK (W.setCell ⟨b, i * 3 + 1, none⟩ (.bool x)) t b cb n G (up f i { f i with kn := x }) := by
  refine h.put (i := i) (j := 1) (by omega) _ _ _ (fun a d ha hd => ?_) (fun a ha => ?_) h.sep
  · by_cases e : a = i
    · subst e
      unfold sf
      rw [up_eq]
      by_cases e2 : d = 1
      · subst e2; rw [if_pos ⟨rfl, rfl⟩]; rfl
      · rw [if_neg (fun h => e2 h.2), if_neg e2, if_neg e2]
    · rw [if_neg (fun h => e h.1)]; unfold sf; rw [up_ne _ e]
  · by_cases e : a = i
    · subst e; rw [up_eq]; exact h.inn a ha
    · rw [up_ne _ e]; exact h.inn a ha
theorem TK.put2 {W : World} {t b cb n : Nat} {G : Nat → Nat × Nat} {f : Nat → Sc} (h : TK W t b cb n G f) {i : Nat} (x : Int) :
    TK (W.setCell ⟨b, i * 3 + 2, none⟩ (.int .u64 x)) t b cb n G (up f i { f i with v := x }) := by
  refine h.put (i := i) (j := 2) (by omega) _ _ _ (fun a d ha hd => ?_) (fun a ha => ?_) h.sep
  · by_cases e : a = i
    · subst e
      unfold sf
      rw [up_eq]
      by_cases e2 : d = 2
      · subst e2; rw [if_pos ⟨rfl, rfl⟩]; rfl
      · have e3 : d = 0 ∨ d = 1 := by omega
        rcases e3 with rfl | rfl
        · rw [if_neg (by omega)]; rfl
        · rw [if_neg (by omega)]; rfl
    · rw [if_neg (fun h => e h.1)]; unfold sf; rw [up_ne _ e]
  · by_cases e : a = i
    · subst e; rw [up_eq]; exact h.inn a ha
    · rw [up_ne _ e]; exact h.inn a ha
theorem row_one (W : World) (x : Int) : Row (W.alloc (.cells #[.int .u64 x] 22)) W.heap.size 1 [x] :=
  World.ownsRow_lit (base := 0) (e := 22) (size := 1) W #[.int .u64 x] 1 (Nat.zero_le _) (by unfold maxLen; omega) rfl
def TS (W W' : World) (t b cb n : Nat) (G : Nat → Nat × Nat) (f' : Nat → Sc) : Prop := ∃ G', TK W' t b cb n G' f' ∧ Gr [t, b] W W' ∧ ∀ i, i < n → G' i = G i ∨ W.heap.size ≤ (G' i).1
def upto (k : Nat) (p : Sc → Sc) (f : Nat → Sc) : Nat → Sc := fun i => if i < k then p (f i) else f i
def pFail (s : Sc) : Sc := { s with kn := false }
def pFlush (s : Sc) : Sc := if s.kn then { s with S := [s.v] } else s
theorem TS.of {W W2 : World} {t b cb n : Nat} {G : Nat → Nat × Nat} {f' : Nat → Sc} {i : Nat} {g c : Nat} (h : TK W2 t b cb n (up G i (g, c)) f') (h1 : Gr [t, b] W W2) (hg : W.heap.size ≤ g) : TS W W2 t b cb n G f' :=
  ⟨_, h, h1, fun j hj => by
    by_cases e : j = i
    · subst e; right; rw [up_eq]; exact hg
    · rw [up_ne _ e]; exact .inl rfl⟩
structure TB (B : Nat) (W : World) (t : Nat) (ua : Option Addr) (uc n : Nat) (G : Nat → Nat × Nat) (f : Nat → Sc) : Prop where
  blk : W.ownsRow 0 177 1 (.slice (some ⟨t, 0, none⟩) 1 1) 1 [.slice ua n uc]
  row : W.ownsRow 0 179 3 (.slice ua n uc) n (ck 3 n (sf G f))
  inn : ∀ i, i < n → Row W (G i).1 (G i).2 (f i).S
  st : B ≤ t
  su : ∀ g, (Value.slice ua n uc).ownBlock = some g → B ≤ g ∧ g ≠ t
  sg : ∀ i, i < n → B ≤ (G i).1 ∧ (G i).1 ≠ t ∧ (Value.slice ua n uc).ownBlock ≠ some (G i).1
theorem TB.below {B : Nat} {W W' : World} {t : Nat} {ua : Option Addr} {uc n : Nat} {G : Nat → Nat × Nat} {f : Nat → Sc} (h : TB B W t ua uc n G f) (hb : Below W.heap.size W W') : TB B W' t ua uc n G f where
  blk := own_gr h.blk (Gr.of_below hb []) (fun _ _ => by simp)
  row := own_gr h.row (Gr.of_below hb []) (fun _ _ => by simp)
  inn i hi := (h.inn i hi).gr (Gr.of_below hb []) (by simp)
  st := h.st
  su := h.su
  sg := h.sg
theorem TB.add {B : Nat} {W : World} {t : Nat} {ua : Option Addr} {uc n : Nat} {G : Nat → Nat × Nat} {f : Nat → Sc} (h : TB B W t ua uc n G f) (hB : B ≤ W.heap.size) (x : Int) (hf : f n = ⟨[x], true, x⟩) (g uc' : Nat) (W1 W2 : World)
    (hW1 : W1 = (W.alloc (.cells #[.int .u64 x] 22)).alloc (.cells #[.slice (some ⟨W.heap.size, 0, none⟩) 1 1, .bool true, .int .u64 x] 179))
    (hr : W2.ownsRow 0 179 3 (.slice (some ⟨g, 0, none⟩) (n + 1) uc') (n + 1) (ck 3 n (sf G f) ++ [.slice (some ⟨W.heap.size, 0, none⟩) 1 1, .bool true, .int .u64 x]))
    (hg : W1.grownBy W2 (Value.slice ua n uc).ownBlock) (hlie : (Value.slice ua n uc).ownBlock = some g ∨ g = W1.heap.size) :
    W2.cell? ⟨t, 0, none⟩ = some (.slice ua n uc) ∧ W2.frozen? ⟨t, 0, none⟩ = false ∧
    TB B (W2.setCell ⟨t, 0, none⟩ (.slice (some ⟨g, 0, none⟩) (n + 1) uc')) t (some ⟨g, 0, none⟩) uc' (n + 1) (up G n (W.heap.size, 1)) f ∧ Below B W (W2.setCell ⟨t, 0, none⟩ (.slice (some ⟨g, 0, none⟩) (n + 1) uc')) := by
  have hs : W1.heap.size = W.heap.size + 2 := by rw [hW1]; simp
  have hb1 : Below W.heap.size W W1 := by rw [hW1]; exact ((Below.refl _ _).alloc (Nat.le_refl _) _).alloc (by simp) _
  have hbb : Below (W.alloc (.cells #[.int .u64 x] 22)).heap.size (W.alloc (.cells #[.int .u64 x] 22)) W1 := by rw [hW1]; exact (Below.refl _ _).alloc (Nat.le_refl _) _
  have hg1 : Gr (Value.slice ua n uc).ownBlock.toList W1 W2 := Gr.of_grown hg (fun k hk => by simp [hk])
  have hG : Gr (Value.slice ua n uc).ownBlock.toList W W2 := (Gr.of_below hb1 _).trans hg1
  have htl : t < W.heap.size := own_lt h.blk
  have hul : ∀ k, (Value.slice ua n uc).ownBlock = some k → k < W.heap.size := fun k hk => (World.ownsRow.lt h.row k hk).2
  have hgt : g ≠ t := by
    rcases hlie with e | e
    · exact (h.su g e).2
    · omega
  have hgB : B ≤ g := by
    rcases hlie with e | e
    · exact (h.su g e).1
    · omega
  have hgW : ∀ i, i < n → (G i).1 ≠ g := fun i hi e => by
    rcases hlie with e2 | e2
    · exact (h.sg i hi).2.2 (by rw [e2, e])
    · have := (h.inn i hi).lt; omega
  have hgn : W.heap.size ≠ g := by
    rcases hlie with e2 | e2
    · have := hul g e2; omega
    · omega
  have tn : t ∉ (Value.slice ua n uc).ownBlock.toList := fun hx => (h.su t (by simpa using hx)).2 rfl
  have b2 := own_gr h.blk hG (fun k hk => by cases hk; exact tn)
  have b3 := (World.ownsRow.stored b2 0 (.slice (some ⟨g, 0, none⟩) (n + 1) uc')).1
  have e1 : ck 3 n (sf G f) ++ [.slice (some ⟨W.heap.size, 0, none⟩) 1 1, .bool true, .int .u64 x] = ck 3 (n + 1) (sf (up G n (W.heap.size, 1)) f) := by
    have e : [Value.slice (some ⟨W.heap.size, 0, none⟩) 1 1, .bool true, .int .u64 x] = ck 3 1 (fun _ j => if j = 0 then .slice (some ⟨W.heap.size, 0, none⟩) 1 1 else if j = 1 then .bool true else .int .u64 x) := by
      simp [ck, List.range_succ]
    rw [e, ck_app]
    refine ck_congr fun i j hi hj => ?_
    by_cases hlt : i < n
    · rw [if_pos hlt]; unfold sf; rw [up_ne _ (by omega)]
    · obtain rfl : i = n := by omega
      rw [if_neg hlt]; unfold sf; rw [up_eq, hf]; rfl
  have r3 := own_gr hr (set_gr W2 t 0 (.slice (some ⟨g, 0, none⟩) (n + 1) uc')) (fun k hk => by cases hk; simpa using hgt)
  rw [e1] at r3
  refine ⟨World.ownsRow.cellAt b2 0 (by omega), World.ownsRow.frozenAt b2 0, ⟨b3, r3, fun i hi => ?_, h.st, fun k hk => by cases hk; exact ⟨hgB, hgt⟩, fun i hi => ?_⟩, (hG.below (B := B) (fun k hk => (h.su k (by simpa using hk)).1) hB).trans ((set_gr W2 t 0 _).below (fun k hk => by obtain rfl := List.mem_singleton.1 hk; exact h.st) (by have := hG.size; omega))⟩
  · by_cases e : i = n
    · subst e
      rw [up_eq, hf]
      have q := ((row_one W x).gr (Gr.of_below hbb []) (by simp)).gr hg1 (fun hx => by have := hul _ (by simpa using hx); omega)
      exact q.gr (set_gr W2 t 0 _) (by simp; omega)
    · rw [up_ne _ e]
      have hi' : i < n := by omega
      exact ((h.inn i hi').gr hG (fun hx => (h.sg i hi').2.2 (by simpa using hx))).gr (set_gr W2 t 0 _) (by simpa using (h.sg i hi').2.1)
  · by_cases e : i = n
    · subst e; rw [up_eq]; exact ⟨hB, by show W.heap.size ≠ t; omega, fun hx => by cases hx; exact hgn rfl⟩
    · rw [up_ne _ e]
      have hi' : i < n := by omega
      exact ⟨(h.sg i hi').1, (h.sg i hi').2.1, fun hx => by injection hx with hx; exact hgW i hi' hx.symm⟩
structure RoU (W : World) (p off : Nat) (X : List Int) : Prop where
  lt : p < W.heap.size
  cl : ∀ j, j < X.length → W.cell? ⟨p, off + j, none⟩ = some (.int .u64 (ge X j))
theorem RoU.gr {W W' : World} {p off : Nat} {X : List Int} {S : List Nat} (h : RoU W p off X) (hg : Gr S W W') (hn : p ∉ S) : RoU W' p off X :=
  ⟨Nat.lt_of_lt_of_le h.lt hg.size, fun j hj => (hg.cell (p := ⟨p, off + j, none⟩) h.lt hn).trans (h.cl j hj)⟩
end Go.Proofs.Ytbgbjgedjmhcaaa.OldD
namespace Go.Proofs.Ytbgbjgedjmhcaaa
open OldD (Dk Un Wr Sc gu gf ge hs hd hd_iff chk3 chk4 rdV wrE wrK flK reK stF stU rs1 rs2 rs1_keep rs2_keep stU_keep wrote up up_eq up_ne upto pFail pFlush gf_mem gu_set ge_set)
def nw (k : Dk) (d t : Nat) : Int := ge (gu k.U d).now t
def du (k : Dk) (d t : Nat) : Int := ge (gu k.U d).dur t
def lastW (F : List Wr) (d t : Nat) (x : Int) : Int := F.foldl (fun x w => if w.d = d ∧ w.at' = t then w.v else x) x
theorem lastW_app (F : List Wr) (w : Wr) (d t : Nat) (x : Int) : lastW (F ++ [w]) d t x = if w.d = d ∧ w.at' = t then w.v else lastW F d t x := by
  unfold lastW; rw [List.foldl_append]; rfl
theorem lastW_cons (F : List Wr) (w : Wr) (d t : Nat) (x : Int) : lastW (w :: F) d t x = lastW F d t (if w.d = d ∧ w.at' = t then w.v else x) := rfl
theorem lastW_none : ∀ (F : List Wr) (d t : Nat) (x : Int), (∀ w ∈ F, ¬ (w.d = d ∧ w.at' = t)) → lastW F d t x = x
  | [], _, _, _, _ => rfl
  | w :: F, d, t, x, h => by
    rw [lastW_cons, if_neg (h w (List.mem_cons_self ..))]
    exact lastW_none F d t x fun w' hw => h w' (List.mem_cons_of_mem _ hw)
theorem lastW_mem : ∀ (F : List Wr) (d t : Nat) (x : Int), lastW F d t x = x ∨ ∃ w ∈ F, w.d = d ∧ w.at' = t ∧ lastW F d t x = w.v
  | [], _, _, _ => .inl rfl
  | w :: F, d, t, x => by
    rw [lastW_cons]
    rcases lastW_mem F d t (if w.d = d ∧ w.at' = t then w.v else x) with h | ⟨w', h1, h2⟩
    · rw [h]
      by_cases e : w.d = d ∧ w.at' = t
      · rw [if_pos e]; exact .inr ⟨w, List.mem_cons_self .., e.1, e.2, rfl⟩
      · rw [if_neg e]; exact .inl rfl
    · exact .inr ⟨w', List.mem_cons_of_mem _ h1, h2⟩
theorem lastW_filter (e : Nat) : ∀ (F : List Wr) (d t : Nat) (x : Int), d ≠ e → lastW (stF F e) d t x = lastW F d t x
  | [], _, _, _, _ => rfl
  | w :: F, d, t, x, h => by
    have ih := lastW_filter e F d t
    unfold stF at ih ⊢
    by_cases hw : w.d = e
    · rw [List.filter_cons_of_neg (by simpa using hw), ih _ h, lastW_cons, if_neg (fun (c : w.d = d ∧ w.at' = t) => h (c.1.symm.trans hw))]
    · rw [List.filter_cons_of_pos (by simpa using hw), lastW_cons, lastW_cons, ih _ h]
structure Gk (k : Dk) (n : Nat) (sz : Nat → Nat) (c : Nat) : Prop where
  ul : k.U.length = n
  ln : ∀ d, d < n → (gu k.U d).now.length = sz d ∧ (gu k.U d).dur.length = sz d
  ms : ∀ d, d < n → (gu k.U d).mis = false
  bd : ∀ x y, k.bad x y = false
  fz : 0 ≤ k.fuse ∧ k.fuse ≤ 1000000
  FI : ∀ w ∈ k.F, w.d < n ∧ w.at' < sz w.d
  fl : k.F.length ≤ c
  wr : 0 ≤ k.wr ∧ k.wr ≤ c
  ap : ∀ d t, d < n → t < sz d → nw k d t = lastW k.F d t (du k d t)
theorem Gk.mono {k : Dk} {n : Nat} {sz : Nat → Nat} {c c' : Nat} (h : Gk k n sz c) (hc : c ≤ c') : Gk k n sz c' :=
  { h with fl := Nat.le_trans h.fl hc, wr := ⟨h.wr.1, by have := h.wr.2; omega⟩ }
theorem Gk.bdd {k : Dk} {n : Nat} {sz : Nat → Nat} {c : Nat} (h : Gk k n sz c) (hc : c ≤ 100000) : Bd k := by
  unfold Bd
  have := h.fz; have := h.fl; have := h.wr
  omega
theorem Gk.hs {k : Dk} {n : Nat} {sz : Nat → Nat} {c : Nat} (h : Gk k n sz c) {d t : Nat} (hd' : d < n) (ht : t < sz d) : OldD.hs k (d : Int) (t : Int) = true := by
  have := h.ul; have := (h.ln d hd').1
  simp only [OldD.hs, hd]
  simp
  omega
theorem Gk.chk {k : Dk} {n : Nat} {sz : Nat → Nat} {c : Nat} (h : Gk k n sz c) (hdn : k.down = false) {d t : Nat} (hd' : d < n) (ht : t < sz d) : chk3 k (d : Int) (t : Int) = 0 ∧ chk4 k (d : Int) (t : Int) = 0 := by
  have h1 := h.hs hd' ht
  have h2 : (gu k.U (d : Int).toNat).mis = false := h.ms d hd'
  unfold chk3 chk4
  rw [hdn, h1, h2, h.bd]
  exact ⟨rfl, rfl⟩
theorem Gk.rd {k : Dk} {n : Nat} {sz : Nat → Nat} {c : Nat} (h : Gk k n sz c) (hdn : k.down = false) {d t : Nat} (hd' : d < n) (ht : t < sz d) : rdV k (d : Int) (t : Int) = nw k d t := by
  unfold rdV
  rw [if_pos (h.chk hdn hd' ht).2]
  rfl
theorem Gk.sz {k : Dk} {n : Nat} {sz : Nat → Nat} {c : Nat} (h : Gk k n sz c) {d : Nat} (hd' : d < n) : szV k (d : Int) = (sz d : Int) := by
  have := h.ul
  unfold szV
  rw [if_pos (by simp [hd]; omega)]
  exact congrArg _ (h.ln d hd').1
theorem Gk.wr_ok {k : Dk} {n : Nat} {sz : Nat → Nat} {c : Nat} (h : Gk k n sz c) (hdn : k.down = false) (hf : k.fuse ≠ 1) {d t : Nat} (hd' : d < n) (ht : t < sz d) (v : Int) :
    wrE k (d : Int) (t : Int) = 0 ∧ Gk (wrK k (d : Int) (t : Int) v) n sz (c + 1) ∧ (wrK k (d : Int) (t : Int) v).down = false ∧ (wrK k (d : Int) (t : Int) v).F = k.F ++ [⟨d, t, v⟩] ∧
    (∀ e u, nw (wrK k (d : Int) (t : Int) v) e u = if e = d ∧ u = t then v else nw k e u) ∧ ∀ e u, du (wrK k (d : Int) (t : Int) v) e u = du k e u := by
  have hc := (h.chk hdn hd' ht).1
  obtain ⟨z, hz⟩ : ∃ z, z = (if 0 < k.fuse then k.fuse - 1 else k.fuse) := ⟨_, rfl⟩
  have hz2 : 0 ≤ z ∧ z ≤ 1000000 := by have := h.fz; rw [hz]; split <;> omega
  have e : wrK k (d : Int) (t : Int) v = wrote { k with fuse := z } d t v := by unfold wrK; rw [if_pos hc, if_neg hf, hz]; rfl
  have hln := h.ln d hd'
  have hul := h.ul
  have eg : ∀ x, gu (wrote { k with fuse := z } d t v).U x = if x = d ∧ d < k.U.length then { gu k.U d with now := (gu k.U d).now.set t v } else gu k.U x := fun x => by
    show gu (k.U.set d _) x = _
    rw [gu_set]
  have en : ∀ e u, nw (wrote { k with fuse := z } d t v) e u = if e = d ∧ u = t then v else nw k e u := fun e u => by
    unfold nw
    rw [eg]
    by_cases h1 : d = e
    · subst h1
      rw [if_pos ⟨rfl, by omega⟩]
      show ge ((gu k.U d).now.set t v) u = _
      rw [ge_set]
      by_cases h2 : t = u
      · subst h2; rw [if_pos ⟨rfl, by omega⟩, if_pos ⟨rfl, rfl⟩]
      · rw [if_neg (fun c => h2 c.1), if_neg (fun c => h2 c.2.symm)]
    · rw [if_neg (fun c => h1 c.1.symm), if_neg (fun c => h1 c.1.symm)]
  have ed : ∀ e u, du (wrote { k with fuse := z } d t v) e u = du k e u := fun e u => by
    unfold du
    rw [eg]
    split
    · rename_i h1; rw [h1.1]
    · rfl
  refine ⟨by unfold wrE; rw [if_pos hc, if_neg hf], ?_⟩
  rw [e]
  refine ⟨?_, hdn, rfl, en, ed⟩
  exact {
    ul := by show (k.U.set d _).length = n; rw [List.length_set]; exact hul
    ln := fun x hx => by
      rw [eg]
      split
      · rename_i h1; rw [h1.1]; exact ⟨by rw [List.length_set]; exact hln.1, hln.2⟩
      · exact h.ln x hx
    ms := fun x hx => by
      rw [eg]
      split
      · rename_i h1; exact h.ms d hd'
      · exact h.ms x hx
    bd := fun x y => by show (if _ then false else k.bad x y) = false; split; rfl; exact h.bd x y
    fz := hz2
    FI := fun w hw => by
      rcases List.mem_append.1 (show w ∈ k.F ++ [(⟨d, t, v⟩ : Wr)] from hw) with hw | hw
      · exact h.FI w hw
      · rw [List.mem_singleton.1 hw]; exact ⟨hd', ht⟩
    fl := by show (k.F ++ [_]).length ≤ c + 1; have := h.fl; simp; exact this
    wr := by show 0 ≤ k.wr + 1 ∧ k.wr + 1 ≤ ((c + 1 : Nat) : Int); have := h.wr; omega
    ap := fun x u hx hu => by
      rw [en, ed]
      show _ = lastW (k.F ++ [(⟨d, t, v⟩ : Wr)]) x u (du k x u)
      rw [lastW_app, ← h.ap x u hx hu]
      by_cases h1 : x = d ∧ u = t
      · rw [if_pos h1, if_pos ⟨h1.1.symm, h1.2.symm⟩]
      · rw [if_neg h1, if_neg (fun c => h1 ⟨c.1.symm, c.2.symm⟩)] }
theorem Gk.wr_no {k : Dk} {n : Nat} {sz : Nat → Nat} {c : Nat} (h : Gk k n sz c) (hdn : k.down = false) (hf : k.fuse = 1) {d t : Nat} (hd' : d < n) (ht : t < sz d) (v : Int) :
    wrE k (d : Int) (t : Int) = 5 ∧ Gk (wrK k (d : Int) (t : Int) v) n sz c ∧ (wrK k (d : Int) (t : Int) v).F = k.F ∧ ∀ e u, du (wrK k (d : Int) (t : Int) v) e u = du k e u := by
  have hc := (h.chk hdn hd' ht).1
  have e : wrK k (d : Int) (t : Int) v = { k with fuse := 0, down := true } := by unfold wrK; rw [if_pos hc, if_pos hf]
  refine ⟨by unfold wrE; rw [if_pos hc, if_pos hf], ?_⟩
  rw [e]
  exact ⟨{ h with fz := by show (0 : Int) ≤ 0 ∧ (0 : Int) ≤ 1000000; omega }, rfl, fun _ _ => rfl⟩
theorem stU_at (d : Nat) : ∀ (F : List Wr) (V : List Un) (e u : Nat), ge (gu (stU d true V F) e).dur u = if e = d ∧ d < V.length ∧ u < (gu V d).dur.length then lastW F d u (ge (gu V d).dur u) else ge (gu V e).dur u
  | [], V, e, u => by
    split
    · rename_i h; rw [h.1]; rfl
    · rfl
  | w :: F, V, e, u => by
    show ge (gu (stU d true (if w.d = d ∧ true = true then V.set d { gu V d with dur := (gu V d).dur.set w.at' w.v } else V) F) e).dur u = _
    rw [stU_at d F]
    by_cases hw : w.d = d
    · rw [if_pos (⟨hw, rfl⟩ : w.d = d ∧ true = true)]
      by_cases hl : d < V.length
      · have e1 : gu (V.set d { gu V d with dur := (gu V d).dur.set w.at' w.v }) d = { gu V d with dur := (gu V d).dur.set w.at' w.v } := by rw [gu_set, if_pos ⟨rfl, hl⟩]
        rw [e1, List.length_set]
        dsimp only
        rw [List.length_set]
        by_cases hc : e = d ∧ d < V.length ∧ u < (gu V d).dur.length
        · rw [if_pos hc, if_pos hc, lastW_cons, ge_set]
          by_cases hu : w.at' = u
          · rw [if_pos ⟨hu, by rw [hu]; exact hc.2.2⟩, if_pos ⟨hw, hu⟩]
          · rw [if_neg (fun c => hu c.1), if_neg (fun c => hu c.2)]
        · rw [if_neg hc, if_neg hc, gu_set]
          by_cases he : e = d
          · subst he
            rw [if_pos ⟨rfl, hl⟩]
            show ge ((gu V e).dur.set w.at' w.v) u = _
            rw [ge_set, if_neg (fun c => hc ⟨rfl, hl, by rw [← c.1]; exact c.2⟩)]
          · rw [if_neg (fun c => he c.1)]
      · have e1 : V.set d { gu V d with dur := (gu V d).dur.set w.at' w.v } = V := by rw [List.set_eq_of_length_le (by omega)]
        rw [e1, if_neg (fun c => hl c.2.1), if_neg (fun c => hl c.2.1)]
    · rw [if_neg (fun (c : w.d = d ∧ true = true) => hw c.1)]
      by_cases hc : e = d ∧ d < V.length ∧ u < (gu V d).dur.length
      · rw [if_pos hc, if_pos hc, lastW_cons, if_neg (fun c => hw c.1)]
      · rw [if_neg hc, if_neg hc]
theorem stU_len (d : Nat) : ∀ (F : List Wr) (V : List Un) (e : Nat), (gu (stU d true V F) e).dur.length = (gu V e).dur.length
  | [], _, _ => rfl
  | w :: F, V, e => by
    show (gu (stU d true (if w.d = d ∧ true = true then V.set d { gu V d with dur := (gu V d).dur.set w.at' w.v } else V) F) e).dur.length = _
    rw [stU_len d F]
    split
    · rw [gu_set]
      split
      · rename_i h; rw [h.1]; exact List.length_set
      · rfl
    · rfl
theorem Gk.flush {k : Dk} {n : Nat} {sz : Nat → Nat} {c : Nat} (h : Gk k n sz c) (hdn : k.down = false) {d : Nat} (hd' : d < n) (h0 : 0 < sz d) :
    chk3 k (d : Int) 0 = 0 ∧ Gk (flK k (d : Int)) n sz c ∧ (flK k (d : Int)).down = false ∧ (flK k (d : Int)).fuse = k.fuse ∧ (flK k (d : Int)).F = stF k.F d ∧
    (∀ e u, nw (flK k (d : Int)) e u = nw k e u) ∧ ∀ e u, e < n → u < sz e → du (flK k (d : Int)) e u = if e = d then nw k e u else du k e u := by
  have hc : chk3 k (d : Int) 0 = 0 := (h.chk hdn hd' (t := 0) h0).1
  have e : flK k (d : Int) = { k with U := stU d true k.U k.F, F := stF k.F d } := by unfold flK; rw [if_pos hc]; rfl
  have hk := stU_keep d true k.U k.F
  have hul := h.ul
  have hsub : ∀ w ∈ stF k.F d, w ∈ k.F ∧ w.d ≠ d := fun w hw => by
    unfold stF at hw
    rw [List.mem_filter] at hw
    exact ⟨hw.1, by simpa using hw.2⟩
  have en : ∀ e u, nw ({ k with U := stU d true k.U k.F, F := stF k.F d } : Dk) e u = nw k e u := fun e u => by
    show ge (gu (stU d true k.U k.F) e).now u = _
    rw [(hk.2 e).1]; rfl
  have ed : ∀ e u, e < n → u < sz e → du ({ k with U := stU d true k.U k.F, F := stF k.F d } : Dk) e u = if e = d then nw k e u else du k e u := fun x u he hu => by
    show ge (gu (stU d true k.U k.F) x).dur u = _
    rw [stU_at]
    by_cases h1 : x = d
    · subst h1
      rw [if_pos ⟨rfl, by omega, by rw [(h.ln x he).2]; exact hu⟩, if_pos rfl, h.ap x u he hu]; rfl
    · rw [if_neg (fun c => h1 c.1), if_neg h1]; rfl
  refine ⟨hc, ?_⟩
  rw [e]
  refine ⟨?_, hdn, rfl, rfl, en, ed⟩
  exact {
    ul := by show (stU d true k.U k.F).length = n; rw [hk.1]; exact hul
    ln := fun x hx => ⟨by show (gu (stU d true k.U k.F) x).now.length = _; rw [(hk.2 x).1]; exact (h.ln x hx).1, by show (gu (stU d true k.U k.F) x).dur.length = _; rw [stU_len]; exact (h.ln x hx).2⟩
    ms := fun x hx => by show (gu (stU d true k.U k.F) x).mis = false; rw [(hk.2 x).2]; exact h.ms x hx
    bd := h.bd
    fz := h.fz
    FI := fun w hw => h.FI w (hsub w hw).1
    fl := Nat.le_trans (List.length_filter_le ..) h.fl
    wr := h.wr
    ap := fun x u hx hu => by
      rw [en, ed x u hx hu]
      show _ = lastW (stF k.F d) x u _
      by_cases h1 : x = d
      · rw [if_pos h1, lastW_none]
        exact fun w hw c => (hsub w hw).2 (c.1.trans h1)
      · rw [if_neg h1, lastW_filter d _ _ _ _ h1]; exact h.ap x u hx hu }
theorem Gk.fused {k : Dk} {n : Nat} {sz : Nat → Nat} {c : Nat} (h : Gk k n sz c) (x : Int) (hx : x ≤ 1000000) : Gk { k with fuse := max x 0 } n sz c :=
  { h with fz := by show 0 ≤ max x 0 ∧ max x 0 ≤ 1000000; omega }
theorem rs1_cand (F : List Wr) (kp : Nat → Bool) (U : List Un) : ∀ j, j ≤ F.length → ∀ d t, ge (gu (rs1 F kp U j) d).dur t = ge (gu U d).dur t ∨ ∃ w ∈ F, w.d = d ∧ w.at' = t ∧ ge (gu (rs1 F kp U j) d).dur t = w.v := by
  intro j
  induction j with
  | zero => exact fun _ d t => .inl rfl
  | succ j ih =>
    intro hj d t
    have ih := ih (by omega) d t
    have hg := gf_mem (F := F) (k := j) hj
    unfold rs1
    split
    · rw [gu_set]
      split
      · rename_i h1
        show ge ((gu (rs1 F kp U j) (gf F j).d).dur.set (gf F j).at' (gf F j).v) t = _ ∨ _
        rw [ge_set]
        split
        · rename_i h2
          exact .inr ⟨gf F j, hg, h1.1.symm, h2.1, rfl⟩
        · rename_i h2
          rw [← h1.1]
          rcases ih with ih | ⟨w, w1, w2, w3, w4⟩
          · exact .inl ih
          · exact .inr ⟨w, w1, w2, w3, w4⟩
      · exact ih
    · exact ih
theorem rs2_at2 (F : List Wr) (U : List Un) (hl : ∀ d, d < U.length → (gu U d).dur.length = (gu U d).now.length) (d x : Nat) (hd : d < U.length) (hx : x < (gu U d).now.length) : ∀ j, j ≤ F.length → ge (gu (rs2 F U j) d).now x = if ∃ w ∈ F.take j, w.d = d ∧ w.at' = x then ge (gu U d).dur x else ge (gu U d).now x := by
  intro j
  induction j with
  | zero => intro _; rw [if_neg (by rintro ⟨w, hw, _⟩; simp at hw)]; rfl
  | succ j ih =>
    intro hj
    have ih := ih (by omega)
    have hk := rs2_keep F U j
    have htk : ∀ w, w ∈ F.take (j + 1) ↔ w ∈ F.take j ∨ w = gf F j := fun w => by
      rw [List.take_succ_eq_append_getElem hj, List.mem_append, List.mem_singleton]
      unfold gf
      rw [List.getElem?_eq_getElem hj]
      exact Iff.rfl
    unfold rs2
    rw [gu_set]
    by_cases h1 : (gf F j).d = d
    · rw [h1, if_pos ⟨rfl, by rw [hk.1]; exact hd⟩]
      show ge ((gu (rs2 F U j) d).now.set (gf F j).at' (ge (gu (rs2 F U j) d).dur (gf F j).at')) x = _
      rw [ge_set]
      by_cases h2 : (gf F j).at' = x
      · rw [if_pos ⟨h2, by rw [h2, (hk.2 d).2.2]; exact hx⟩, if_pos ⟨gf F j, (htk _).2 (.inr rfl), h1, h2⟩, (hk.2 d).1, h2]
      · rw [if_neg (fun c => h2 c.1), ih]
        by_cases h3 : ∃ w ∈ F.take j, w.d = d ∧ w.at' = x
        · rw [if_pos h3, if_pos (by obtain ⟨w, w1, w2⟩ := h3; exact ⟨w, (htk w).2 (.inl w1), w2⟩)]
        · rw [if_neg h3, if_neg]
          rintro ⟨w, w1, w2⟩
          rcases (htk w).1 w1 with w1 | w1
          · exact h3 ⟨w, w1, w2⟩
          · rw [w1] at w2; exact h2 w2.2
    · rw [if_neg (fun c => h1 c.1.symm), ih]
      by_cases h3 : ∃ w ∈ F.take j, w.d = d ∧ w.at' = x
      · rw [if_pos h3, if_pos (by obtain ⟨w, w1, w2⟩ := h3; exact ⟨w, (htk w).2 (.inl w1), w2⟩)]
      · rw [if_neg h3, if_neg]
        rintro ⟨w, w1, w2⟩
        rcases (htk w).1 w1 with w1 | w1
        · exact h3 ⟨w, w1, w2⟩
        · rw [w1] at w2; exact h1 w2.1
theorem Gk.back {k : Dk} {n : Nat} {sz : Nat → Nat} {c : Nat} (h : Gk k n sz c) (kp : Nat → Bool) :
    Gk (reK k kp) n sz c ∧ (reK k kp).down = false ∧ (reK k kp).F = [] ∧ (∀ d t, d < n → t < sz d → nw (reK k kp) d t = du (reK k kp) d t) ∧
    ∀ d t, d < n → t < sz d → nw (reK k kp) d t = du k d t ∨ ∃ w ∈ k.F, w.d = d ∧ w.at' = t ∧ nw (reK k kp) d t = w.v := by
  have hk1 := rs1_keep k.F kp k.U k.F.length
  have hk2 := rs2_keep k.F (rs1 k.F kp k.U k.F.length) k.F.length
  have hul := h.ul
  have hl : ∀ d, d < (rs1 k.F kp k.U k.F.length).length → (gu (rs1 k.F kp k.U k.F.length) d).dur.length = (gu (rs1 k.F kp k.U k.F.length) d).now.length := fun d hd => by
    rw [hk1.1] at hd
    rw [(hk1.2 d).2.2, (hk1.2 d).1, (h.ln d (by omega)).1, (h.ln d (by omega)).2]
  have hdu : ∀ d t, du (reK k kp) d t = ge (gu (rs1 k.F kp k.U k.F.length) d).dur t := fun d t => by
    show ge (gu (rs2 k.F (rs1 k.F kp k.U k.F.length) k.F.length) d).dur t = _
    rw [(hk2.2 d).1]
  have key : ∀ d t, d < n → t < sz d → nw (reK k kp) d t = du (reK k kp) d t := fun d t hd ht => by
    show ge (gu (rs2 k.F (rs1 k.F kp k.U k.F.length) k.F.length) d).now t = _
    rw [rs2_at2 _ _ hl d t (by rw [hk1.1]; omega) (by rw [(hk1.2 d).1, (h.ln d hd).1]; exact ht) _ (Nat.le_refl _), List.take_length, hdu]
    split
    · rfl
    · rename_i h1
      have hn : ∀ w ∈ k.F, ¬ (w.d = d ∧ w.at' = t) := fun w hw c => h1 ⟨w, hw, c⟩
      rw [(hk1.2 d).1]
      rcases rs1_cand k.F kp k.U k.F.length (Nat.le_refl _) d t with h2 | ⟨w, w1, w2, w3, _⟩
      · rw [h2]
        have := h.ap d t hd ht
        rw [lastW_none _ _ _ _ hn] at this
        exact this
      · exact absurd ⟨w2, w3⟩ (hn w w1)
  refine ⟨?_, rfl, rfl, key, fun d t hd ht => ?_⟩
  · exact {
      ul := by show (rs2 k.F (rs1 k.F kp k.U k.F.length) k.F.length).length = n; rw [hk2.1, hk1.1]; exact hul
      ln := fun d hd => ⟨by show (gu (rs2 k.F (rs1 k.F kp k.U k.F.length) k.F.length) d).now.length = _; rw [(hk2.2 d).2.2, (hk1.2 d).1]; exact (h.ln d hd).1, by show (gu (rs2 k.F (rs1 k.F kp k.U k.F.length) k.F.length) d).dur.length = _; rw [(hk2.2 d).1, (hk1.2 d).2.2]; exact (h.ln d hd).2⟩
      ms := fun d hd => by show (gu (rs2 k.F (rs1 k.F kp k.U k.F.length) k.F.length) d).mis = false; rw [(hk2.2 d).2.1, (hk1.2 d).2.1]; exact h.ms d hd
      bd := h.bd
      fz := by show (0 : Int) ≤ 0 ∧ (0 : Int) ≤ 1000000; omega
      FI := fun w hw => by cases hw
      fl := Nat.zero_le _
      wr := h.wr
      ap := fun d t hd ht => key d t hd ht }
  · rw [key d t hd ht, hdu]
    exact rs1_cand k.F kp k.U k.F.length (Nat.le_refl _) d t
structure Lay (n : Nat) (sz : Nat → Nat) (N : Nat) (pl : Nat → Nat × Nat) : Prop where
  inr : ∀ i, i < N → (pl i).1 < n ∧ (pl i).2 < sz (pl i).1
  inj : ∀ i j, i < N → j < N → (pl i).1 = (pl j).1 → (pl i).2 = (pl j).2 → i = j
structure Sp (k : Dk) (n : Nat) (sz : Nat → Nat) (N : Nat) (pl : Nat → Nat × Nat) (f : Nat → Sc) (c : Nat) : Prop where
  g : Gk k n sz c
  dS : ∀ i, i < N → du k (pl i).1 (pl i).2 ∈ (f i).S
  FS : ∀ i, i < N → ∀ w ∈ k.F, w.d = (pl i).1 → w.at' = (pl i).2 → w.v ∈ (f i).S
  sl : ∀ i, i < N → (f i).S.length ≤ c + 1
structure Rn (k : Dk) (n : Nat) (sz : Nat → Nat) (N : Nat) (pl : Nat → Nat × Nat) (f : Nat → Sc) (c : Nat) : Prop where
  s : Sp k n sz N pl f c
  down : k.down = false
  kn : ∀ i, i < N → (f i).kn = true ∧ (f i).v = nw k (pl i).1 (pl i).2
theorem Sp.mono {k : Dk} {n : Nat} {sz : Nat → Nat} {N : Nat} {pl : Nat → Nat × Nat} {f : Nat → Sc} {c c' : Nat} (h : Sp k n sz N pl f c) (hc : c ≤ c') : Sp k n sz N pl f c' :=
  ⟨h.g.mono hc, h.dS, h.FS, fun i hi => by have := h.sl i hi; omega⟩
theorem Rn.mono {k : Dk} {n : Nat} {sz : Nat → Nat} {N : Nat} {pl : Nat → Nat × Nat} {f : Nat → Sc} {c c' : Nat} (h : Rn k n sz N pl f c) (hc : c ≤ c') : Rn k n sz N pl f c' := ⟨h.s.mono hc, h.down, h.kn⟩
theorem Sp.nwS {k : Dk} {n : Nat} {sz : Nat → Nat} {N : Nat} {pl : Nat → Nat × Nat} {f : Nat → Sc} {c : Nat} (h : Sp k n sz N pl f c) (L : Lay n sz N pl) {i : Nat} (hi : i < N) : nw k (pl i).1 (pl i).2 ∈ (f i).S := by
  obtain ⟨h1, h2⟩ := L.inr i hi
  rw [h.g.ap _ _ h1 h2]
  rcases lastW_mem k.F (pl i).1 (pl i).2 (du k (pl i).1 (pl i).2) with e | ⟨w, w1, w2, w3, w4⟩
  · rw [e]; exact h.dS i hi
  · rw [w4]; exact h.FS i hi w w1 w2 w3
def wrS (f : Nat → Sc) (t : Nat) (v : Int) (d : Bool) : Nat → Sc := up f t ⟨(f t).S ++ [v], d, v⟩
theorem wrS_at (f : Nat → Sc) (t : Nat) (v : Int) (d : Bool) (j : Nat) : (wrS f t v d j).S = (f j).S ∨ (wrS f t v d j).S = (f j).S ++ [v] := by
  unfold wrS
  by_cases e : j = t
  · subst e; rw [up_eq]; exact .inr rfl
  · rw [up_ne _ e]; exact .inl rfl
theorem wrS_mem (f : Nat → Sc) (t : Nat) (v : Int) (d : Bool) (j : Nat) {x : Int} (h : x ∈ (f j).S) : x ∈ (wrS f t v d j).S := by
  rcases wrS_at f t v d j with e | e
  · rw [e]; exact h
  · rw [e]; exact List.mem_append_left _ h
theorem wrS_len (f : Nat → Sc) (t : Nat) (v : Int) (d : Bool) (j : Nat) : (wrS f t v d j).S.length ≤ (f j).S.length + 1 := by
  rcases wrS_at f t v d j with e | e
  · rw [e]; omega
  · rw [e]; simp
theorem Rn.wr_ok {k : Dk} {n : Nat} {sz : Nat → Nat} {N : Nat} {pl : Nat → Nat × Nat} {f : Nat → Sc} {c : Nat} (h : Rn k n sz N pl f c) (L : Lay n sz N pl) {i : Nat} (hi : i < N) (v : Int) (hf : k.fuse ≠ 1) :
    wrE k ((pl i).1 : Int) ((pl i).2 : Int) = 0 ∧ Rn (wrK k ((pl i).1 : Int) ((pl i).2 : Int) v) n sz N pl (wrS f i v true) (c + 1) := by
  obtain ⟨h1, h2⟩ := L.inr i hi
  obtain ⟨e0, g, dn, eF, en, ed⟩ := h.s.g.wr_ok h.down hf h1 h2 v
  refine ⟨e0, ⟨g, fun j hj => ?_, fun j hj w hw w1 w2 => ?_, fun j hj => ?_⟩, dn, fun j hj => ?_⟩
  · rw [ed]; exact wrS_mem _ _ _ _ _ (h.s.dS j hj)
  · rw [eF] at hw
    rcases List.mem_append.1 hw with hw | hw
    · exact wrS_mem _ _ _ _ _ (h.s.FS j hj w hw w1 w2)
    · obtain rfl := List.mem_singleton.1 hw
      obtain rfl := L.inj i j hi hj w1 w2
      unfold wrS; rw [up_eq]; simp
  · have := h.s.sl j hj; have := wrS_len f i v true j; omega
  · rw [en]
    unfold wrS
    by_cases e : j = i
    · subst e; rw [up_eq, if_pos ⟨rfl, rfl⟩]; exact ⟨rfl, rfl⟩
    · rw [up_ne _ e, if_neg (fun c => e (L.inj j i hj hi c.1 c.2))]; exact h.kn j hj
theorem Rn.wr_no {k : Dk} {n : Nat} {sz : Nat → Nat} {N : Nat} {pl : Nat → Nat × Nat} {f : Nat → Sc} {c : Nat} (h : Rn k n sz N pl f c) (L : Lay n sz N pl) {i : Nat} (hi : i < N) (v : Int) (hf : k.fuse = 1) :
    wrE k ((pl i).1 : Int) ((pl i).2 : Int) = 5 ∧ Sp (wrK k ((pl i).1 : Int) ((pl i).2 : Int) v) n sz N pl (wrS f i v false) (c + 1) := by
  obtain ⟨h1, h2⟩ := L.inr i hi
  obtain ⟨e0, g, eF, ed⟩ := h.s.g.wr_no h.down hf h1 h2 v
  refine ⟨e0, g.mono (by omega), fun j hj => ?_, fun j hj w hw w1 w2 => ?_, fun j hj => ?_⟩
  · rw [ed]; exact wrS_mem _ _ _ _ _ (h.s.dS j hj)
  · rw [eF] at hw; exact wrS_mem _ _ _ _ _ (h.s.FS j hj w hw w1 w2)
  · have := h.s.sl j hj; have := wrS_len f i v false j; omega
theorem Rn.rd {k : Dk} {n : Nat} {sz : Nat → Nat} {N : Nat} {pl : Nat → Nat × Nat} {f : Nat → Sc} {c : Nat} (h : Rn k n sz N pl f c) (L : Lay n sz N pl) {i : Nat} (hi : i < N) :
    chk4 k ((pl i).1 : Int) ((pl i).2 : Int) = 0 ∧ rdV k ((pl i).1 : Int) ((pl i).2 : Int) = (f i).v := by
  obtain ⟨h1, h2⟩ := L.inr i hi
  exact ⟨(h.s.g.chk h.down h1 h2).2, by rw [h.s.g.rd h.down h1 h2, (h.kn i hi).2]⟩
def Fd (k : Dk) (sz : Nat → Nat) (D : List Nat) : Prop := ∀ d ∈ D, (∀ w ∈ k.F, w.d ≠ d) ∧ ∀ t, t < sz d → du k d t = nw k d t
theorem Rn.flush1 {k : Dk} {n : Nat} {sz : Nat → Nat} {N : Nat} {pl : Nat → Nat × Nat} {f : Nat → Sc} {c : Nat} (h : Rn k n sz N pl f c) (L : Lay n sz N pl) (D : List Nat) (hD : ∀ d ∈ D, d < n) (hF : Fd k sz D) {d : Nat} (hd' : d < n) (h0 : 0 < sz d) :
    chk3 k (d : Int) 0 = 0 ∧ Rn (flK k (d : Int)) n sz N pl f c ∧ Fd (flK k (d : Int)) sz (D ++ [d]) := by
  obtain ⟨e0, g, dn, ef, eF, en, ed⟩ := h.s.g.flush h.down hd' h0
  have hsub : ∀ w ∈ stF k.F d, w ∈ k.F ∧ w.d ≠ d := fun w hw => by
    unfold stF at hw
    rw [List.mem_filter] at hw
    exact ⟨hw.1, by simpa using hw.2⟩
  refine ⟨e0, ⟨⟨g, fun j hj => ?_, fun j hj w hw w1 w2 => ?_, h.s.sl⟩, dn, fun j hj => ?_⟩, fun e he => ?_⟩
  · obtain ⟨h1, h2⟩ := L.inr j hj
    rw [ed _ _ h1 h2]
    split
    · exact h.s.nwS L hj
    · exact h.s.dS j hj
  · rw [eF] at hw; exact h.s.FS j hj w (hsub w hw).1 w1 w2
  · rw [en]; exact h.kn j hj
  · rw [eF]
    rcases List.mem_append.1 he with he | he
    · have := hF e he
      refine ⟨fun w hw => this.1 w (hsub w hw).1, fun t ht => ?_⟩
      rw [ed e t (hD e he) ht, en]
      split
      · rfl
      · exact this.2 t ht
    · obtain rfl := List.mem_singleton.1 he
      exact ⟨fun w hw => (hsub w hw).2, fun t ht => by rw [ed e t hd' ht, en, if_pos rfl]⟩
theorem Rn.flushed {k : Dk} {n : Nat} {sz : Nat → Nat} {N : Nat} {pl : Nat → Nat × Nat} {f : Nat → Sc} {c : Nat} (h : Rn k n sz N pl f c) (L : Lay n sz N pl) (D : List Nat) (hF : Fd k sz D) (hp : ∀ i, i < N → (pl i).1 ∈ D) : Rn k n sz N pl (upto N pFlush f) c := by
  have ef : ∀ j, j < N → upto N pFlush f j = ⟨[(f j).v], (f j).kn, (f j).v⟩ := fun j hj => by
    unfold upto pFlush
    rw [if_pos hj, if_pos (h.kn j hj).1]
  refine ⟨⟨h.s.g, fun j hj => ?_, fun j hj w hw w1 w2 => ?_, fun j hj => ?_⟩, h.down, fun j hj => ?_⟩
  · rw [ef j hj]
    show du k (pl j).1 (pl j).2 ∈ [(f j).v]
    rw [(hF _ (hp j hj)).2 _ (L.inr j hj).2, (h.kn j hj).2]; simp
  · exact absurd w1 ((hF _ (hp j hj)).1 w hw)
  · rw [ef j hj]; simp
  · rw [ef j hj]; exact h.kn j hj
theorem Rn.fused {k : Dk} {n : Nat} {sz : Nat → Nat} {N : Nat} {pl : Nat → Nat × Nat} {f : Nat → Sc} {c : Nat} (h : Rn k n sz N pl f c) (x : Int) (hx : x ≤ 1000000) : Rn { k with fuse := max x 0 } n sz N pl f c :=
  ⟨⟨h.s.g.fused x hx, h.s.dS, h.s.FS, h.s.sl⟩, h.down, h.kn⟩
def rdS (k : Dk) (pl : Nat → Nat × Nat) (f : Nat → Sc) (i : Nat) : Nat → Sc := fun j => if j < i then ⟨[nw k (pl j).1 (pl j).2], true, nw k (pl j).1 (pl j).2⟩ else f j
theorem Sp.back {k : Dk} {n : Nat} {sz : Nat → Nat} {N : Nat} {pl : Nat → Nat × Nat} {f : Nat → Sc} {c : Nat} (h : Sp k n sz N pl f c) (L : Lay n sz N pl) (kp : Nat → Bool) :
    (reK k kp).down = false ∧ Gk (reK k kp) n sz c ∧ (∀ j, j < N → nw (reK k kp) (pl j).1 (pl j).2 ∈ (upto N pFail f j).S ∧ (upto N pFail f j).kn = false ∧ (upto N pFail f j).S.length ≤ c + 1) ∧ Rn (reK k kp) n sz N pl (rdS (reK k kp) pl (upto N pFail f) N) c := by
  obtain ⟨g, dn, eF, e1, e2⟩ := h.g.back kp
  have hS : ∀ j, j < N → upto N pFail f j = { f j with kn := false } := fun j hj => by unfold upto; rw [if_pos hj]; rfl
  have e5 : ∀ j, j < N → rdS (reK k kp) pl (upto N pFail f) N j = ⟨[nw (reK k kp) (pl j).1 (pl j).2], true, nw (reK k kp) (pl j).1 (pl j).2⟩ := fun j hj => if_pos hj
  refine ⟨dn, g, fun j hj => ?_, ⟨g, fun j hj => ?_, fun j hj w hw => ?_, fun j hj => ?_⟩, dn, fun j hj => ?_⟩
  · rw [hS j hj]
    refine ⟨?_, rfl, h.sl j hj⟩
    obtain ⟨h1, h2⟩ := L.inr j hj
    rcases e2 _ _ h1 h2 with e | ⟨w, w1, w2, w3, w4⟩
    · rw [e]; exact h.dS j hj
    · rw [w4]; exact h.FS j hj w w1 w2 w3
  · obtain ⟨h1, h2⟩ := L.inr j hj
    rw [e5 j hj, ← e1 _ _ h1 h2]; simp
  · rw [eF] at hw; cases hw
  · rw [e5 j hj]; simp
  · rw [e5 j hj]; exact ⟨rfl, rfl⟩
end Go.Proofs.Ytbgbjgedjmhcaaa
namespace Go.Proofs.Ytbgbjgedjmhcaaa
open Go.RowKit
open OldD (Dk chk3 chk4 rdV wrE wrK flK reK)
abbrev Act1 := Option (Int × Int)
def actE (k : Dk) : Act1 → Int
  | some x => wrE k 0 x.1
  | none => chk3 k 0 0
def actK (k : Dk) : Act1 → Dk
  | some x => wrK k 0 x.1 x.2
  | none => flK k 0
def seqE (k : Dk) : List Act1 → Int
  | [] => 0
  | a :: r => if actE k a = 0 then seqE (actK k a) r else actE k a
def seqK (k : Dk) : List Act1 → Dk
  | [] => k
  | a :: r => if actE k a = 0 then seqK (actK k a) r else actK k a
theorem seqE_cons (k : Dk) (a : Act1) (r : List Act1) : seqE k (a :: r) = if actE k a = 0 then seqE (actK k a) r else actE k a := rfl
theorem seqK_cons (k : Dk) (a : Act1) (r : List Act1) : seqK k (a :: r) = if actE k a = 0 then seqK (actK k a) r else actK k a := rfl
theorem seq_app : ∀ (A B : List Act1) (k : Dk), seqE k (A ++ B) = (if seqE k A = 0 then seqE (seqK k A) B else seqE k A) ∧ seqK k (A ++ B) = (if seqE k A = 0 then seqK (seqK k A) B else seqK k A)
  | [], B, k => by simp [seqE, seqK]
  | a :: r, B, k => by
    obtain ⟨h1, h2⟩ := seq_app r B (actK k a)
    by_cases h : actE k a = 0
    · simp only [List.cons_append, seqE_cons, seqK_cons, if_pos h]; exact ⟨h1, h2⟩
    · simp [List.cons_append, seqE_cons, seqK_cons, h]
def Bc (k : Dk) (c : Nat) : Prop := (0 ≤ k.fuse ∧ k.fuse ≤ 1000000) ∧ k.F.length ≤ c ∧ 0 ≤ k.wr ∧ k.wr ≤ c
theorem Bc.bd {k : Dk} {c : Nat} (h : Bc k c) (hc : c ≤ 100000) : Bd k := by
  obtain ⟨⟨h1, h2⟩, h3, h4, h5⟩ := h
  unfold Bd
  omega
theorem Bc.mono {k : Dk} {c c' : Nat} (h : Bc k c) (hc : c ≤ c') : Bc k c' := by
  obtain ⟨h1, h3, h4, h5⟩ := h
  exact ⟨h1, by omega, h4, by omega⟩
theorem Bc.act {k : Dk} {c : Nat} (h : Bc k c) (a : Act1) : Bc (actK k a) (c + 1) := by
  obtain ⟨⟨h1, h2⟩, h3, h4, h5⟩ := h
  cases a with
  | some x =>
    show Bc (wrK k 0 x.1 x.2) (c + 1)
    unfold wrK
    split
    · split
      · exact ⟨by show (0 : Int) ≤ 0 ∧ (0 : Int) ≤ 1000000; omega, by show k.F.length ≤ _; omega, h4, by show k.wr ≤ _; omega⟩
      · have e : ∀ z : Int, (OldD.wrote { k with fuse := z } (0 : Int).toNat x.1.toNat x.2).F.length = k.F.length + 1 ∧ (OldD.wrote { k with fuse := z } (0 : Int).toNat x.1.toNat x.2).wr = k.wr + 1 ∧ (OldD.wrote { k with fuse := z } (0 : Int).toNat x.1.toNat x.2).fuse = z := fun z => ⟨by simp [OldD.wrote], rfl, rfl⟩
        refine ⟨?_, ?_, ?_, ?_⟩
        · split
          · rw [(e _).2.2]; omega
          · show 0 ≤ (OldD.wrote k _ _ _).fuse ∧ _; exact ⟨h1, h2⟩
        · split
          · rw [(e _).1]; omega
          · show (OldD.wrote k _ _ _).F.length ≤ _; have := (e k.fuse).1; simp [OldD.wrote]; omega
        · split
          · rw [(e _).2.1]; omega
          · show 0 ≤ k.wr + 1; omega
        · split
          · rw [(e _).2.1]; omega
          · show k.wr + 1 ≤ _; omega
    · exact ⟨⟨h1, h2⟩, by omega, h4, by omega⟩
  | none =>
    show Bc (flK k 0) (c + 1)
    unfold flK
    split
    · exact ⟨⟨h1, h2⟩, Nat.le_trans (List.length_filter_le ..) (by omega), h4, by show k.wr ≤ _; omega⟩
    · exact ⟨⟨h1, h2⟩, by omega, h4, by omega⟩
theorem Bc.seq : ∀ (A : List Act1) {k : Dk} {c : Nat}, Bc k c → Bc (seqK k A) (c + A.length)
  | [], _, _, h => h
  | a :: r, k, c, h => by
    have h1 := h.act a
    unfold seqK
    split
    · have := Bc.seq r h1; exact this.mono (by simp only [List.length_cons]; omega)
    · exact h1.mono (by simp only [List.length_cons]; omega)
theorem sw_any (m : Nat) (k : Dk) (N : Nat) (t v : Int) {c : Nat} (hb : Bc k c) (hc : c ≤ 90000) (ht : 0 ≤ t ∧ t < N) (hN : N ≤ 1000) : CallOK Try.prog 170 [.agg [.ptr 0 0 0 0, I 0, I 0, I N], I t, .val (.int .u64 v)] [(0, .box (dbox m k))] (I (wrE k 0 t)) [(0, some (.box (dbox m (wrK k 0 t v))))] := by
  have h := spwrite_ok m k 0 0 N t v ht ⟨by omega, by omega, by omega⟩ (hb.bd (by omega))
  rw [Int.zero_add] at h
  exact h
theorem sf_any (m : Nat) (k : Dk) (N : Nat) {c : Nat} (hb : Bc k c) (hc : c ≤ 90000) : CallOK Try.prog 167 [.agg [.ptr 0 0 0 0, I 0, I 0, I N]] [(0, .box (dbox m k))] (I (chk3 k 0 0)) [(0, some (.box (dbox m (flK k 0))))] :=
  spflush_any m k 0 0 N (by have := hb.2.1; omega)
def rdP (k : Dk) (n : Nat) : List Int := (List.range n).map fun t => nw k 0 t
theorem rdP_len (k : Dk) (n : Nat) : (rdP k n).length = n := by simp [rdP]
theorem rdP_succ (k : Dk) (n : Nat) : rdP k (n + 1) = rdP k n ++ [nw k 0 n] := by simp [rdP, List.range_succ]
theorem readall_g (m : Nat) (k : Dk) (N n : Nat) {c : Nat} (g : Gk k 1 (fun _ => N) c) (hdn : k.down = false) (hN : N ≤ 1000) (hn : n ≤ N) :
    CallOK Try.prog 62 [.ifc 170 (.agg [.ptr 0 0 0 0, I 0, I 0, I N]), I 0, I n] [(0, .box (dbox m k))] (.tup [.sl 10 0 1 n none, I 0]) [(0, some (.box (dbox m k))), (10, some (.vec 22 1 n (rowG encU (rdP k n))))] := by
  refine CallOK.intro Try.call62 Try.func62 rfl rfl ⟨rfl, trivial, trivial⟩ ?_
  refine Safe.withLoop (loopAt Try.f62 0) [0, 20] 39 (fun i : Nat => [(0, .ifc 170 (.agg [.ptr 0 0 0 0, I 0, I 0, I N])), (1, I 0), (8, .sl 20 0 1 (rdP k i).length none), (18, I n), (19, I i)]) (fun i => [(0, .box (dbox m k)), (20, .vec 22 1 (rdP k i).length (rowG encU (rdP k i)))]) (fun i => i ≤ n) (fun i => n - i) ?_ ?_
  · intro i hi ih
    have hl := rdP_len k i
    by_cases hlt : i < n
    · have hlt2 : (i : Int) < (n : Int) := by omega
      have rd := spread_ok m k 0 0 N (0 + (i : Int)) ⟨by omega, by omega⟩ ⟨by omega, by omega, by omega⟩
      have e1 := g.rd hdn (d := 0) (t := i) (by omega) (show i < N by omega)
      have e2 := (g.chk hdn (d := 0) (t := i) (by omega) (show i < N by omega)).2
      rw [show (0 : Int) + (0 + (i : Int)) = ((i : Nat) : Int) by omega] at rd
      simp only [Int.natCast_zero] at e1 e2
      rw [e1, e2] at rd
      refine Safe.goto mixed 20 [⟨1100, [(0, .tt true)]⟩, ⟨1200, []⟩, ⟨1300, [(4, .inv 168 (.agg [.ptr 0 0 0 0, I 0, I 0, I ↑N]) [0] (.tup [U (nw k 0 i), I 0]) [(0, some (.box (dbox m k)))])]⟩, ⟨1400, []⟩, ⟨1500, []⟩, ⟨1600, []⟩] [0, 1, 8, 18, 19] [0, 1503] (todo' := loopAt Try.f62 0) (sl := slotsOf 39 [(0, .ifc 170 (.agg [.ptr 0 0 0 0, I 0, I 0, I ↑N])), (1, I 0), (8, .sl 1503 0 1 (addN (rdP k i).length 1) none), (18, I ↑n), (19, I ((↑i : Int) + (1 : Int)))]) (hp := [(0, .box (dbox m k)), (1503, .vec 22 1 (addN (rdP k i).length 1) (catR (rdP k i).length (rowG encU (rdP k i)) (rowsOf [U (nw k 0 i)] 1)))]) (ob := [decide ((↑i : Int) < (↑n : Int)) = true, inK IntKind.i64 ((0 : Int) + (↑i : Int)), MethOK Try.prog "Read" (.ifc 170 (.agg [.ptr 0 0 0 0, I 0, I 0, I ↑N])) 168 (.agg [.ptr 0 0 0 0, I 0, I 0, I ↑N]), CallOK Try.prog 168 [.agg [.ptr 0 0 0 0, I 0, I 0, I ↑N], I ((0 : Int) + (↑i : Int))] [(0, .box (dbox m k))] (.tup [U (nw k 0 i), I 0]) [(0, some (.box (dbox m k)))], 0 + 1 ≤ 1, (rdP k i).length = (rdP k i).length, (rdP k i).length + 1 ≤ 1099511627776, inK IntKind.i64 ((↑i : Int) + (1 : Int))]) rfl rfl (by kernel_rfl) ⟨(decide_eq_true hlt2), (by simp only [inK]; omega), (MethOK.of (by kernel_rfl)), rd, (by omega), (by omega), (by omega), (by simp only [inK]; omega), trivial⟩ rfl ⟨rfl, trivial, rfl, closed_cat (fun _ => rfl) (closed_rows rfl), trivial⟩ ?_
      refine Safe.ren [(1503, 20)] rfl rfl rfl rfl ⟨rfl, trivial, rfl, closed_cat (fun _ => rfl) (closed_rows rfl), trivial⟩ ?_
      · skip
        have e3 : addN (rdP k i).length 1 = (rdP k (i + 1)).length := by rw [addN_eq, rdP_len, rdP_len]
        rw [e3]
        refine Safe.leH (ih (i + 1) (by omega) (by omega)) rfl (SlLe.refl _) ⟨ObLe.refl _, ?_, trivial⟩ rfl ⟨rfl, trivial, rfl, fun _ => rfl, trivial⟩
        rw [rdP_succ]
        exact ob_ren_one encU (rdP k i) (nw k 0 i) _ (by simp) (fun _ => rfl) rfl
    · have hn : ¬ ((i : Int) < (n : Int)) := by omega
      obtain rfl : i = n := by omega
      refine Safe.gotoE mixed 7 [⟨1100, [(0, .tt false)]⟩, ⟨1200, []⟩] [6, 7] [0, 20] (sl := slotsOf 39 [(6, .sl 20 0 1 ((rdP k i).length) none), (7, I 0)]) (hp := [(0, .box (dbox m k)), (20, .vec 22 1 ((rdP k i).length) (rowG encU (rdP k i)))]) (ob := [decide ((↑i : Int) < (↑i : Int)) = false]) rfl rfl (by kernel_rfl) ⟨(decide_eq_false hn), trivial⟩ rfl ⟨rfl, trivial, rfl, fun _ => rfl, trivial⟩ fun td htd => ?_
      refine Safe.ren [(20, 10)] rfl rfl rfl rfl ⟨rfl, trivial, rfl, fun _ => rfl, trivial⟩ ?_
      refine Safe.endsT Try.func62 htd (r := .tup [.sl 10 0 1 ((rdP k i).length) none, I 0]) (hp := [(0, .box (dbox m k)), (10, .vec 22 1 ((rdP k i).length) (fun q => renL [(20, 10)] (rowG encU (rdP k i) q)))]) (ob := []) rfl (by kernel_rfl) trivial ?_ ⟨ObLe.refl _, ?_, trivial⟩ ⟨rfl, trivial, rfl, fun _ => rfl, trivial⟩ rfl
      · rw [rdP_len]; rfl
      · rw [rdP_len]; exact ⟨rfl, rfl, rfl, fun _ _ => rfl⟩
  · intro H
    have ft := fits_any N 0 n (by omega)
    rw [decide_eq_true (show (0 : Int) ≤ 0 ∧ (0 : Int) ≤ N ∧ 0 ≤ (n : Int) ∧ (n : Int) ≤ N - 0 by omega)] at ft
    refine Safe.goto mixed 14 [⟨1100, []⟩, ⟨1200, [(1, .inv 169 (.agg [.ptr 0 0 0 0, I 0, I 0, I ↑N]) [0] (I ↑N) []), (4, .call [] (B true) [])]⟩, ⟨1300, []⟩, ⟨1400, []⟩] [0, 1, 8, 18, 19] [0] (todo' := loopAt Try.f62 0) (sl := slotsOf 39 [(0, .ifc 170 (.agg [.ptr 0 0 0 0, I 0, I 0, I ↑N])), (1, I 0), (8, .val (Value.slice none 0 0)), (18, I ↑n), (19, I 0)]) (hp := [(0, .box (dbox m k))]) (ob := [MethOK Try.prog "Size" (.ifc 170 (.agg [.ptr 0 0 0 0, I 0, I 0, I ↑N])) 169 (.agg [.ptr 0 0 0 0, I 0, I 0, I ↑N]), CallOK Try.prog 169 [.agg [.ptr 0 0 0 0, I 0, I 0, I ↑N]] [(0, .box (dbox m k))] (I ↑N) [], CallOK Try.prog 102 ([] ++ [I ↑N, I 0, I ↑n] ++ []) [] (B true) []]) rfl rfl (by kernel_rfl) ⟨(MethOK.of (by kernel_rfl)), (spsize_any m k 0 0 (↑N : Int)), ft, trivial⟩ rfl ⟨rfl, trivial, trivial⟩ ?_
    · refine Safe.nil 8 20 22 1 (rowG encU []) rfl rfl ⟨rfl, trivial, trivial⟩ ?_ rfl
      exact Safe.leH (H 0 (Nat.zero_le _)) rfl (SlLe.refl _) ⟨ObLe.refl _, ⟨rfl, rfl, rfl, fun _ _ => rfl⟩, trivial⟩ rfl ⟨rfl, trivial, rfl, fun _ => rfl, trivial⟩
end Go.Proofs.Ytbgbjgedjmhcaaa
namespace Go.Proofs.Ytbgbjgedjmhcaaa
open Go.RowKit
open OldD (Dk chk3 chk4 rdV wrE wrK flK)
theorem widths_any : CallOK Try.prog 114 [] [] (.sl 10 0 1 4 none) [(10, some (.vec 3 1 4 (rowG encI wd4)))] := by
  refine CallOK.intro Try.call114 Try.func114 rfl rfl trivial ?_
  refine Safe.gotoE mixed 4 [⟨100, []⟩, ⟨200, []⟩] [0] [200] (sl := slotsOf 2 [(0, .sl 200 0 1 4 none)]) (hp := [(200, .vec 3 1 4 (rowsOf [I 20, I 16, I 12, I 16] 1))]) (ob := []) rfl rfl (by kernel_rfl) trivial rfl ⟨rfl, closed_rows rfl, trivial⟩ fun td htd => ?_
  refine Safe.ren [(200, 10)] rfl rfl rfl rfl ⟨rfl, closed_rows rfl, trivial⟩ ?_
  refine Safe.endsT Try.func114 htd (r := .sl 10 0 1 4 none) (hp := [(10, .vec 3 1 4 (fun q => renL [(200, 10)] (rowsOf [I 20, I 16, I 12, I 16] 1 q)))]) (ob := []) rfl (by kernel_rfl) trivial rfl ⟨?_, trivial⟩ ⟨rfl, fun _ => rfl, trivial⟩ rfl
  all_goals exact ⟨rfl, rfl, rfl, fun q hq => match q, hq with | 0, _ | 1, _ | 2, _ | 3, _ => rfl⟩
abbrev dsc (a b c d : Int) : AV := .agg [U a, U b, U c, U d]
theorem fromWord_any (x : Int) (hx : 0 ≤ x ∧ x ≤ 18446744073709551615) : CallOK Try.prog 87 [U x] [] (dsc (f0 x) (f1 x) (f2 x) (f3 x)) [] := by
  have sp := split4 x hx
  refine CallOK.intro Try.call87 Try.func87 rfl rfl trivial ?_
  refine Safe.ends mixed Try.func87 6 [⟨100, []⟩, ⟨200, [(1, .call [] (.sl 255 0 1 4 none) [(255, some (.vec 3 1 4 (fun q => renL [(10, 255)] (rowG encI wd4 q))))]), (2, .call [255] (.tup [.sl 260 0 1 4 none, I 0]) [(260, some (.vec 22 1 4 (fun q => renL [(0, 255), (10, 260)] (rowG encU [f0 x, f1 x, f2 x, f3 x] q))))])]⟩, ⟨300, []⟩] (r := .agg [U ([f0 x, f1 x, f2 x, f3 x].getD 0 default), U ([f0 x, f1 x, f2 x, f3 x].getD 1 default), U ([f0 x, f1 x, f2 x, f3 x].getD 2 default), U ([f0 x, f1 x, f2 x, f3 x].getD 3 default)]) (hp := []) (ob := [CallOK Try.prog 114 ([] ++ [] ++ []) [] (.sl 255 0 1 4 none) [(255, some (.vec 3 1 4 fun q => renL [(10, 255)] (rowG encI wd4 q)))], CallOK Try.prog 113 ([] ++ [U x, .sl 255 0 1 4 none] ++ []) [(255, .vec 3 1 4 fun q => renL [(10, 255)] (rowG encI wd4 q))] (.tup [.sl 260 0 1 4 none, I 0]) [(260, some (.vec 22 1 4 fun q => renL [(0, 255), (10, 260)] (rowG encU [f0 x, f1 x, f2 x, f3 x] q)))], 4 ≤ 4, 0 + 4 ≤ 4]) rfl (by kernel_rfl) ⟨(CallOK.ren widths_any [(10, 255)] [10] rfl rfl rfl rfl trivial rfl ⟨rfl, fun _ => rfl, trivial⟩), (CallOK.ren (CallOK.own 3 0 (es := 1) (n := 4) (row := rowG encI wd4) rfl rfl rfl sp) [(0, 255), (10, 260)] [0, 10] rfl rfl rfl rfl ⟨rfl, fun _ => rfl, trivial⟩ rfl ⟨rfl, fun _ => rfl, rfl, fun _ => rfl, trivial⟩), (by omega), (by omega), trivial⟩ ?_ trivial trivial rfl
  all_goals rfl
theorem seq_any (a b c d : Int) (h : 0 ≤ a ∧ a ≤ 9223372036854775807) : CallOK Try.prog 89 [dsc a b c d] [] (I a) [] := by
  refine CallOK.intro Try.call89 Try.func89 rfl rfl trivial ?_
  refine Safe.ends mixed Try.func89 4 [⟨100, []⟩, ⟨200, []⟩] (r := I a) (hp := []) (ob := [(0 : Int) ≤ (0 : Int) ∧ (0 : Int) < (↑(4 : Nat) : Int), inK IntKind.i64 a]) rfl (by kernel_rfl) ⟨(by omega), (by simp only [inK]; omega), trivial⟩ rfl trivial trivial rfl
theorem start_any (a b c d : Int) (h : 0 ≤ b ∧ b ≤ 9223372036854775807) : CallOK Try.prog 116 [dsc a b c d] [] (I b) [] := by
  refine CallOK.intro Try.call116 Try.func116 rfl rfl trivial ?_
  refine Safe.ends mixed Try.func116 4 [⟨100, []⟩, ⟨200, []⟩] (r := I b) (hp := []) (ob := [(0 : Int) ≤ (1 : Int) ∧ (1 : Int) < (↑(4 : Nat) : Int), inK IntKind.i64 b]) rfl (by kernel_rfl) ⟨(by omega), (by simp only [inK]; omega), trivial⟩ rfl trivial trivial rfl
theorem dlen_any (a b c d : Int) (h : 0 ≤ c ∧ c ≤ 9223372036854775807) : CallOK Try.prog 115 [dsc a b c d] [] (I c) [] := by
  refine CallOK.intro Try.call115 Try.func115 rfl rfl trivial ?_
  refine Safe.ends mixed Try.func115 4 [⟨100, []⟩, ⟨200, []⟩] (r := I c) (hp := []) (ob := [(0 : Int) ≤ (2 : Int) ∧ (2 : Int) < (↑(4 : Nat) : Int), inK IntKind.i64 c]) rfl (by kernel_rfl) ⟨(by omega), (by simp only [inK]; omega), trivial⟩ rfl trivial trivial rfl
theorem word_any (a b c d : Int) (h : Fit4 a b c d) : CallOK Try.prog 94 [dsc a b c d] [] (U (pk4 a b c d)) [] := by
  have fd := fields4r a b c d h
  refine CallOK.intro Try.call94 Try.func94 rfl rfl trivial ?_
  refine Safe.ends mixed Try.func94 6 [⟨100, []⟩, ⟨200, [(0, .call [] (.sl 250 0 1 4 none) [(250, some (.vec 3 1 4 (fun q => renL [(10, 250)] (rowG encI wd4 q))))]), (2, .call [250, 201] (.tup [U (pk4 a b c d), I 0]) [])]⟩, ⟨300, []⟩] (r := U (pk4 a b c d)) (hp := []) (ob := [CallOK Try.prog 114 ([] ++ [] ++ []) [] (.sl 250 0 1 4 none) [(250, some (.vec 3 1 4 fun q => renL [(10, 250)] (rowG encI wd4 q)))], CallOK Try.prog 121 ([] ++ [.sl 250 0 1 4 none, .sl 201 0 1 4 none] ++ []) [(250, .vec 3 1 4 fun q => renL [(10, 250)] (rowG encI wd4 q)), (201, .ro 1 4 (rowsOf [U a, U b, U c, U d] 1))] (.tup [U (pk4 a b c d), I 0]) []]) rfl (by kernel_rfl) ⟨(CallOK.ren widths_any [(10, 250)] [10] rfl rfl rfl rfl trivial rfl ⟨rfl, fun _ => rfl, trivial⟩), (CallOK.simR (CallOK.ren (CallOK.own 3 0 (es := 1) (n := 4) (row := rowG encI wd4) rfl rfl rfl fd) [(0, 250), (1, 201)] [0, 1] rfl rfl rfl rfl ⟨rfl, fun _ => rfl, rfl, closed_rows rfl, trivial⟩ rfl ⟨rfl, fun _ => rfl, rfl, closed_rows rfl, trivial⟩) (HpSim.cons rfl (OSim.refl _) (HpSim.cons rfl (OSim.rowsR rfl) HpSim.nil))), trivial⟩ rfl trivial trivial rfl
def smW (a b c : Int) (L : List Int) : Int := shortF (extW 0 ([a, b, c] ++ L))
theorem smW_bd (a b c : Int) (L : List Int) : 0 ≤ smW a b c L ∧ smW a b c L ≤ 65535 := shortF_bd _ (extW_bd 0 _ (by omega))
theorem wf3 {a b c : Int} (ha : 0 ≤ a ∧ a ≤ 18446744073709551615) (hb : 0 ≤ b ∧ b ≤ 18446744073709551615) (hc : 0 ≤ c ∧ c ≤ 18446744073709551615) : Wf [a, b, c] := by
  intro x hx
  simp only [List.mem_cons, List.not_mem_nil, or_false] at hx
  rcases hx with rfl | rfl | rfl <;> assumption
theorem sumOf_any (a b c d : Int) (L : List Int) (ha : 0 ≤ a ∧ a ≤ 18446744073709551615) (hb : 0 ≤ b ∧ b ≤ 18446744073709551615) (hc : 0 ≤ c ∧ c ≤ 18446744073709551615) (hw : Wf L) (hl : L.length ≤ 1000000) : CallOK Try.prog 93 [dsc a b c d, .sl 0 0 1 L.length none] [(0, .ro 1 L.length (rowG encU L))] (U (smW a b c L)) [] := by
  have s1 := sums_blk 152 0 3 [U a, U b, U c, U d] [a, b, c] (wf3 ha hb hc) rfl (by omega) (fun j hj => match j, hj with | 0, _ | 1, _ | 2, _ => rfl)
  have b1 := sumW_bd [a, b, c]
  have e1 := exts_row (sumW [a, b, c]) b1 L hw hl
  have ec : extW (sumW [a, b, c]) L = extW 0 ([a, b, c] ++ L) := extW_cat 0 (by omega) [a, b, c] L.length L rfl
  rw [ec] at e1
  have b2 := extW_bd 0 ([a, b, c] ++ L) (by omega)
  have s2 := short_any _ b2
  have b3 := smW_bd a b c L
  unfold smW at b3 ⊢
  generalize extW 0 ([a, b, c] ++ L) = r at *
  generalize shortF r = q at *
  clear ec b1 b2
  refine CallOK.intro Try.call93 Try.func93 rfl rfl ⟨rfl, fun _ => rfl, trivial⟩ ?_
  refine Safe.ends mixed Try.func93 6 [⟨1100, []⟩, ⟨1200, [(1, .call [1100] (.val (Value.int IntKind.u32 (sumW [a, b, c]))) [])]⟩, ⟨1300, [(2, .call [0] (.val (Value.int IntKind.u32 r)) []), (3, .call [] (.val (Value.int IntKind.u16 q)) [])]⟩] (r := U q) (hp := [(0, .ro 1 L.length (rowG encU L))]) (ob := [(0 : Int) ≤ (3 : Int) ∧ (3 : Int) ≤ (↑(4 : Nat) : Int), CallOK Try.prog 95 ([] ++ [.sl 1100 0 1 3 none] ++ []) [(1100, .blk 152 [U a, U b, U c, U d])] (AV.val (Value.int IntKind.u32 (sumW [a, b, c]))) [], CallOK Try.prog 96 ([] ++ [AV.val (Value.int IntKind.u32 (sumW [a, b, c])), .sl 0 0 1 L.length none] ++ []) [(0, .ro 1 L.length (rowG encU L))] (AV.val (Value.int IntKind.u32 r)) [], CallOK Try.prog 120 ([] ++ [AV.val (Value.int IntKind.u32 r)] ++ []) [] (AV.val (Value.int IntKind.u16 q)) [], inK IntKind.u64 q]) rfl (by kernel_rfl) ⟨(by omega), (CallOK.ren s1 [(0, 1100)] [0] rfl rfl rfl rfl ⟨rfl, rfl, trivial⟩ rfl ⟨rfl, rfl, trivial⟩), e1, s2, (by simp only [inK]; omega), trivial⟩ rfl ⟨ObLe.refl _, trivial⟩ ⟨rfl, fun _ => rfl, trivial⟩ rfl
abbrev spn (N : Nat) : AV := .ifc 170 (.agg [.ptr 0 0 0 0, I 0, I 0, I N])
theorem open_ok (m : Nat) (k : Dk) (N : Nat) (hN : 4 ≤ N ∧ N ≤ 1000) : CallOK Try.prog 85 [spn N] [(0, .box (dbox m k))] (.tup [.agg [spn N, I (N - 2)], I 0]) [] := by
  have h1 : ¬ (N : Int) < 4 := by omega
  have h2 : min ((N : Int) - 2) 65535 = (N : Int) - 2 := by omega
  refine CallOK.intro Try.call85 Try.func85 rfl rfl ⟨rfl, trivial, trivial⟩ ?_
  refine Safe.ends mixed Try.func85 9 [⟨1100, []⟩, ⟨1200, [(1, .inv 169 (.agg [.ptr 0 0 0 0, I 0, I 0, I ↑N]) [0] (I ↑N) []), (2, .tt false)]⟩, ⟨1300, [(2, .inv 169 (.agg [.ptr 0 0 0 0, I 0, I 0, I ↑N]) [0] (I ↑N) [])]⟩] (r := .tup [.agg [.ifc 170 (.agg [.ptr 0 0 0 0, I 0, I 0, I ↑N]), I (min ((↑N : Int) - (2 : Int)) (65535 : Int))], I 0]) (hp := [(0, .box (dbox m k))]) (ob := [MethOK Try.prog "Size" (.ifc 170 (.agg [.ptr 0 0 0 0, I 0, I 0, I ↑N])) 169 (.agg [.ptr 0 0 0 0, I 0, I 0, I ↑N]), CallOK Try.prog 169 [.agg [.ptr 0 0 0 0, I 0, I 0, I ↑N]] [(0, .box (dbox m k))] (I ↑N) [], decide ((↑N : Int) < (4 : Int)) = false, MethOK Try.prog "Size" (.ifc 170 (.agg [.ptr 0 0 0 0, I 0, I 0, I ↑N])) 169 (.agg [.ptr 0 0 0 0, I 0, I 0, I ↑N]), CallOK Try.prog 169 [.agg [.ptr 0 0 0 0, I 0, I 0, I ↑N]] [(0, .box (dbox m k))] (I ↑N) [], inK IntKind.i64 ((↑N : Int) - (2 : Int))]) rfl (by kernel_rfl) ⟨(MethOK.of (by kernel_rfl)), (spsize_any m k 0 0 (↑N : Int)), (decide_eq_false h1), (MethOK.of (by kernel_rfl)), (spsize_any m k 0 0 (↑N : Int)), (by simp only [inK]; omega), trivial⟩ ?_ ⟨ObLe.refl _, trivial⟩ ⟨rfl, trivial, trivial⟩ rfl
  all_goals (rw [h2]; rfl)
theorem sr_any (m : Nat) (k : Dk) (N t : Nat) {c : Nat} (g : Gk k 1 (fun _ => N) c) (hdn : k.down = false) (hN : N ≤ 1000) (ht : t < N) : CallOK Try.prog 168 [.agg [.ptr 0 0 0 0, I 0, I 0, I N], I t] [(0, .box (dbox m k))] (.tup [U (nw k 0 t), I 0]) [(0, some (.box (dbox m k)))] := by
  have h := spread_ok m k 0 0 N t (by omega) (by omega)
  have e := g.rd hdn (d := 0) (t := t) (by omega) ht
  have c0 := (g.chk hdn (d := 0) (t := t) (by omega) ht).2
  have ez : (0 : Int) + (t : Int) = ((t : Nat) : Int) := by omega
  rw [ez] at h
  rw [show ((0 : Nat) : Int) = 0 from rfl] at e c0
  rw [e, c0] at h
  exact h
theorem put_any (m : Nat) (k : Dk) (N : Nat) (t v R : Int) {c : Nat} (hb : Bc k c) (hc : c ≤ 80000) (ht : 0 ≤ t ∧ t < N) (hN : N ≤ 1000) : CallOK Try.prog 86 [.agg [spn N, I R], I t, U v] [(0, .box (dbox m k))] (I (seqE k [some (t, v), none])) [(0, some (.box (dbox m (seqK k [some (t, v), none]))))] := by
  have wr := sw_any m k N t v hb (by omega) ht hN
  have hb2 := hb.act (some (t, v))
  have fl := sf_any m (wrK k 0 t v) N hb2 (by omega)
  have e1 : seqE k [some (t, v), none] = if wrE k 0 t = 0 then chk3 (wrK k 0 t v) 0 0 else wrE k 0 t := by
    show (if wrE k 0 t = 0 then (if chk3 (wrK k 0 t v) 0 0 = 0 then 0 else chk3 (wrK k 0 t v) 0 0) else wrE k 0 t) = _
    by_cases h : chk3 (wrK k 0 t v) 0 0 = 0
    · rw [if_pos h, h]
    · rw [if_neg h]
  have e2 : seqK k [some (t, v), none] = if wrE k 0 t = 0 then flK (wrK k 0 t v) 0 else wrK k 0 t v := by
    show (if wrE k 0 t = 0 then (if chk3 (wrK k 0 t v) 0 0 = 0 then flK (wrK k 0 t v) 0 else flK (wrK k 0 t v) 0) else wrK k 0 t v) = _
    split <;> simp
  rw [e1, e2]
  clear hb hb2 e1 e2
  by_cases he : wrE k 0 t = 0
  · rw [if_pos he, if_pos he]
    rw [he] at wr
    refine CallOK.intro Try.call86 Try.func86 rfl rfl ⟨rfl, trivial, trivial⟩ ?_
    refine Safe.ends mixed Try.func86 11 [⟨1100, []⟩, ⟨1200, [(4, .inv 170 (.agg [.ptr 0 0 0 0, I 0, I 0, I ↑N]) [0] (I 0) [(0, some (.box (dbox m (wrK k (0 : Int) t v))))])]⟩, ⟨1300, []⟩, ⟨1400, [(2, .inv 167 (.agg [.ptr 0 0 0 0, I 0, I 0, I ↑N]) [0] (I (chk3 (wrK k (0 : Int) t v) (0 : Int) (0 : Int))) [(0, some (.box (dbox m (flK (wrK k (0 : Int) t v) (0 : Int)))))])]⟩] (r := I (chk3 (wrK k (0 : Int) t v) (0 : Int) (0 : Int))) (hp := [(0, .box (dbox m (flK (wrK k (0 : Int) t v) (0 : Int))))]) (ob := [MethOK Try.prog "Write" (.ifc 170 (.agg [.ptr 0 0 0 0, I 0, I 0, I ↑N])) 170 (.agg [.ptr 0 0 0 0, I 0, I 0, I ↑N]), CallOK Try.prog 170 [.agg [.ptr 0 0 0 0, I 0, I 0, I ↑N], I t, U v] [(0, .box (dbox m k))] (I 0) [(0, some (.box (dbox m (wrK k (0 : Int) t v))))], MethOK Try.prog "Flush" (.ifc 170 (.agg [.ptr 0 0 0 0, I 0, I 0, I ↑N])) 167 (.agg [.ptr 0 0 0 0, I 0, I 0, I ↑N]), CallOK Try.prog 167 [.agg [.ptr 0 0 0 0, I 0, I 0, I ↑N]] [(0, .box (dbox m (wrK k (0 : Int) t v)))] (I (chk3 (wrK k (0 : Int) t v) (0 : Int) (0 : Int))) [(0, some (.box (dbox m (flK (wrK k (0 : Int) t v) (0 : Int)))))]]) rfl (by kernel_rfl) ⟨(MethOK.of (by kernel_rfl)), wr, (MethOK.of (by kernel_rfl)), fl, trivial⟩ rfl ⟨ObLe.refl _, trivial⟩ ⟨rfl, trivial, trivial⟩ rfl
  · rw [if_neg he, if_neg he]
    refine CallOK.intro Try.call86 Try.func86 rfl rfl ⟨rfl, trivial, trivial⟩ ?_
    refine Safe.ends mixed Try.func86 10 [⟨1100, []⟩, ⟨1200, [(4, .inv 170 (.agg [.ptr 0 0 0 0, I 0, I 0, I ↑N]) [0] (I (wrE k (0 : Int) t)) [(0, some (.box (dbox m (wrK k (0 : Int) t v))))])]⟩, ⟨1300, [(1, .tt true)]⟩, ⟨1400, []⟩] (r := I (wrE k (0 : Int) t)) (hp := [(0, .box (dbox m (wrK k (0 : Int) t v)))]) (ob := [MethOK Try.prog "Write" (.ifc 170 (.agg [.ptr 0 0 0 0, I 0, I 0, I ↑N])) 170 (.agg [.ptr 0 0 0 0, I 0, I 0, I ↑N]), CallOK Try.prog 170 [.agg [.ptr 0 0 0 0, I 0, I 0, I ↑N], I t, U v] [(0, .box (dbox m k))] (I (wrE k (0 : Int) t)) [(0, some (.box (dbox m (wrK k (0 : Int) t v))))], (decide ¬wrE k (0 : Int) t = (0 : Int)) = true]) rfl (by kernel_rfl) ⟨(MethOK.of (by kernel_rfl)), wr, (decide_eq_true he), trivial⟩ rfl ⟨ObLe.refl _, trivial⟩ ⟨rfl, trivial, trivial⟩ rfl
end Go.Proofs.Ytbgbjgedjmhcaaa
namespace Go.Proofs.Ytbgbjgedjmhcaaa
open Go.RowKit
open OldD (Dk chk3 chk4 rdV wrE wrK flK)
abbrev ara (N R : Nat) : AV := .agg [spn N, I R]
theorem sectors_any (m : Nat) (k : Dk) (N R : Nat) (st n : Int) : CallOK Try.prog 92 [ara N R, I st, I n] [(0, .box (dbox m k))] (.fn (.func 119) [] [.ptr 10 0 0 0, .ptr 11 0 0 0, .ptr 12 0 0 0]) [(10, some (.blk 3 [I n])), (11, some (.blk 3 [I st])), (12, some (.blk 148 [spn N, I R]))] := by
  refine CallOK.intro Try.call92 Try.func92 rfl rfl ⟨rfl, trivial, trivial⟩ ?_
  refine Safe.gotoE mixed 4 [⟨1100, []⟩, ⟨1200, []⟩] [6] [0, 1102, 1101, 1100] (sl := slotsOf 8 [(6, .fn (Fn.func 119) [] [.ptr 1102 0 0 0, .ptr 1101 0 0 0, .ptr 1100 0 0 0])]) (hp := [(0, .box (dbox m k)), (1102, .blk 3 [I n]), (1101, .blk 3 [I st]), (1100, .blk 148 [.ifc 170 (.agg [.ptr 0 0 0 0, I 0, I 0, I ↑N]), I ↑R])]) (ob := []) rfl rfl (by kernel_rfl) trivial rfl ⟨rfl, trivial, rfl, rfl, rfl, rfl, rfl, rfl, trivial⟩ fun td htd => ?_
  refine Safe.ren [(1102, 10), (1101, 11), (1100, 12)] rfl rfl rfl rfl ⟨rfl, trivial, rfl, rfl, rfl, rfl, rfl, rfl, trivial⟩ ?_
  refine Safe.endsT Try.func92 htd (r := .fn (Fn.func 119) [] [.ptr 10 0 0 0, .ptr 11 0 0 0, .ptr 12 0 0 0]) (hp := [(0, .box (dbox m k)), (10, .blk 3 [I n]), (11, .blk 3 [I st]), (12, .blk 148 [.ifc 170 (.agg [.ptr 0 0 0 0, I 0, I 0, I ↑N]), I ↑R])]) (ob := []) rfl (by kernel_rfl) trivial rfl ⟨ObLe.refl _, ObLe.refl _, ObLe.refl _, ObLe.refl _, trivial⟩ ⟨rfl, trivial, rfl, rfl, rfl, rfl, rfl, rfl, trivial⟩ rfl
def plc (R st i : Nat) : Nat := 2 + (st + i) % R
theorem plc_int (R st i : Nat) : (2 : Int) + ((st : Int) + (i : Int)) % (R : Int) = ((plc R st i : Nat) : Int) := by
  unfold plc
  push_cast
  rfl
theorem plc_bd (R st i : Nat) (h : 1 ≤ R) : 2 ≤ plc R st i ∧ plc R st i < R + 2 := by
  unfold plc
  have := Nat.mod_lt (st + i) h
  omega
def wsP (v : Nat → Int) (R st : Nat) : Nat → List Int
  | 0 => []
  | i + 1 => wsP v R st i ++ [v (plc R st i)]
theorem wsP_len (v : Nat → Int) (R st : Nat) : ∀ i, (wsP v R st i).length = i
  | 0 => rfl
  | i + 1 => by simp [wsP, wsP_len v R st i]
theorem ob_ren_oneN {σ : List (Nat × Nat)} {ty n : Nat} {L : List Int} {x : Int} {r2 : Nat → List AV} (hn : n = L.length + 1) (h : renL σ (r2 0) = encU x) : ObLe (.vec ty 1 n (fun q => renL σ (catR L.length (rowG encU L) r2 q))) (.vec ty 1 n (rowG encU (L ++ [x]))) := by
  have h1 := ob_ren_one (σ := σ) (ty := ty) (es := 1) (n := n) encU L x r2 hn (fun _ => rfl) h
  obtain ⟨a, b, c, d⟩ := h1
  exact ⟨rfl, rfl, rfl, fun q hq => d q (by rw [← c]; exact hq)⟩
theorem txt_round (m : Nat) (k : Dk) (N R st i : Nat) {c : Nat} (g : Gk k 1 (fun _ => N) c) (hdn : k.down = false) (hN : 4 ≤ N ∧ N ≤ 1000) (hR : R + 2 = N) (a b cc d : Int) (L : List Int) (hL : L.length = i) (hi : i ≤ 1000) :
    YldOK Try.prog 99 [I i, I (plc R st i)] [(0, .box (dbox m k)), (20, .blk 148 [spn N, I R]), (21, .blk 152 [U a, U b, U cc, U d]), (22, .blk 9 [.val (.string ⟨#[]⟩)]), (23, .blk 4 [B false]), (24, .blk 29 [I 0]), (25, .blk 25 [.sl 30 0 1 i none]), (30, .vec 22 1 i (rowG encU L)), (99, lpO 88 Try.f88 0 .ready none (slotsOf 74 [(2, .ptr 20 0 0 0), (3, .ptr 21 0 0 0), (4, .ptr 22 0 0 0), (5, .ptr 23 0 0 0), (6, .ptr 24 0 0 0), (7, .ptr 25 0 0 0)]))]
      (B true) [(25, some (.blk 25 [.sl 31 0 1 (i + 1) none])), (30, none), (31, some (.vec 22 1 (i + 1) (rowG encU (L ++ [nw k 0 (plc R st i)])))), (99, some (lpO 88 Try.f88 0 .ready none (slotsOf 74 [(2, .ptr 20 0 0 0), (3, .ptr 21 0 0 0), (4, .ptr 22 0 0 0), (5, .ptr 23 0 0 0), (6, .ptr 24 0 0 0), (7, .ptr 25 0 0 0)])))] := by
  have hp := plc_bd R st i (by omega)
  have rd := sr_any m k N (plc R st i) g hdn hN.2 (by omega)
  refine YldOK.intro (L := 99) rfl rfl rfl ⟨rfl, trivial, rfl, rfl, rfl, rfl, rfl, rfl, rfl, rfl, rfl, rfl, rfl, rfl, rfl, fun _ => rfl, rfl, rfl, trivial⟩ ?_
  refine Safe.gotoS mixed 1 [⟨1100, []⟩] [2, 3, 4, 5, 6, 7, 9, 42, 43] [0, 20, 21, 22, 23, 24, 25, 30, 99] (sl := slotsOf 74 [(2, .ptr 20 0 0 0), (3, .ptr 21 0 0 0), (4, .ptr 22 0 0 0), (5, .ptr 23 0 0 0), (6, .ptr 24 0 0 0), (7, .ptr 25 0 0 0), (9, I ((↑(plc R st i) : Int))), (42, I ↑i), (43, I ((↑(plc R st i) : Int)))]) (hp := [(0, .box (dbox m k)), (20, .blk 148 [.ifc 170 (.agg [.ptr 0 0 0 0, I 0, I 0, I ↑N]), I ↑R]), (21, .blk 152 [U a, U b, U cc, U d]), (22, .blk 9 [S (ByteArray.mk #[])]), (23, .blk 4 [B false]), (24, .blk 29 [I 0]), (25, .blk 25 [.sl 30 0 1 i none]), (30, .vec 22 1 i (rowG encU L)), (99, .lp 88 (rfPs Try.f88 0) (rfAs Try.f88 0) (rfBd Try.f88 0) LoopState.ready none ((slotsOf 74 [(2, .ptr 20 0 0 0), (3, .ptr 21 0 0 0), (4, .ptr 22 0 0 0), (5, .ptr 23 0 0 0), (6, .ptr 24 0 0 0), (7, .ptr 25 0 0 0)])))]) (ob := []) rfl rfl (by kernel_rfl) trivial rfl ⟨rfl, trivial, rfl, rfl, rfl, rfl, rfl, rfl, rfl, rfl, rfl, rfl, rfl, rfl, rfl, fun _ => rfl, rfl, rfl, trivial⟩ ?_
  refine Safe.here (.beginRound :: [.code (rfBd Try.f88 0)]) (by kernel_rfl) ?_
  refine Safe.beginR (L := 99) rfl rfl rfl ?_
  refine Safe.gotoS mixed 10 [⟨1100, [(3, .inv 168 (.agg [.ptr 0 0 0 0, I 0, I 0, I ↑N]) [0] (.tup [U (nw k 0 (plc R st i)), I 0]) [(0, some (.box (dbox m k)))])]⟩, ⟨1200, []⟩, ⟨1300, []⟩] [2, 3, 4, 5, 6, 7, 9, 10, 11, 42, 43, 44, 45, 46, 47, 48, 49, 50, 51, 52, 55, 56, 57] [0, 20, 21, 22, 23, 24, 25, 99, 1302, 1303, 30] (sl := slotsOf 74 [(2, .ptr 20 0 0 0), (3, .ptr 21 0 0 0), (4, .ptr 22 0 0 0), (5, .ptr 23 0 0 0), (6, .ptr 24 0 0 0), (7, .ptr 25 0 0 0), (9, I ((↑(plc R st i) : Int))), (10, U (nw k 0 (plc R st i))), (11, I 0), (42, I ↑i), (43, I ((↑(plc R st i) : Int))), (44, .tup [U (nw k 0 (plc R st i)), I 0]), (45, .ptr 20 0 0 0), (46, .ifc 170 (.agg [.ptr 0 0 0 0, I 0, I 0, I ↑N])), (47, I ((↑(plc R st i) : Int))), (48, .tup [U (nw k 0 (plc R st i)), I 0]), (49, U (nw k 0 (plc R st i))), (50, I 0), (51, I 0), (52, B false), (55, U (nw k 0 (plc R st i))), (56, .sl 1302 0 1 1 none), (57, .sl 1303 0 1 (addN i 1) none)]) (hp := [(0, .box (dbox m k)), (20, .blk 148 [.ifc 170 (.agg [.ptr 0 0 0 0, I 0, I 0, I ↑N]), I ↑R]), (21, .blk 152 [U a, U b, U cc, U d]), (22, .blk 9 [S (ByteArray.mk #[])]), (23, .blk 4 [B false]), (24, .blk 29 [I 0]), (25, .blk 25 [.sl 1303 0 1 (addN i 1) none]), (99, .lp 88 (rfPs Try.f88 0) (rfAs Try.f88 0) (rfBd Try.f88 0) LoopState.busy none ((slotsOf 74 [(2, .ptr 20 0 0 0), (3, .ptr 21 0 0 0), (4, .ptr 22 0 0 0), (5, .ptr 23 0 0 0), (6, .ptr 24 0 0 0), (7, .ptr 25 0 0 0)]))), (1302, .vec 22 1 1 (rowsOf [U (nw k 0 (plc R st i))] 1)), (1303, .vec 22 1 (addN i 1) (catR i (rowG encU L) (rowsOf [U (nw k 0 (plc R st i))] 1)))]) (ob := [MethOK Try.prog "Read" (.ifc 170 (.agg [.ptr 0 0 0 0, I 0, I 0, I ↑N])) 168 (.agg [.ptr 0 0 0 0, I 0, I 0, I ↑N]), CallOK Try.prog 168 [.agg [.ptr 0 0 0 0, I 0, I 0, I ↑N], I (↑(plc R st i) : Int)] [(0, .box (dbox m k))] (.tup [U (nw k 0 (plc R st i)), I 0]) [(0, some (.box (dbox m k)))], 0 + 1 ≤ 1, i = i, i + 1 ≤ 1099511627776]) rfl rfl (by kernel_rfl) ⟨(MethOK.of (by kernel_rfl)), rd, (by omega), (by omega), (by omega), trivial⟩ rfl ⟨rfl, trivial, rfl, rfl, rfl, rfl, rfl, rfl, rfl, rfl, rfl, rfl, rfl, rfl, rfl, rfl, rfl, closed_rows rfl, rfl, (fun q => by first | exact closed_cat (fun _ => rfl) (closed_rows rfl) q | (split <;> rfl)), trivial⟩ ?_
  refine Safe.ren [(1303, 31)] rfl rfl rfl rfl ⟨rfl, trivial, rfl, rfl, rfl, rfl, rfl, rfl, rfl, rfl, rfl, rfl, rfl, rfl, rfl, rfl, rfl, closed_rows rfl, rfl, (fun q => by first | exact closed_cat (fun _ => rfl) (closed_rows rfl) q | (split <;> rfl)), trivial⟩ ?_
  rw [show addN i 1 = i + 1 from addN_eq i 1]
  refine Safe.endR (L := 99) none (by kernel_rfl) rfl rfl rfl rfl ⟨?_, ?_, ?_, ?_, ?_, ?_, ?_, ?_, ?_, trivial⟩ ⟨rfl, trivial, rfl, rfl, rfl, rfl, rfl, rfl, rfl, rfl, rfl, rfl, rfl, rfl, rfl, rfl, rfl, fun _ => rfl, trivial⟩
  all_goals try exact ObLe.refl _
  subst hL
  exact ob_ren_oneN (L := L) (x := nw k 0 (plc R st L.length)) rfl rfl
end Go.Proofs.Ytbgbjgedjmhcaaa
namespace Go.Proofs.Ytbgbjgedjmhcaaa
open Go.RowKit
open OldD (Dk chk3 chk4 rdV wrE wrK flK)
theorem txt_iter (m : Nat) (k : Dk) (N R st n : Nat) {c : Nat} (g : Gk k 1 (fun _ => N) c) (hdn : k.down = false) (hN : 4 ≤ N ∧ N ≤ 1000) (hR : R + 2 = N) (hst : st ≤ 100000) (hn : n ≤ 1000) (a b cc d : Int) :
    CallOK Try.prog 119 [.yld 99, .ptr 26 0 0 0, .ptr 27 0 0 0, .ptr 28 0 0 0] [(0, .box (dbox m k)), (20, .blk 148 [spn N, I R]), (21, .blk 152 [U a, U b, U cc, U d]), (22, .blk 9 [.val (.string ⟨#[]⟩)]), (23, .blk 4 [B false]), (24, .blk 29 [I 0]), (25, .blk 25 [.val (.slice none 0 0)]), (26, .blk 3 [I n]), (27, .blk 3 [I st]), (28, .blk 148 [spn N, I R]), (99, lpO 88 Try.f88 0 .ready none (slotsOf 74 [(2, .ptr 20 0 0 0), (3, .ptr 21 0 0 0), (4, .ptr 22 0 0 0), (5, .ptr 23 0 0 0), (6, .ptr 24 0 0 0), (7, .ptr 25 0 0 0)]))]
      (.tup []) [(25, some (.blk 25 [.sl 30 0 1 n none])), (30, some (.vec 22 1 n (rowG encU (wsP (nw k 0) R st n)))), (99, some (lpO 88 Try.f88 0 .ready none (slotsOf 74 [(2, .ptr 20 0 0 0), (3, .ptr 21 0 0 0), (4, .ptr 22 0 0 0), (5, .ptr 23 0 0 0), (6, .ptr 24 0 0 0), (7, .ptr 25 0 0 0)])))] := by
  refine CallOK.intro Try.call119 Try.func119 rfl rfl ⟨rfl, trivial, rfl, rfl, rfl, rfl, rfl, rfl, rfl, rfl, rfl, rfl, rfl, rfl, rfl, rfl, rfl, rfl, rfl, rfl, rfl, rfl, trivial⟩ ?_
  refine Safe.withLoop (loopAt Try.f119 0) [0, 20, 21, 22, 23, 24, 25, 26, 27, 28, 99, 30] 22 (fun i : Nat => [(0, .yld 99), (1, .ptr 26 0 0 0), (2, .ptr 27 0 0 0), (3, .ptr 28 0 0 0), (6, I n), (7, I i)]) (fun i => [(0, .box (dbox m k)), (20, .blk 148 [spn N, I R]), (21, .blk 152 [U a, U b, U cc, U d]), (22, .blk 9 [.val (.string ⟨#[]⟩)]), (23, .blk 4 [B false]), (24, .blk 29 [I 0]), (25, .blk 25 [.sl 30 0 1 i none]), (26, .blk 3 [I n]), (27, .blk 3 [I st]), (28, .blk 148 [spn N, I R]), (99, lpO 88 Try.f88 0 .ready none (slotsOf 74 [(2, .ptr 20 0 0 0), (3, .ptr 21 0 0 0), (4, .ptr 22 0 0 0), (5, .ptr 23 0 0 0), (6, .ptr 24 0 0 0), (7, .ptr 25 0 0 0)])), (30, .vec 22 1 i (rowG encU (wsP (nw k 0) R st i)))]) (fun i => i ≤ n) (fun i => n - i) ?_ ?_
  · intro i hi ih
    have hl := wsP_len (nw k 0) R st i
    by_cases hlt : i < n
    · have h1 : (i : Int) < (n : Int) := by omega
      have yr := txt_round m k N R st i g hdn hN hR a b cc d (wsP (nw k 0) R st i) hl (by omega)
      have ep : ((2 : Int) + ((st : Int) + (i : Int)) % (R : Int)) = ((plc R st i : Nat) : Int) := plc_int R st i
      have hmod : 0 ≤ ((st : Int) + (i : Int)) % (R : Int) ∧ ((st : Int) + (i : Int)) % (R : Int) < (R : Int) := ⟨Int.emod_nonneg _ (by omega), Int.emod_lt_of_pos _ (by omega)⟩
      have ih1 := ih (i + 1) (by omega) (by omega)
      refine Safe.goto mixed 16 [⟨1100, [(0, .tt true)]⟩, ⟨1200, []⟩, ⟨1300, [(8, .is (I ((↑(plc R st i) : Int)))), (9, .call [0, 20, 21, 22, 23, 24, 25, 30, 99] (B true) [(25, some (.blk 25 [.sl 31 0 1 (i + 1) none])), (30, none), (31, some (.vec 22 1 (i + 1) (fun q => renL [(0, 0), (20, 20), (21, 21), (22, 22), (23, 23), (24, 24), (25, 25), (30, 30), (99, 99), (31, 31)] (rowG encU (wsP (nw k 0) R st i ++ [nw k 0 (plc R st i)]) q)))), (99, some (.lp 88 (rfPs Try.f88 0) (rfAs Try.f88 0) (rfBd Try.f88 0) LoopState.ready none ((slotsOf 74 [(2, .ptr 20 0 0 0), (3, .ptr 21 0 0 0), (4, .ptr 22 0 0 0), (5, .ptr 23 0 0 0), (6, .ptr 24 0 0 0), (7, .ptr 25 0 0 0)]))))])]⟩, ⟨1400, []⟩] [0, 1, 2, 3, 6, 7] [0, 20, 21, 22, 23, 24, 25, 26, 27, 28, 99, 31] (todo' := loopAt Try.f119 0) (sl := slotsOf 22 [(0, .yld 99), (1, .ptr 26 0 0 0), (2, .ptr 27 0 0 0), (3, .ptr 28 0 0 0), (6, I ↑n), (7, I ((↑i : Int) + (1 : Int)))]) (hp := [(0, .box (dbox m k)), (20, .blk 148 [.ifc 170 (.agg [.ptr 0 0 0 0, I 0, I 0, I ↑N]), I ↑R]), (21, .blk 152 [U a, U b, U cc, U d]), (22, .blk 9 [S (ByteArray.mk #[])]), (23, .blk 4 [B false]), (24, .blk 29 [I 0]), (25, .blk 25 [.sl 31 0 1 (i + 1) none]), (26, .blk 3 [I ↑n]), (27, .blk 3 [I ↑st]), (28, .blk 148 [.ifc 170 (.agg [.ptr 0 0 0 0, I 0, I 0, I ↑N]), I ↑R]), (99, .lp 88 (rfPs Try.f88 0) (rfAs Try.f88 0) (rfBd Try.f88 0) LoopState.ready none ((slotsOf 74 [(2, .ptr 20 0 0 0), (3, .ptr 21 0 0 0), (4, .ptr 22 0 0 0), (5, .ptr 23 0 0 0), (6, .ptr 24 0 0 0), (7, .ptr 25 0 0 0)]))), (31, .vec 22 1 (i + 1) (fun q => renL [(0, 0), (20, 20), (21, 21), (22, 22), (23, 23), (24, 24), (25, 25), (30, 30), (99, 99), (31, 31)] (rowG encU (wsP (nw k 0) R st i ++ [nw k 0 (plc R st i)]) q)))]) (ob := [decide ((↑i : Int) < (↑n : Int)) = true, inK IntKind.i64 ((↑st : Int) + (↑i : Int)), (0 : Int) ≤ (↑st : Int) + (↑i : Int) ∧ (0 : Int) < (↑R : Int), inK IntKind.i64 ((2 : Int) + ((↑st : Int) + (↑i : Int)) % (↑R : Int)), I ((2 : Int) + ((↑st : Int) + (↑i : Int)) % (↑R : Int)) = I (↑(plc R st i) : Int), YldOK Try.prog 99 [I ↑i, I (↑(plc R st i) : Int)] [(0, .box (dbox m k)), (20, .blk 148 [.ifc 170 (.agg [.ptr 0 0 0 0, I 0, I 0, I ↑N]), I ↑R]), (21, .blk 152 [U a, U b, U cc, U d]), (22, .blk 9 [AV.val (Value.string (ByteArray.mk #[]))]), (23, .blk 4 [B false]), (24, .blk 29 [I 0]), (25, .blk 25 [.sl 30 0 1 i none]), (30, .vec 22 1 i (rowG encU (wsP (nw k 0) R st i))), (99, Ob.lp 88 (rfPs Try.f88 0) (rfAs Try.f88 0) (rfBd Try.f88 0) LoopState.ready none (slotsOf 74 [(2, .ptr 20 0 0 0), (3, .ptr 21 0 0 0), (4, .ptr 22 0 0 0), (5, .ptr 23 0 0 0), (6, .ptr 24 0 0 0), (7, .ptr 25 0 0 0)]))] (B true) [(25, some (.blk 25 [.sl 31 0 1 (i + 1) none])), (30, none), (31, some (.vec 22 1 (i + 1) fun q => renL [(0, 0), (20, 20), (21, 21), (22, 22), (23, 23), (24, 24), (25, 25), (30, 30), (99, 99), (31, 31)] (rowG encU (wsP (nw k 0) R st i ++ [nw k 0 (plc R st i)]) q))), (99, some (Ob.lp 88 (rfPs Try.f88 0) (rfAs Try.f88 0) (rfBd Try.f88 0) LoopState.ready none (slotsOf 74 [(2, .ptr 20 0 0 0), (3, .ptr 21 0 0 0), (4, .ptr 22 0 0 0), (5, .ptr 23 0 0 0), (6, .ptr 24 0 0 0), (7, .ptr 25 0 0 0)])))], inK IntKind.i64 ((↑i : Int) + (1 : Int))]) rfl rfl (by kernel_rfl) ⟨(decide_eq_true h1), (by simp only [inK]; first | omega | exact congrArg (fun z => I z) ep), (by first | omega | exact congrArg (fun z => I z) ep), (by simp only [inK]; first | omega | exact congrArg (fun z => I z) ep), (by first | omega | exact congrArg (fun z => I z) ep), yr, (by simp only [inK]; first | omega | exact congrArg (fun z => I z) ep), trivial⟩ rfl ⟨rfl, trivial, rfl, rfl, rfl, rfl, rfl, rfl, rfl, rfl, rfl, rfl, rfl, rfl, rfl, rfl, rfl, rfl, rfl, rfl, rfl, rfl, rfl, closed_renN (fun _ => rfl), trivial⟩ ?_
      refine Safe.ren [(31, 30)] rfl rfl rfl rfl ⟨rfl, trivial, rfl, rfl, rfl, rfl, rfl, rfl, rfl, rfl, rfl, rfl, rfl, rfl, rfl, rfl, rfl, rfl, rfl, rfl, rfl, rfl, rfl, closed_renN (fun _ => rfl), trivial⟩ ?_
      · skip
        refine Safe.leH ih1 rfl (SlLe.refl _) ⟨?_, ?_, ?_, ?_, ?_, ?_, ?_, ?_, ?_, ?_, ?_, ?_, trivial⟩ rfl ⟨rfl, trivial, rfl, rfl, rfl, rfl, rfl, rfl, rfl, rfl, rfl, rfl, rfl, rfl, rfl, rfl, rfl, rfl, rfl, rfl, rfl, rfl, rfl, fun _ => rfl, trivial⟩
        all_goals first | exact ObLe.refl _ | exact ⟨rfl, rfl, rfl, fun _ _ => rfl⟩
    · have hn2 : ¬ (i : Int) < (n : Int) := by omega
      obtain rfl : i = n := by omega
      refine Safe.ends mixed Try.func119 5 [⟨1100, [(0, .tt false)]⟩] (r := .tup []) (hp := [(0, .box (dbox m k)), (20, .blk 148 [.ifc 170 (.agg [.ptr 0 0 0 0, I 0, I 0, I ↑N]), I ↑R]), (21, .blk 152 [U a, U b, U cc, U d]), (22, .blk 9 [S (ByteArray.mk #[])]), (23, .blk 4 [B false]), (24, .blk 29 [I 0]), (25, .blk 25 [.sl 30 0 1 i none]), (26, .blk 3 [I ↑i]), (27, .blk 3 [I ↑st]), (28, .blk 148 [.ifc 170 (.agg [.ptr 0 0 0 0, I 0, I 0, I ↑N]), I ↑R]), (99, .lp 88 (rfPs Try.f88 0) (rfAs Try.f88 0) (rfBd Try.f88 0) LoopState.ready none ((slotsOf 74 [(2, .ptr 20 0 0 0), (3, .ptr 21 0 0 0), (4, .ptr 22 0 0 0), (5, .ptr 23 0 0 0), (6, .ptr 24 0 0 0), (7, .ptr 25 0 0 0)]))), (30, .vec 22 1 i (rowG encU (wsP (nw k 0) R st i)))]) (ob := [decide ((↑i : Int) < (↑i : Int)) = false]) rfl (by kernel_rfl) ⟨(decide_eq_false hn2), trivial⟩ rfl ⟨ObLe.refl _, ObLe.refl _, ObLe.refl _, ObLe.refl _, ObLe.refl _, ObLe.refl _, ObLe.refl _, ObLe.refl _, ObLe.refl _, ObLe.refl _, ObLe.refl _, ObLe.refl _, trivial⟩ ⟨rfl, trivial, rfl, rfl, rfl, rfl, rfl, rfl, rfl, rfl, rfl, rfl, rfl, rfl, rfl, rfl, rfl, rfl, rfl, rfl, rfl, rfl, rfl, fun _ => rfl, trivial⟩ rfl
      all_goals skip
  · intro H
    refine Safe.goto mixed 4 [⟨1100, []⟩] [0, 1, 2, 3, 6, 7] [0, 20, 21, 22, 23, 24, 25, 26, 27, 28, 99] (todo' := loopAt Try.f119 0) (sl := slotsOf 22 [(0, .yld 99), (1, .ptr 26 0 0 0), (2, .ptr 27 0 0 0), (3, .ptr 28 0 0 0), (6, I ↑n), (7, I 0)]) (hp := [(0, .box (dbox m k)), (20, .blk 148 [.ifc 170 (.agg [.ptr 0 0 0 0, I 0, I 0, I ↑N]), I ↑R]), (21, .blk 152 [U a, U b, U cc, U d]), (22, .blk 9 [S (ByteArray.mk #[])]), (23, .blk 4 [B false]), (24, .blk 29 [I 0]), (25, .blk 25 [.val (Value.slice none 0 0)]), (26, .blk 3 [I ↑n]), (27, .blk 3 [I ↑st]), (28, .blk 148 [.ifc 170 (.agg [.ptr 0 0 0 0, I 0, I 0, I ↑N]), I ↑R]), (99, .lp 88 (rfPs Try.f88 0) (rfAs Try.f88 0) (rfBd Try.f88 0) LoopState.ready none ((slotsOf 74 [(2, .ptr 20 0 0 0), (3, .ptr 21 0 0 0), (4, .ptr 22 0 0 0), (5, .ptr 23 0 0 0), (6, .ptr 24 0 0 0), (7, .ptr 25 0 0 0)])))]) (ob := []) rfl rfl (by kernel_rfl) trivial rfl ⟨rfl, trivial, rfl, rfl, rfl, rfl, rfl, rfl, rfl, rfl, rfl, rfl, rfl, rfl, rfl, rfl, rfl, rfl, rfl, rfl, rfl, rfl, trivial⟩ ?_
    · skip
      refine Safe.nilCell 25 0 30 22 1 (rowG encU []) rfl rfl rfl ⟨rfl, trivial, rfl, rfl, rfl, rfl, rfl, rfl, rfl, rfl, rfl, rfl, rfl, rfl, rfl, rfl, rfl, rfl, rfl, rfl, rfl, rfl, trivial⟩ ?_ rfl
      refine Safe.leH (H 0 (Nat.zero_le _)) rfl (SlLe.refl _) ⟨?_, ?_, ?_, ?_, ?_, ?_, ?_, ?_, ?_, ?_, ?_, ?_, trivial⟩ rfl ⟨rfl, trivial, rfl, rfl, rfl, rfl, rfl, rfl, rfl, rfl, rfl, rfl, rfl, rfl, rfl, rfl, rfl, rfl, rfl, rfl, rfl, rfl, rfl, fun _ => rfl, trivial⟩
      all_goals first | exact ObLe.refl _ | exact ⟨rfl, rfl, rfl, fun _ _ => rfl⟩
end Go.Proofs.Ytbgbjgedjmhcaaa
namespace Go.Proofs.Ytbgbjgedjmhcaaa
open Go.RowKit
open OldD (Dk chk3 chk4 rdV wrE wrK flK)
def fitsR (R a b c : Nat) : Prop := a ≠ 0 ∧ c ≠ 0 ∧ b < R ∧ c ≤ R
theorem wsP_wf {v : Nat → Int} {R : Nat} (hv : ∀ t, t < R + 2 → 0 ≤ v t ∧ v t ≤ 18446744073709551615) (hR : 1 ≤ R) (st : Nat) : ∀ i, Wf (wsP v R st i)
  | 0 => fun x hx => by cases hx
  | i + 1 => fun x hx => by
    rcases List.mem_append.1 hx with h | h
    · exact wsP_wf hv hR st i x h
    · rw [List.mem_singleton.1 h]
      exact hv _ (plc_bd R st i hR).2
theorem text_unfit (m : Nat) (k : Dk) (N R a b c d : Nat) (hN : 4 ≤ N ∧ N ≤ 1000) (hR : R + 2 = N) (ha : a ≤ 1048575) (hb : b ≤ 65535) (hc : c ≤ 4095) (h : ¬ fitsR R a b c) :
    CallOK Try.prog 88 [ara N R, dsc a b c d] [(0, .box (dbox m k))] (.tup [.val (.string ⟨#[]⟩), B false, I 0]) [] := by
  have s1 := seq_any a b c d (by omega)
  have s2 := start_any a b c d (by omega)
  have s3 := dlen_any a b c d (by omega)
  by_cases h1 : a = 0
  · have q1 : (a : Int) = 0 := by omega
    refine CallOK.intro Try.call88 Try.func88 rfl rfl ⟨rfl, trivial, trivial⟩ ?_
    refine Safe.ends mixed Try.func88 8 [⟨1100, []⟩, ⟨1200, [(1, .call [] (I ↑a) []), (2, .tt true)]⟩, ⟨1300, []⟩] (r := .tup [S (ByteArray.mk #[]), B false, I 0]) (hp := [(0, .box (dbox m k))]) (ob := [CallOK Try.prog 89 ([] ++ [.agg [U (↑a : Int), U (↑b : Int), U (↑c : Int), U (↑d : Int)]] ++ []) [] (I ↑a) [], decide ((↑a : Int) = (0 : Int)) = true]) rfl (by kernel_rfl) ⟨s1, (decide_eq_true q1), trivial⟩ rfl ⟨ObLe.refl _, trivial⟩ ⟨rfl, trivial, trivial⟩ rfl
  have q1 : ¬ (a : Int) = 0 := by omega
  by_cases h2 : c = 0
  · have q2 : (c : Int) = 0 := by omega
    refine CallOK.intro Try.call88 Try.func88 rfl rfl ⟨rfl, trivial, trivial⟩ ?_
    refine Safe.ends mixed Try.func88 8 [⟨1100, []⟩, ⟨1200, [(1, .call [] (I ↑a) []), (2, .tt false), (5, .call [] (I ↑c) []), (6, .tt true)]⟩, ⟨1300, []⟩] (r := .tup [S (ByteArray.mk #[]), B false, I 0]) (hp := [(0, .box (dbox m k))]) (ob := [CallOK Try.prog 89 ([] ++ [.agg [U (↑a : Int), U (↑b : Int), U (↑c : Int), U (↑d : Int)]] ++ []) [] (I ↑a) [], decide ((↑a : Int) = (0 : Int)) = false, CallOK Try.prog 115 ([] ++ [.agg [U (↑a : Int), U (↑b : Int), U (↑c : Int), U (↑d : Int)]] ++ []) [] (I ↑c) [], decide ((↑c : Int) = (0 : Int)) = true]) rfl (by kernel_rfl) ⟨s1, (decide_eq_false q1), s3, (decide_eq_true q2), trivial⟩ rfl ⟨ObLe.refl _, trivial⟩ ⟨rfl, trivial, trivial⟩ rfl
  have q2 : ¬ (c : Int) = 0 := by omega
  by_cases h3 : R ≤ b
  · have q3 : (b : Int) ≥ (R : Int) := by omega
    refine CallOK.intro Try.call88 Try.func88 rfl rfl ⟨rfl, trivial, trivial⟩ ?_
    refine Safe.ends mixed Try.func88 8 [⟨1100, []⟩, ⟨1200, [(1, .call [] (I ↑a) []), (2, .tt false), (5, .call [] (I ↑c) []), (6, .tt false), (10, .call [] (I ↑b) []), (13, .tt true)]⟩, ⟨1300, []⟩] (r := .tup [S (ByteArray.mk #[]), B false, I 0]) (hp := [(0, .box (dbox m k))]) (ob := [CallOK Try.prog 89 ([] ++ [.agg [U (↑a : Int), U (↑b : Int), U (↑c : Int), U (↑d : Int)]] ++ []) [] (I ↑a) [], decide ((↑a : Int) = (0 : Int)) = false, CallOK Try.prog 115 ([] ++ [.agg [U (↑a : Int), U (↑b : Int), U (↑c : Int), U (↑d : Int)]] ++ []) [] (I ↑c) [], decide ((↑c : Int) = (0 : Int)) = false, CallOK Try.prog 116 ([] ++ [.agg [U (↑a : Int), U (↑b : Int), U (↑c : Int), U (↑d : Int)]] ++ []) [] (I ↑b) [], decide ((↑b : Int) ≥ (↑R : Int)) = true]) rfl (by kernel_rfl) ⟨s1, (decide_eq_false q1), s3, (decide_eq_false q2), s2, (decide_eq_true q3), trivial⟩ rfl ⟨ObLe.refl _, trivial⟩ ⟨rfl, trivial, trivial⟩ rfl
  have q3 : ¬ (b : Int) ≥ (R : Int) := by omega
  have q4 : (c : Int) > (R : Int) := by
    unfold fitsR at h
    omega
  refine CallOK.intro Try.call88 Try.func88 rfl rfl ⟨rfl, trivial, trivial⟩ ?_
  refine Safe.ends mixed Try.func88 8 [⟨1100, []⟩, ⟨1200, [(1, .call [] (I ↑a) []), (2, .tt false), (5, .call [] (I ↑c) []), (6, .tt false), (10, .call [] (I ↑b) []), (13, .tt false), (17, .call [] (I ↑c) []), (20, .tt true)]⟩, ⟨1300, []⟩] (r := .tup [S (ByteArray.mk #[]), B false, I 0]) (hp := [(0, .box (dbox m k))]) (ob := [CallOK Try.prog 89 ([] ++ [.agg [U (↑a : Int), U (↑b : Int), U (↑c : Int), U (↑d : Int)]] ++ []) [] (I ↑a) [], decide ((↑a : Int) = (0 : Int)) = false, CallOK Try.prog 115 ([] ++ [.agg [U (↑a : Int), U (↑b : Int), U (↑c : Int), U (↑d : Int)]] ++ []) [] (I ↑c) [], decide ((↑c : Int) = (0 : Int)) = false, CallOK Try.prog 116 ([] ++ [.agg [U (↑a : Int), U (↑b : Int), U (↑c : Int), U (↑d : Int)]] ++ []) [] (I ↑b) [], decide ((↑b : Int) ≥ (↑R : Int)) = false, CallOK Try.prog 115 ([] ++ [.agg [U (↑a : Int), U (↑b : Int), U (↑c : Int), U (↑d : Int)]] ++ []) [] (I ↑c) [], decide ((↑c : Int) > (↑R : Int)) = true]) rfl (by kernel_rfl) ⟨s1, (decide_eq_false q1), s3, (decide_eq_false q2), s2, (decide_eq_false q3), s3, (decide_eq_true q4), trivial⟩ rfl ⟨ObLe.refl _, trivial⟩ ⟨rfl, trivial, trivial⟩ rfl
theorem text_gen (m : Nat) (k : Dk) (N R a b c d : Nat) {cc : Nat} (g : Gk k 1 (fun _ => N) cc) (hdn : k.down = false) (hN : 4 ≤ N ∧ N ≤ 1000) (hR : R + 2 = N) (ha : a ≤ 1048575) (hb : b ≤ 65535) (hc : c ≤ 4095) (hd : d ≤ 65535) (h : fitsR R a b c)
    (t : ByteArray) (bb : Bool) (rest : ∀ r : Nat, Safe Try.prog ⟨88, none, [r]⟩ [(0, .box (dbox m k)), (20, .blk 148 [spn N, I R]), (21, .blk 152 [U a, U b, U c, U d]), (22, .blk 9 [.val (.string ⟨#[]⟩)]), (23, .blk 4 [B false]), (24, .blk 29 [I 0]), (25, .blk 25 [.sl 30 0 1 c none]), (26, .blk 3 [I c]), (27, .blk 3 [I b]), (28, .blk 148 [spn N, I R]), (30, .vec 22 1 c (rowG encU (wsP (nw k 0) R b c)))] (.tup [S t, B bb, I 0]) [(20, none), (21, none), (22, none), (23, none), (24, none), (25, none), (26, none), (27, none), (28, none), (30, none)] (rfK Try.f88 0) ⟨(slotsOf 74 [(2, .ptr 20 0 0 0), (3, .ptr 21 0 0 0), (4, .ptr 22 0 0 0), (5, .ptr 23 0 0 0), (6, .ptr 24 0 0 0), (7, .ptr 25 0 0 0)]), [(0, .box (dbox m k)), (20, .blk 148 [spn N, I R]), (21, .blk 152 [U a, U b, U c, U d]), (22, .blk 9 [.val (.string ⟨#[]⟩)]), (23, .blk 4 [B false]), (24, .blk 29 [I 0]), (25, .blk 25 [.sl 30 0 1 c none]), (26, .blk 3 [I c]), (27, .blk 3 [I b]), (28, .blk 148 [spn N, I R]), (30, .vec 22 1 c (rowG encU (wsP (nw k 0) R b c)))]⟩ (idsOf [(0, .box (dbox m k)), (20, .blk 148 [spn N, I R]), (21, .blk 152 [U a, U b, U c, U d]), (22, .blk 9 [.val (.string ⟨#[]⟩)]), (23, .blk 4 [B false]), (24, .blk 29 [I 0]), (25, .blk 25 [.sl 30 0 1 c none]), (26, .blk 3 [I c]), (27, .blk 3 [I b]), (28, .blk 148 [spn N, I R]), (30, .vec 22 1 c (rowG encU (wsP (nw k 0) R b c)))])) :
    CallOK Try.prog 88 [ara N R, dsc a b c d] [(0, .box (dbox m k))] (.tup [S t, B bb, I 0]) [] := by
  have s1 := seq_any a b c d (by omega)
  have s2 := start_any a b c d (by omega)
  have s3 := dlen_any a b c d (by omega)
  obtain ⟨f1, f2, f3, f4⟩ := h
  have q1 : ¬ (a : Int) = 0 := by omega
  have q2 : ¬ (c : Int) = 0 := by omega
  have q3 : ¬ (b : Int) ≥ (R : Int) := by omega
  have q4 : ¬ (c : Int) > (R : Int) := by omega
  have se := sectors_any m k N R b c
  have it := txt_iter m k N R b c g hdn hN hR (by omega) (by omega) a b c d
  refine CallOK.intro Try.call88 Try.func88 rfl rfl ⟨rfl, trivial, trivial⟩ ?_
  refine Safe.gotoS mixed 13 [⟨1100, []⟩, ⟨1200, [(1, .call [] (I ↑a) []), (2, .tt false), (5, .call [] (I ↑c) []), (6, .tt false), (10, .call [] (I ↑b) []), (13, .tt false), (17, .call [] (I ↑c) []), (20, .tt false)]⟩, ⟨1300, []⟩, ⟨1400, [(2, .call [] (I ↑b) []), (4, .call [] (I ↑c) []), (5, .call [0] (.fn (Fn.func (119 : FuncId)) [] [.ptr 1475 0 0 0, .ptr 1476 0 0 0, .ptr 1477 0 0 0]) [(1475, some (.blk 3 [I ↑c])), (1476, some (.blk 3 [I ↑b])), (1477, some (.blk 148 [.ifc 170 (.agg [.ptr 0 0 0 0, I 0, I 0, I ↑N]), I ↑R]))])]⟩] [0, 1, 2, 3, 4, 5, 6, 7, 14, 15, 16, 17, 18, 19, 20, 21, 22, 23, 24, 25, 26, 27, 28, 29, 30, 31, 32, 33, 34, 35, 36, 37, 38, 39, 40, 41] [0, 1100, 1101, 1102, 1103, 1104, 1300, 1475, 1476, 1477] (sl := slotsOf 74 [(0, .agg [.ifc 170 (.agg [.ptr 0 0 0 0, I 0, I 0, I ↑N]), I ↑R]), (1, .agg [U (↑a : Int), U (↑b : Int), U (↑c : Int), U (↑d : Int)]), (2, .ptr 1100 0 0 0), (3, .ptr 1101 0 0 0), (4, .ptr 1102 0 0 0), (5, .ptr 1103 0 0 0), (6, .ptr 1104 0 0 0), (7, .ptr 1300 0 0 0), (14, .agg [U (↑a : Int), U (↑b : Int), U (↑c : Int), U (↑d : Int)]), (15, I ↑a), (16, B false), (17, B false), (18, .agg [U (↑a : Int), U (↑b : Int), U (↑c : Int), U (↑d : Int)]), (19, I ↑c), (20, B false), (21, B false), (22, B false), (23, .agg [U (↑a : Int), U (↑b : Int), U (↑c : Int), U (↑d : Int)]), (24, I ↑b), (25, .ptr 1100 0 0 1), (26, I ↑R), (27, B false), (28, B false), (29, B false), (30, .agg [U (↑a : Int), U (↑b : Int), U (↑c : Int), U (↑d : Int)]), (31, I ↑c), (32, .ptr 1100 0 0 1), (33, I ↑R), (34, B false), (35, B false), (36, .agg [.ifc 170 (.agg [.ptr 0 0 0 0, I 0, I 0, I ↑N]), I ↑R]), (37, .agg [U (↑a : Int), U (↑b : Int), U (↑c : Int), U (↑d : Int)]), (38, I ↑b), (39, .agg [U (↑a : Int), U (↑b : Int), U (↑c : Int), U (↑d : Int)]), (40, I ↑c), (41, .fn (Fn.func (119 : FuncId)) [] [.ptr 1475 0 0 0, .ptr 1476 0 0 0, .ptr 1477 0 0 0])]) (hp := [(0, .box (dbox m k)), (1100, .blk 148 [.ifc 170 (.agg [.ptr 0 0 0 0, I 0, I 0, I ↑N]), I ↑R]), (1101, .blk 152 [U (↑a : Int), U (↑b : Int), U (↑c : Int), U (↑d : Int)]), (1102, .blk 9 [S (ByteArray.mk #[])]), (1103, .blk 4 [B false]), (1104, .blk 29 [I 0]), (1300, .blk 25 [.val (Value.slice none 0 0)]), (1475, .blk 3 [I ↑c]), (1476, .blk 3 [I ↑b]), (1477, .blk 148 [.ifc 170 (.agg [.ptr 0 0 0 0, I 0, I 0, I ↑N]), I ↑R])]) (ob := [CallOK Try.prog 89 ([] ++ [.agg [U (↑a : Int), U (↑b : Int), U (↑c : Int), U (↑d : Int)]] ++ []) [] (I ↑a) [], decide ((↑a : Int) = (0 : Int)) = false, CallOK Try.prog 115 ([] ++ [.agg [U (↑a : Int), U (↑b : Int), U (↑c : Int), U (↑d : Int)]] ++ []) [] (I ↑c) [], decide ((↑c : Int) = (0 : Int)) = false, CallOK Try.prog 116 ([] ++ [.agg [U (↑a : Int), U (↑b : Int), U (↑c : Int), U (↑d : Int)]] ++ []) [] (I ↑b) [], decide ((↑b : Int) ≥ (↑R : Int)) = false, CallOK Try.prog 115 ([] ++ [.agg [U (↑a : Int), U (↑b : Int), U (↑c : Int), U (↑d : Int)]] ++ []) [] (I ↑c) [], decide ((↑c : Int) > (↑R : Int)) = false, CallOK Try.prog 116 ([] ++ [.agg [U (↑a : Int), U (↑b : Int), U (↑c : Int), U (↑d : Int)]] ++ []) [] (I ↑b) [], CallOK Try.prog 115 ([] ++ [.agg [U (↑a : Int), U (↑b : Int), U (↑c : Int), U (↑d : Int)]] ++ []) [] (I ↑c) [], CallOK Try.prog 92 ([] ++ [.agg [.ifc 170 (.agg [.ptr 0 0 0 0, I 0, I 0, I ↑N]), I ↑R], I ↑b, I ↑c] ++ []) [(0, .box (dbox m k))] (AV.fn (Fn.func (119 : FuncId)) [] [.ptr 1475 0 0 0, .ptr 1476 0 0 0, .ptr 1477 0 0 0]) [(1475, some (.blk 3 [I ↑c])), (1476, some (.blk 3 [I ↑b])), (1477, some (.blk 148 [.ifc 170 (.agg [.ptr 0 0 0 0, I 0, I 0, I ↑N]), I ↑R]))]]) rfl rfl (by kernel_rfl) ⟨s1, (decide_eq_false q1), s3, (decide_eq_false q2), s2, (decide_eq_false q3), s3, (decide_eq_false q4), s2, s3, (CallOK.ren se [(0, 0), (10, 1475), (11, 1476), (12, 1477)] [0, 10, 11, 12] rfl rfl rfl rfl ⟨rfl, trivial, trivial⟩ rfl ⟨rfl, trivial, rfl, rfl, rfl, rfl, rfl, rfl, trivial⟩), trivial⟩ rfl ⟨rfl, trivial, rfl, rfl, rfl, rfl, rfl, rfl, rfl, rfl, rfl, rfl, rfl, rfl, rfl, rfl, rfl, rfl, rfl, rfl, trivial⟩ ?_
  refine Safe.ren [(1100, 20), (1101, 21), (1102, 22), (1103, 23), (1104, 24), (1300, 25), (1475, 26), (1476, 27), (1477, 28)] rfl rfl rfl rfl ⟨rfl, trivial, rfl, rfl, rfl, rfl, rfl, rfl, rfl, rfl, rfl, rfl, rfl, rfl, rfl, rfl, rfl, rfl, rfl, rfl, trivial⟩ ?_
  refine Safe.here (.code (.rangeFunc (.tmp 41) (rfPs Try.f88 0) (rfAs Try.f88 0) (rfBd Try.f88 0)) :: rfK Try.f88 0) (by kernel_rfl) ?_
  refine Safe.leH (sl' := (slotsOf 74 [(2, .ptr 20 0 0 0), (3, .ptr 21 0 0 0), (4, .ptr 22 0 0 0), (5, .ptr 23 0 0 0), (6, .ptr 24 0 0 0), (7, .ptr 25 0 0 0), (41, .fn (.func 119) [] [.ptr 26 0 0 0, .ptr 27 0 0 0, .ptr 28 0 0 0])])) (hp' := [(0, .box (dbox m k)), (20, .blk 148 [spn N, I R]), (21, .blk 152 [U a, U b, U c, U d]), (22, .blk 9 [.val (.string ⟨#[]⟩)]), (23, .blk 4 [B false]), (24, .blk 29 [I 0]), (25, .blk 25 [.val (.slice none 0 0)]), (26, .blk 3 [I c]), (27, .blk 3 [I b]), (28, .blk 148 [spn N, I R])]) (dom' := idsOf [(0, .box (dbox m k)), (20, .blk 148 [spn N, I R]), (21, .blk 152 [U a, U b, U c, U d]), (22, .blk 9 [.val (.string ⟨#[]⟩)]), (23, .blk 4 [B false]), (24, .blk 29 [I 0]), (25, .blk 25 [.val (.slice none 0 0)]), (26, .blk 3 [I c]), (27, .blk 3 [I b]), (28, .blk 148 [spn N, I R])]) ?_ rfl ?_ ⟨ObLe.refl _, ObLe.refl _, ObLe.refl _, ObLe.refl _, ObLe.refl _, ObLe.refl _, ObLe.refl _, ObLe.refl _, ObLe.refl _, ObLe.refl _, trivial⟩ rfl ⟨rfl, trivial, rfl, rfl, rfl, rfl, rfl, rfl, rfl, rfl, rfl, rfl, rfl, rfl, rfl, rfl, rfl, rfl, rfl, rfl, trivial⟩
  rotate_left
  · repeat (first | exact ⟨rfl, trivial⟩ | refine ⟨rfl, ?_⟩ | refine ⟨trivial, ?_⟩ | exact trivial)
  refine Safe.rangeF (t := 41) (pe := none) (sl1 := (slotsOf 74 [(2, .ptr 20 0 0 0), (3, .ptr 21 0 0 0), (4, .ptr 22 0 0 0), (5, .ptr 23 0 0 0), (6, .ptr 24 0 0 0), (7, .ptr 25 0 0 0)])) 99 [(0, .box (dbox m k)), (20, .blk 148 [spn N, I R]), (21, .blk 152 [U a, U b, U c, U d]), (22, .blk 9 [.val (.string ⟨#[]⟩)]), (23, .blk 4 [B false]), (24, .blk 29 [I 0]), (25, .blk 25 [.sl 30 0 1 c none]), (26, .blk 3 [I c]), (27, .blk 3 [I b]), (28, .blk 148 [spn N, I R]), (30, .vec 22 1 c (rowG encU (wsP (nw k 0) R b c)))] ?_ rfl rfl rfl it rfl rfl (by decide) (fun id => ?_) rfl rfl rfl ⟨rfl, trivial, rfl, rfl, rfl, rfl, rfl, rfl, rfl, rfl, rfl, rfl, rfl, rfl, rfl, rfl, rfl, rfl, rfl, rfl, rfl, fun _ => rfl, trivial⟩ ⟨ObLe.refl _, trivial⟩ ⟨rfl, trivial, trivial⟩ rfl rest
  · repeat (first | exact ⟨rfl, trivial⟩ | refine ⟨rfl, ?_⟩ | refine ⟨trivial, ?_⟩ | exact trivial)
  · rfl
theorem text_yes (m : Nat) (k : Dk) (N R a b c d : Nat) {cc : Nat} (g : Gk k 1 (fun _ => N) cc) (hdn : k.down = false) (hN : 4 ≤ N ∧ N ≤ 1000) (hR : R + 2 = N) (ha : a ≤ 1048575) (hb : b ≤ 65535) (hc : c ≤ 4095) (hd : d ≤ 65535) (h : fitsR R a b c) (hw : Wf (wsP (nw k 0) R b c))
    (n : Nat) (h1 : fromOK (wsP (nw k 0) R b c) n) (h2 : pads (wsP (nw k 0) R b c) n (nB n)) (h3 : smW a b c (wsP (nw k 0) R b c) = d) :
    CallOK Try.prog 88 [ara N R, dsc a b c d] [(0, .box (dbox m k))] (.tup [S (fromT (wsP (nw k 0) R b c) n), B true, I 0]) [] := by
  have f4 := h.2.2.2
  have hl := wsP_len (nw k 0) R b c
  have ft := ft_ok _ n hw h1 h2
  have so := sumOf_any a b c d _ (by omega) (by omega) (by omega) hw (by omega)
  rw [h3] at so
  have qd : ¬ ¬ (d : Int) = (d : Int) := fun h => h rfl
  refine text_gen m k N R a b c d g hdn hN hR ha hb hc hd h _ _ fun r => ?_
  clear g hdn
  generalize wsP (nw k 0) R b c = L at *
  subst hl
  refine Safe.ends mixed Try.func88 10 [⟨1100, [(1, .call [30] (.tup [S (fromT L n), I 0]) [])]⟩, ⟨1200, [(5, .call [30] (U (↑d : Int)) []), (8, .tt false)]⟩, ⟨1300, []⟩] (r := .tup [S (fromT L n), B true, I 0]) (hp := [(0, .box (dbox m k))]) (ob := [CallOK Try.prog 117 ([] ++ [.sl 30 0 1 L.length none] ++ []) [(30, .vec 22 1 L.length (rowG encU L))] (.tup [AV.val (Value.string (fromT L n)), I 0]) [], CallOK Try.prog 93 ([] ++ [.agg [U (↑a : Int), U (↑b : Int), U (↑L.length : Int), U (↑d : Int)], .sl 30 0 1 L.length none] ++ []) [(30, .vec 22 1 L.length (rowG encU L))] (U (↑d : Int)) [], (0 : Int) ≤ (3 : Int) ∧ (3 : Int) < (↑(4 : Nat) : Int), (decide ¬(↑d : Int) = (↑d : Int)) = false]) rfl (by kernel_rfl) ⟨(CallOK.ren (CallOK.own 22 0 (es := 1) (n := L.length) (row := rowG encU L) rfl rfl rfl ft) [(0, 30)] [0] rfl rfl rfl rfl ⟨rfl, fun _ => rfl, trivial⟩ rfl ⟨rfl, fun _ => rfl, trivial⟩), (CallOK.ren (CallOK.own 22 0 (es := 1) (n := L.length) (row := rowG encU L) rfl rfl rfl so) [(0, 30)] [0] rfl rfl rfl rfl ⟨rfl, fun _ => rfl, trivial⟩ rfl ⟨rfl, fun _ => rfl, trivial⟩), (by omega), (decide_eq_false qd), trivial⟩ rfl ⟨ObLe.refl _, trivial⟩ ⟨rfl, trivial, trivial⟩ rfl
theorem text_sum (m : Nat) (k : Dk) (N R a b c d : Nat) {cc : Nat} (g : Gk k 1 (fun _ => N) cc) (hdn : k.down = false) (hN : 4 ≤ N ∧ N ≤ 1000) (hR : R + 2 = N) (ha : a ≤ 1048575) (hb : b ≤ 65535) (hc : c ≤ 4095) (hd : d ≤ 65535) (h : fitsR R a b c) (hw : Wf (wsP (nw k 0) R b c))
    (n : Nat) (h1 : fromOK (wsP (nw k 0) R b c) n) (h2 : pads (wsP (nw k 0) R b c) n (nB n)) (h3 : ¬ smW a b c (wsP (nw k 0) R b c) = d) :
    CallOK Try.prog 88 [ara N R, dsc a b c d] [(0, .box (dbox m k))] (.tup [.val (.string ⟨#[]⟩), B false, I 0]) [] := by
  have f4 := h.2.2.2
  have hl := wsP_len (nw k 0) R b c
  have ft := ft_ok _ n hw h1 h2
  have so := sumOf_any a b c d _ (by omega) (by omega) (by omega) hw (by omega)
  refine text_gen m k N R a b c d g hdn hN hR ha hb hc hd h _ _ fun r => ?_
  clear g hdn
  generalize wsP (nw k 0) R b c = L at *
  subst hl
  refine Safe.ends mixed Try.func88 9 [⟨1100, [(1, .call [30] (.tup [S (fromT L n), I 0]) [])]⟩, ⟨1200, [(5, .call [30] (U (smW (↑a : Int) (↑b : Int) (↑L.length : Int) L)) []), (8, .tt true)]⟩, ⟨1300, []⟩] (r := .tup [S (ByteArray.mk #[]), B false, I 0]) (hp := [(0, .box (dbox m k))]) (ob := [CallOK Try.prog 117 ([] ++ [.sl 30 0 1 L.length none] ++ []) [(30, .vec 22 1 L.length (rowG encU L))] (.tup [AV.val (Value.string (fromT L n)), I 0]) [], CallOK Try.prog 93 ([] ++ [.agg [U (↑a : Int), U (↑b : Int), U (↑L.length : Int), U (↑d : Int)], .sl 30 0 1 L.length none] ++ []) [(30, .vec 22 1 L.length (rowG encU L))] (U (smW (↑a : Int) (↑b : Int) (↑L.length : Int) L)) [], (0 : Int) ≤ (3 : Int) ∧ (3 : Int) < (↑(4 : Nat) : Int), (decide ¬smW (↑a : Int) (↑b : Int) (↑L.length : Int) L = (↑d : Int)) = true]) rfl (by kernel_rfl) ⟨(CallOK.ren (CallOK.own 22 0 (es := 1) (n := L.length) (row := rowG encU L) rfl rfl rfl ft) [(0, 30)] [0] rfl rfl rfl rfl ⟨rfl, fun _ => rfl, trivial⟩ rfl ⟨rfl, fun _ => rfl, trivial⟩), (CallOK.ren (CallOK.own 22 0 (es := 1) (n := L.length) (row := rowG encU L) rfl rfl rfl so) [(0, 30)] [0] rfl rfl rfl rfl ⟨rfl, fun _ => rfl, trivial⟩ rfl ⟨rfl, fun _ => rfl, trivial⟩), (by omega), (decide_eq_true h3), trivial⟩ rfl ⟨ObLe.refl _, trivial⟩ ⟨rfl, trivial, trivial⟩ rfl
theorem text_pad (m : Nat) (k : Dk) (N R a b c d : Nat) {cc : Nat} (g : Gk k 1 (fun _ => N) cc) (hdn : k.down = false) (hN : 4 ≤ N ∧ N ≤ 1000) (hR : R + 2 = N) (ha : a ≤ 1048575) (hb : b ≤ 65535) (hc : c ≤ 4095) (hd : d ≤ 65535) (h : fitsR R a b c) (hw : Wf (wsP (nw k 0) R b c))
    (n : Nat) (h1 : fromOK (wsP (nw k 0) R b c) n) (h2 : ¬ pads (wsP (nw k 0) R b c) n (nB n)) :
    CallOK Try.prog 88 [ara N R, dsc a b c d] [(0, .box (dbox m k))] (.tup [.val (.string ⟨#[]⟩), B false, I 0]) [] := by
  have f4 := h.2.2.2
  have hl := wsP_len (nw k 0) R b c
  have ft := ft_pad _ n hw h1 h2
  refine text_gen m k N R a b c d g hdn hN hR ha hb hc hd h _ _ fun r => ?_
  clear g hdn
  generalize wsP (nw k 0) R b c = L at *
  subst hl
  refine Safe.ends mixed Try.func88 9 [⟨1100, [(1, .call [30] (.tup [S (ByteArray.mk #[]), I 2]) [])]⟩, ⟨1200, []⟩, ⟨1300, []⟩] (r := .tup [S (ByteArray.mk #[]), B false, I 0]) (hp := [(0, .box (dbox m k))]) (ob := [CallOK Try.prog 117 ([] ++ [.sl 30 0 1 L.length none] ++ []) [(30, .vec 22 1 L.length (rowG encU L))] (.tup [AV.val (Value.string (ByteArray.mk #[])), I 2]) []]) rfl (by kernel_rfl) ⟨(CallOK.ren (CallOK.own 22 0 (es := 1) (n := L.length) (row := rowG encU L) rfl rfl rfl ft) [(0, 30)] [0] rfl rfl rfl rfl ⟨rfl, fun _ => rfl, trivial⟩ rfl ⟨rfl, fun _ => rfl, trivial⟩), trivial⟩ rfl ⟨ObLe.refl _, trivial⟩ ⟨rfl, trivial, trivial⟩ rfl
theorem text_bad (m : Nat) (k : Dk) (N R a b c d : Nat) {cc : Nat} (g : Gk k 1 (fun _ => N) cc) (hdn : k.down = false) (hN : 4 ≤ N ∧ N ≤ 1000) (hR : R + 2 = N) (ha : a ≤ 1048575) (hb : b ≤ 65535) (hc : c ≤ 4095) (hd : d ≤ 65535) (h : fitsR R a b c) (hw : Wf (wsP (nw k 0) R b c))
    (h1 : ∀ n, ¬ fromOK (wsP (nw k 0) R b c) n) :
    CallOK Try.prog 88 [ara N R, dsc a b c d] [(0, .box (dbox m k))] (.tup [.val (.string ⟨#[]⟩), B false, I 0]) [] := by
  have f4 := h.2.2.2
  have hl := wsP_len (nw k 0) R b c
  have ft := ft_bad _ hw h1
  refine text_gen m k N R a b c d g hdn hN hR ha hb hc hd h _ _ fun r => ?_
  clear g hdn
  generalize wsP (nw k 0) R b c = L at *
  subst hl
  refine Safe.ends mixed Try.func88 9 [⟨1100, [(1, .call [30] (.tup [S (ByteArray.mk #[]), I 2]) [])]⟩, ⟨1200, []⟩, ⟨1300, []⟩] (r := .tup [S (ByteArray.mk #[]), B false, I 0]) (hp := [(0, .box (dbox m k))]) (ob := [CallOK Try.prog 117 ([] ++ [.sl 30 0 1 L.length none] ++ []) [(30, .vec 22 1 L.length (rowG encU L))] (.tup [AV.val (Value.string (ByteArray.mk #[])), I 2]) []]) rfl (by kernel_rfl) ⟨(CallOK.ren (CallOK.own 22 0 (es := 1) (n := L.length) (row := rowG encU L) rfl rfl rfl ft) [(0, 30)] [0] rfl rfl rfl rfl ⟨rfl, fun _ => rfl, trivial⟩ rfl ⟨rfl, fun _ => rfl, trivial⟩), trivial⟩ rfl ⟨ObLe.refl _, trivial⟩ ⟨rfl, trivial, trivial⟩ rfl
end Go.Proofs.Ytbgbjgedjmhcaaa
namespace Go.Proofs.Ytbgbjgedjmhcaaa
open Go.RowKit
open OldD (Dk chk3 chk4 rdV wrE wrK flK)
def n0 (w : Int) : Nat := (f0 w).toNat
def n1 (w : Int) : Nat := (f1 w).toNat
def n2 (w : Int) : Nat := (f2 w).toNat
def n3 (w : Int) : Nat := (f3 w).toNat
theorem n_eq (w : Int) : (f0 w = (n0 w : Int) ∧ n0 w ≤ 1048575) ∧ (f1 w = (n1 w : Int) ∧ n1 w ≤ 65535) ∧ (f2 w = (n2 w : Int) ∧ n2 w ≤ 4095) ∧ (f3 w = (n3 w : Int) ∧ n3 w ≤ 65535) := by
  have := f_bd w
  unfold n0 n1 n2 n3
  omega
def Wh (v : Nat → Int) (R : Nat) (w : Int) (t : ByteArray) : Prop :=
  fitsR R (n0 w) (n1 w) (n2 w) ∧ fromOK (wsP v R (n1 w) (n2 w)) t.size ∧ pads (wsP v R (n1 w) (n2 w)) t.size (nB t.size) ∧ smW (n0 w) (n1 w) (n2 w) (wsP v R (n1 w) (n2 w)) = n3 w ∧ t = fromT (wsP v R (n1 w) (n2 w)) t.size
theorem fromOK_one {L : List Int} {n n' : Nat} (h : fromOK L n) (h' : fromOK L n') : n = n' := by
  have a := h.1
  have b := h'.1
  omega
theorem Wh.one {v : Nat → Int} {R : Nat} {w : Int} {t t' : ByteArray} (h : Wh v R w t) (h' : Wh v R w t') : t = t' := by
  have e := fromOK_one h.2.1 h'.2.1
  rw [h.2.2.2.2, h'.2.2.2.2, e]
abbrev dw (w : Int) : AV := dsc (f0 w) (f1 w) (f2 w) (f3 w)
def Vw (v : Nat → Int) (N : Nat) : Prop := ∀ t, t < N → 0 ≤ v t ∧ v t ≤ 18446744073709551615
def Vr (v : Nat → Int) (R : Nat) (w : Int) : Prop := (0 ≤ w ∧ w ≤ 18446744073709551615) ∧ Wf (wsP v R (n1 w) (n2 w))
theorem Vw.vr {v : Nat → Int} {N R p : Nat} (h : Vw v N) (hR : R + 2 = N) (h1 : 1 ≤ R) (hp : p < N) : Vr v R (v p) := ⟨h p hp, wsP_wf (fun t ht => h t (by omega)) h1 _ _⟩
theorem text_wh (m : Nat) (k : Dk) (N R : Nat) (w : Int) {cc : Nat} (g : Gk k 1 (fun _ => N) cc) (hdn : k.down = false) (hN : 4 ≤ N ∧ N ≤ 1000) (hR : R + 2 = N) (hv : Vr (nw k 0) R w) (t : ByteArray) (h : Wh (nw k 0) R w t) :
    CallOK Try.prog 88 [ara N R, dw w] [(0, .box (dbox m k))] (.tup [S t, B true, I 0]) [] := by
  obtain ⟨⟨e0, b0⟩, ⟨e1, b1⟩, ⟨e2, b2⟩, ⟨e3, b3⟩⟩ := n_eq w
  obtain ⟨h1, h2, h3, h4, h5⟩ := h
  unfold dw
  rw [e0, e1, e2, e3, h5]
  exact text_yes m k N R _ _ _ _ g hdn hN hR b0 b1 b2 b3 h1 hv.2 t.size h2 h3 h4
theorem text_no (m : Nat) (k : Dk) (N R : Nat) (w : Int) {cc : Nat} (g : Gk k 1 (fun _ => N) cc) (hdn : k.down = false) (hN : 4 ≤ N ∧ N ≤ 1000) (hR : R + 2 = N) (hv : Vr (nw k 0) R w) (h : ∀ t, ¬ Wh (nw k 0) R w t) :
    CallOK Try.prog 88 [ara N R, dw w] [(0, .box (dbox m k))] (.tup [.val (.string ⟨#[]⟩), B false, I 0]) [] := by
  obtain ⟨⟨e0, b0⟩, ⟨e1, b1⟩, ⟨e2, b2⟩, ⟨e3, b3⟩⟩ := n_eq w
  unfold dw
  rw [e0, e1, e2, e3]
  by_cases h1 : fitsR R (n0 w) (n1 w) (n2 w)
  · by_cases h2 : ∃ n, fromOK (wsP (nw k 0) R (n1 w) (n2 w)) n
    · obtain ⟨n, hn⟩ := h2
      by_cases h3 : pads (wsP (nw k 0) R (n1 w) (n2 w)) n (nB n)
      · refine text_sum m k N R _ _ _ _ g hdn hN hR b0 b1 b2 b3 h1 hv.2 n hn h3 fun h4 => ?_
        refine h (fromT (wsP (nw k 0) R (n1 w) (n2 w)) n) ⟨h1, ?_, ?_, h4, ?_⟩ <;> rw [fromT_size] <;> assumption
      · exact text_pad m k N R _ _ _ _ g hdn hN hR b0 b1 b2 b3 h1 hv.2 n hn h3
    · exact text_bad m k N R _ _ _ _ g hdn hN hR b0 b1 b2 b3 h1 hv.2 fun n hn => h2 ⟨n, hn⟩
  · exact text_unfit m k N R _ _ _ _ hN hR b0 b1 b2 h1
theorem seq_w (w : Int) : CallOK Try.prog 89 [dw w] [] (I (f0 w)) [] := seq_any _ _ _ _ (by have := f_bd w; omega)
theorem start_w (w : Int) : CallOK Try.prog 116 [dw w] [] (I (f1 w)) [] := start_any _ _ _ _ (by have := f_bd w; omega)
theorem dlen_w (w : Int) : CallOK Try.prog 115 [dw w] [] (I (f2 w)) [] := dlen_any _ _ _ _ (by have := f_bd w; omega)
abbrev cpy (b : Bool) (s : Int) (t : AV) : AV := .agg [B b, I s, t]
abbrev S0 : AV := .val (.string ⟨#[]⟩)
theorem read_none (m : Nat) (k : Dk) (N : Nat) {cc : Nat} (g : Gk k 1 (fun _ => N) cc) (hdn : k.down = false) (hN : 4 ≤ N ∧ N ≤ 1000) (h0 : nw k 0 0 = 0) : CallOK Try.prog 50 [spn N] [(0, .box (dbox m k))] (.tup [cpy false 0 S0, I 12]) [(0, some (.box (dbox m k)))] := by
  have op := open_ok m k N hN
  have rd := sr_any m k N 0 g hdn hN.2 (by omega)
  rw [h0] at rd
  clear g hdn
  refine CallOK.intro Try.call50 Try.func50 rfl rfl ⟨rfl, trivial, trivial⟩ ?_
  refine Safe.ends mixed Try.func50 22 [⟨1100, []⟩, ⟨1200, [(1, .call [0] (.tup [.agg [.ifc 170 (.agg [.ptr 0 0 0 0, I 0, I 0, I ↑N]), I ((↑N : Int) - (2 : Int))], I 0]) [])]⟩, ⟨1300, []⟩, ⟨1400, [(1, .inv 168 (.agg [.ptr 0 0 0 0, I 0, I 0, I ↑N]) [0] (.tup [U (0 : Int), I 0]) [(0, some (.box (dbox m k)))])]⟩, ⟨1500, []⟩, ⟨1600, []⟩, ⟨1700, []⟩] (r := .tup [.agg [B false, I 0, S (ByteArray.mk #[])], I 12]) (hp := [(0, .box (dbox m k))]) (ob := [CallOK Try.prog 85 ([] ++ [.ifc 170 (.agg [.ptr 0 0 0 0, I 0, I 0, I ↑N])] ++ []) [(0, .box (dbox m k))] (.tup [.agg [.ifc 170 (.agg [.ptr 0 0 0 0, I 0, I 0, I ↑N]), I ((↑N : Int) - (2 : Int))], I 0]) [], MethOK Try.prog "Read" (.ifc 170 (.agg [.ptr 0 0 0 0, I 0, I 0, I ↑N])) 168 (.agg [.ptr 0 0 0 0, I 0, I 0, I ↑N]), CallOK Try.prog 168 [.agg [.ptr 0 0 0 0, I 0, I 0, I ↑N], ofV (Value.int IntKind.i64 (0 : Int))] [(0, .box (dbox m k))] (.tup [U (0 : Int), I 0]) [(0, some (.box (dbox m k)))]]) rfl (by kernel_rfl) ⟨op, (MethOK.of (by kernel_rfl)), rd, trivial⟩ rfl ⟨ObLe.refl _, trivial⟩ ⟨rfl, trivial, trivial⟩ rfl
theorem read_sum (m : Nat) (k : Dk) (N R : Nat) {cc : Nat} (g : Gk k 1 (fun _ => N) cc) (hdn : k.down = false) (hN : 4 ≤ N ∧ N ≤ 1000) (hR : R + 2 = N) (hv : Vr (nw k 0) R (nw k 0 0)) (h0 : ¬ nw k 0 0 = 0) (h : ∀ t, ¬ Wh (nw k 0) R (nw k 0 0) t) : CallOK Try.prog 50 [spn N] [(0, .box (dbox m k))] (.tup [cpy false (f0 (nw k 0 0)) S0, I 11]) [(0, some (.box (dbox m k)))] := by
  have op := open_ok m k N hN
  rw [show (N : Int) - 2 = (R : Int) by omega] at op
  have rd := sr_any m k N 0 g hdn hN.2 (by omega)
  have tx := text_no m k N R (nw k 0 0) g hdn hN hR hv h
  have fw := fromWord_any (nw k 0 0) hv.1
  have sq := seq_w (nw k 0 0)
  clear g hdn hv h
  refine CallOK.intro Try.call50 Try.func50 rfl rfl ⟨rfl, trivial, trivial⟩ ?_
  refine Safe.ends mixed Try.func50 35 [⟨1100, []⟩, ⟨1200, [(1, .call [0] (.tup [.agg [.ifc 170 (.agg [.ptr 0 0 0 0, I 0, I 0, I ↑N]), I ↑R], I 0]) [])]⟩, ⟨1300, []⟩, ⟨1400, [(1, .inv 168 (.agg [.ptr 0 0 0 0, I 0, I 0, I ↑N]) [0] (.tup [U (nw k 0 0), I 0]) [(0, some (.box (dbox m k)))])]⟩, ⟨1500, []⟩, ⟨1600, [(1, .tt false)]⟩, ⟨1700, [(1, .call [] (.agg [U (f0 (nw k 0 0)), U (f1 (nw k 0 0)), U (f2 (nw k 0 0)), U (f3 (nw k 0 0))]) [])]⟩, ⟨1800, [(2, .call [0] (.tup [S (ByteArray.mk #[]), B false, I 0]) [])]⟩, ⟨1900, []⟩, ⟨2000, []⟩, ⟨2100, [(1, .call [] (I (f0 (nw k 0 0))) [])]⟩] (r := .tup [.agg [B false, I (f0 (nw k 0 0)), S (ByteArray.mk #[])], I 11]) (hp := [(0, .box (dbox m k))]) (ob := [CallOK Try.prog 85 ([] ++ [.ifc 170 (.agg [.ptr 0 0 0 0, I 0, I 0, I ↑N])] ++ []) [(0, .box (dbox m k))] (.tup [.agg [.ifc 170 (.agg [.ptr 0 0 0 0, I 0, I 0, I ↑N]), I ↑R], I 0]) [], MethOK Try.prog "Read" (.ifc 170 (.agg [.ptr 0 0 0 0, I 0, I 0, I ↑N])) 168 (.agg [.ptr 0 0 0 0, I 0, I 0, I ↑N]), CallOK Try.prog 168 [.agg [.ptr 0 0 0 0, I 0, I 0, I ↑N], ofV (Value.int IntKind.i64 (0 : Int))] [(0, .box (dbox m k))] (.tup [U (nw k 0 0), I 0]) [(0, some (.box (dbox m k)))], decide (nw k 0 0 = (0 : Int)) = false, CallOK Try.prog 87 ([] ++ [U (nw k 0 0)] ++ []) [] (.agg [U (f0 (nw k 0 0)), U (f1 (nw k 0 0)), U (f2 (nw k 0 0)), U (f3 (nw k 0 0))]) [], CallOK Try.prog 88 ([] ++ [.agg [.ifc 170 (.agg [.ptr 0 0 0 0, I 0, I 0, I ↑N]), I ↑R], .agg [U (f0 (nw k 0 0)), U (f1 (nw k 0 0)), U (f2 (nw k 0 0)), U (f3 (nw k 0 0))]] ++ []) [(0, .box (dbox m k))] (.tup [AV.val (Value.string (ByteArray.mk #[])), B false, I 0]) [], CallOK Try.prog 89 ([] ++ [.agg [U (f0 (nw k 0 0)), U (f1 (nw k 0 0)), U (f2 (nw k 0 0)), U (f3 (nw k 0 0))]] ++ []) [] (I (f0 (nw k 0 0))) []]) rfl (by kernel_rfl) ⟨op, (MethOK.of (by kernel_rfl)), rd, (decide_eq_false h0), fw, tx, sq, trivial⟩ rfl ⟨ObLe.refl _, trivial⟩ ⟨rfl, trivial, trivial⟩ rfl
theorem read_ok (m : Nat) (k : Dk) (N R : Nat) {cc : Nat} (g : Gk k 1 (fun _ => N) cc) (hdn : k.down = false) (hN : 4 ≤ N ∧ N ≤ 1000) (hR : R + 2 = N) (hv : Vr (nw k 0) R (nw k 0 0)) (h0 : ¬ nw k 0 0 = 0) (t : ByteArray) (h : Wh (nw k 0) R (nw k 0 0) t) : CallOK Try.prog 50 [spn N] [(0, .box (dbox m k))] (.tup [cpy true (f0 (nw k 0 0)) (S t), I 0]) [(0, some (.box (dbox m k)))] := by
  have op := open_ok m k N hN
  rw [show (N : Int) - 2 = (R : Int) by omega] at op
  have rd := sr_any m k N 0 g hdn hN.2 (by omega)
  have tx := text_wh m k N R (nw k 0 0) g hdn hN hR hv t h
  have fw := fromWord_any (nw k 0 0) hv.1
  have sq := seq_w (nw k 0 0)
  clear g hdn hv h
  refine CallOK.intro Try.call50 Try.func50 rfl rfl ⟨rfl, trivial, trivial⟩ ?_
  refine Safe.ends mixed Try.func50 37 [⟨1100, []⟩, ⟨1200, [(1, .call [0] (.tup [.agg [.ifc 170 (.agg [.ptr 0 0 0 0, I 0, I 0, I ↑N]), I ↑R], I 0]) [])]⟩, ⟨1300, []⟩, ⟨1400, [(1, .inv 168 (.agg [.ptr 0 0 0 0, I 0, I 0, I ↑N]) [0] (.tup [U (nw k 0 0), I 0]) [(0, some (.box (dbox m k)))])]⟩, ⟨1500, []⟩, ⟨1600, [(1, .tt false)]⟩, ⟨1700, [(1, .call [] (.agg [U (f0 (nw k 0 0)), U (f1 (nw k 0 0)), U (f2 (nw k 0 0)), U (f3 (nw k 0 0))]) [])]⟩, ⟨1800, [(2, .call [0] (.tup [S t, B true, I 0]) [])]⟩, ⟨1900, []⟩, ⟨2000, []⟩, ⟨2100, [(1, .call [] (I (f0 (nw k 0 0))) [])]⟩] (r := .tup [.agg [B true, I (f0 (nw k 0 0)), S t], I 0]) (hp := [(0, .box (dbox m k))]) (ob := [CallOK Try.prog 85 ([] ++ [.ifc 170 (.agg [.ptr 0 0 0 0, I 0, I 0, I ↑N])] ++ []) [(0, .box (dbox m k))] (.tup [.agg [.ifc 170 (.agg [.ptr 0 0 0 0, I 0, I 0, I ↑N]), I ↑R], I 0]) [], MethOK Try.prog "Read" (.ifc 170 (.agg [.ptr 0 0 0 0, I 0, I 0, I ↑N])) 168 (.agg [.ptr 0 0 0 0, I 0, I 0, I ↑N]), CallOK Try.prog 168 [.agg [.ptr 0 0 0 0, I 0, I 0, I ↑N], ofV (Value.int IntKind.i64 (0 : Int))] [(0, .box (dbox m k))] (.tup [U (nw k 0 0), I 0]) [(0, some (.box (dbox m k)))], decide (nw k 0 0 = (0 : Int)) = false, CallOK Try.prog 87 ([] ++ [U (nw k 0 0)] ++ []) [] (.agg [U (f0 (nw k 0 0)), U (f1 (nw k 0 0)), U (f2 (nw k 0 0)), U (f3 (nw k 0 0))]) [], CallOK Try.prog 88 ([] ++ [.agg [.ifc 170 (.agg [.ptr 0 0 0 0, I 0, I 0, I ↑N]), I ↑R], .agg [U (f0 (nw k 0 0)), U (f1 (nw k 0 0)), U (f2 (nw k 0 0)), U (f3 (nw k 0 0))]] ++ []) [(0, .box (dbox m k))] (.tup [AV.val (Value.string t), B true, I 0]) [], CallOK Try.prog 89 ([] ++ [.agg [U (f0 (nw k 0 0)), U (f1 (nw k 0 0)), U (f2 (nw k 0 0)), U (f3 (nw k 0 0))]] ++ []) [] (I (f0 (nw k 0 0))) []]) rfl (by kernel_rfl) ⟨op, (MethOK.of (by kernel_rfl)), rd, (decide_eq_false h0), fw, tx, sq, trivial⟩ rfl ⟨ObLe.refl _, trivial⟩ ⟨rfl, trivial, trivial⟩ rfl
theorem seqs_ok (m : Nat) (k : Dk) (N : Nat) {cc : Nat} (g : Gk k 1 (fun _ => N) cc) (hdn : k.down = false) (hN : 4 ≤ N ∧ N ≤ 1000) (hv : Vw (nw k 0) N) : CallOK Try.prog 52 [spn N] [(0, .box (dbox m k))] (.tup [I (f0 (nw k 0 0)), I (f0 (nw k 0 1)), I 0]) [(0, some (.box (dbox m k)))] := by
  have op := open_ok m k N hN
  have ra := readall_g m k N 2 g hdn hN.2 (by omega)
  have ra : CallOK Try.prog 62 [spn N, I 0, I 2] [(0, .box (dbox m k))] (.tup [.sl 10 0 1 2 none, I 0]) [(0, some (.box (dbox m k))), (10, some (.vec 22 1 2 (rowG encU [nw k 0 0, nw k 0 1])))] := ra
  have fwA := fromWord_any (nw k 0 0) (hv 0 (by omega))
  have fwB := fromWord_any (nw k 0 1) (hv 1 (by omega))
  have s1 := seq_w (nw k 0 0)
  have s2 := seq_w (nw k 0 1)
  clear g hdn hv
  generalize nw k 0 0 = x at *
  generalize nw k 0 1 = y at *
  have ra : CallOK Try.prog 62 [spn N, I 0, I 2] [(0, .box (dbox m k))] (.tup [.sl 10 0 1 2 none, I 0]) [(0, some (.box (dbox m k))), (10, some (.vec 22 1 2 (rowsOf [U x, U y] 1)))] :=
    ra.simO (OutSim.cons (OSim.refl _) (OutSim.cons ⟨⟨rfl, rfl, rfl, fun q hq => match q, hq with | 0, _ | 1, _ => rfl⟩, ⟨rfl, rfl, rfl, fun q hq => match q, hq with | 0, _ | 1, _ => rfl⟩⟩ OutSim.nil))
  refine CallOK.intro Try.call52 Try.func52 rfl rfl ⟨rfl, trivial, trivial⟩ ?_
  refine Safe.ends mixed Try.func52 18 [⟨1100, []⟩, ⟨1200, [(1, .call [0] (.tup [.agg [.ifc 170 (.agg [.ptr 0 0 0 0, I 0, I 0, I ↑N]), I ((↑N : Int) - (2 : Int))], I 0]) [])]⟩, ⟨1300, []⟩, ⟨1400, [(1, .call [0] (.tup [.sl 1455 0 1 2 none, I 0]) [(0, some (.box (dbox m k))), (1455, some (.vec 22 1 2 (rowsOf [U x, U y] 1)))])]⟩, ⟨1500, []⟩, ⟨1600, [(3, .call [] (.agg [U (f0 x), U (f1 x), U (f2 x), U (f3 x)]) []), (4, .call [] (I (f0 x)) []), (8, .call [] (.agg [U (f0 y), U (f1 y), U (f2 y), U (f3 y)]) []), (9, .call [] (I (f0 y)) [])]⟩] (r := .tup [I (f0 x), I (f0 y), I 0]) (hp := [(0, .box (dbox m k))]) (ob := [CallOK Try.prog 85 ([] ++ [.ifc 170 (.agg [.ptr 0 0 0 0, I 0, I 0, I ↑N])] ++ []) [(0, .box (dbox m k))] (.tup [.agg [.ifc 170 (.agg [.ptr 0 0 0 0, I 0, I 0, I ↑N]), I ((↑N : Int) - (2 : Int))], I 0]) [], CallOK Try.prog 62 ([] ++ [.ifc 170 (.agg [.ptr 0 0 0 0, I 0, I 0, I ↑N]), ofV (Value.int IntKind.i64 (0 : Int)), ofV (Value.int IntKind.i64 (2 : Int))] ++ []) [(0, .box (dbox m k))] (.tup [.sl 1455 0 1 2 none, I 0]) [(0, some (.box (dbox m k))), (1455, some (.vec 22 1 2 (rowsOf [U x, U y] 1)))], (0 : Int) ≤ (0 : Int) ∧ (0 : Int) < (↑(2 : Nat) : Int), 0 < 2, CallOK Try.prog 87 ([] ++ [U x] ++ []) [] (.agg [U (f0 x), U (f1 x), U (f2 x), U (f3 x)]) [], CallOK Try.prog 89 ([] ++ [.agg [U (f0 x), U (f1 x), U (f2 x), U (f3 x)]] ++ []) [] (I (f0 x)) [], (0 : Int) ≤ (1 : Int) ∧ (1 : Int) < (↑(2 : Nat) : Int), 1 < 2, CallOK Try.prog 87 ([] ++ [U y] ++ []) [] (.agg [U (f0 y), U (f1 y), U (f2 y), U (f3 y)]) [], CallOK Try.prog 89 ([] ++ [.agg [U (f0 y), U (f1 y), U (f2 y), U (f3 y)]] ++ []) [] (I (f0 y)) []]) rfl (by kernel_rfl) ⟨op, (CallOK.simO (CallOK.ren ra [(0, 0), (10, 1455)] [0, 10] rfl rfl rfl rfl ⟨rfl, trivial, trivial⟩ rfl ⟨rfl, trivial, rfl, closed_rows rfl, trivial⟩) (OutSim.cons (OSim.refl _) (OutSim.cons (OSim.rowsV rfl) OutSim.nil))), (by omega), (by omega), fwA, s1, (by omega), (by omega), fwB, s2, trivial⟩ rfl ⟨ObLe.refl _, trivial⟩ ⟨rfl, trivial, trivial⟩ rfl
end Go.Proofs.Ytbgbjgedjmhcaaa
namespace Go.Proofs.Ytbgbjgedjmhcaaa
open Go.RowKit
open OldD (Dk chk3 chk4 rdV wrE wrK flK)
theorem behind_none (m : Nat) (k : Dk) (N R : Nat) {cc : Nat} (g : Gk k 1 (fun _ => N) cc) (hdn : k.down = false) (hN : 4 ≤ N ∧ N ≤ 1000) (h0 : nw k 0 0 = 0) : CallOK Try.prog 91 [ara N R] [(0, .box (dbox m k))] (.tup [I 0, I 0, I 0]) [(0, some (.box (dbox m k)))] := by
  have rd := sr_any m k N 0 g hdn hN.2 (by omega)
  rw [h0] at rd
  clear g hdn
  refine CallOK.intro Try.call91 Try.func91 rfl rfl ⟨rfl, trivial, trivial⟩ ?_
  refine Safe.ends mixed Try.func91 10 [⟨1100, []⟩, ⟨1200, [(2, .inv 168 (.agg [.ptr 0 0 0 0, I 0, I 0, I ↑N]) [0] (.tup [U (0 : Int), I 0]) [(0, some (.box (dbox m k)))])]⟩, ⟨1300, []⟩, ⟨1400, []⟩] (r := .tup [I 0, I 0, I 0]) (hp := [(0, .box (dbox m k))]) (ob := [MethOK Try.prog "Read" (.ifc 170 (.agg [.ptr 0 0 0 0, I 0, I 0, I ↑N])) 168 (.agg [.ptr 0 0 0 0, I 0, I 0, I ↑N]), CallOK Try.prog 168 [.agg [.ptr 0 0 0 0, I 0, I 0, I ↑N], ofV (Value.int IntKind.i64 (0 : Int))] [(0, .box (dbox m k))] (.tup [U (0 : Int), I 0]) [(0, some (.box (dbox m k)))]]) rfl (by kernel_rfl) ⟨(MethOK.of (by kernel_rfl)), rd, trivial⟩ rfl ⟨ObLe.refl _, trivial⟩ ⟨rfl, trivial, trivial⟩ rfl
theorem behind_no (m : Nat) (k : Dk) (N R : Nat) {cc : Nat} (g : Gk k 1 (fun _ => N) cc) (hdn : k.down = false) (hN : 4 ≤ N ∧ N ≤ 1000) (hR : R + 2 = N) (hv : Vr (nw k 0) R (nw k 0 0)) (h0 : ¬ nw k 0 0 = 0) (h : ∀ t, ¬ Wh (nw k 0) R (nw k 0 0) t) : CallOK Try.prog 91 [ara N R] [(0, .box (dbox m k))] (.tup [I 0, I 0, I 11]) [(0, some (.box (dbox m k)))] := by
  have rd := sr_any m k N 0 g hdn hN.2 (by omega)
  have tx := text_no m k N R (nw k 0 0) g hdn hN hR hv h
  have fw := fromWord_any (nw k 0 0) hv.1
  clear g hdn hv h
  refine CallOK.intro Try.call91 Try.func91 rfl rfl ⟨rfl, trivial, trivial⟩ ?_
  refine Safe.ends mixed Try.func91 24 [⟨1100, []⟩, ⟨1200, [(2, .inv 168 (.agg [.ptr 0 0 0 0, I 0, I 0, I ↑N]) [0] (.tup [U (nw k 0 0), I 0]) [(0, some (.box (dbox m k)))])]⟩, ⟨1300, [(4, .tt false)]⟩, ⟨1400, [(1, .call [] (.agg [U (f0 (nw k 0 0)), U (f1 (nw k 0 0)), U (f2 (nw k 0 0)), U (f3 (nw k 0 0))]) [])]⟩, ⟨1500, [(2, .call [0] (.tup [S (ByteArray.mk #[]), B false, I 0]) [])]⟩, ⟨1600, []⟩, ⟨1700, []⟩, ⟨1800, []⟩, ⟨1900, []⟩] (r := .tup [I 0, I 0, I 11]) (hp := [(0, .box (dbox m k))]) (ob := [MethOK Try.prog "Read" (.ifc 170 (.agg [.ptr 0 0 0 0, I 0, I 0, I ↑N])) 168 (.agg [.ptr 0 0 0 0, I 0, I 0, I ↑N]), CallOK Try.prog 168 [.agg [.ptr 0 0 0 0, I 0, I 0, I ↑N], ofV (Value.int IntKind.i64 (0 : Int))] [(0, .box (dbox m k))] (.tup [U (nw k 0 0), I 0]) [(0, some (.box (dbox m k)))], decide (nw k 0 0 = (0 : Int)) = false, CallOK Try.prog 87 ([] ++ [U (nw k 0 0)] ++ []) [] (.agg [U (f0 (nw k 0 0)), U (f1 (nw k 0 0)), U (f2 (nw k 0 0)), U (f3 (nw k 0 0))]) [], CallOK Try.prog 88 ([] ++ [.agg [.ifc 170 (.agg [.ptr 0 0 0 0, I 0, I 0, I ↑N]), I ↑R], .agg [U (f0 (nw k 0 0)), U (f1 (nw k 0 0)), U (f2 (nw k 0 0)), U (f3 (nw k 0 0))]] ++ []) [(0, .box (dbox m k))] (.tup [AV.val (Value.string (ByteArray.mk #[])), B false, I 0]) []]) rfl (by kernel_rfl) ⟨(MethOK.of (by kernel_rfl)), rd, (decide_eq_false h0), fw, tx, trivial⟩ rfl ⟨ObLe.refl _, trivial⟩ ⟨rfl, trivial, trivial⟩ rfl
theorem behind_ok (m : Nat) (k : Dk) (N R : Nat) {cc : Nat} (g : Gk k 1 (fun _ => N) cc) (hdn : k.down = false) (hN : 4 ≤ N ∧ N ≤ 1000) (hR : R + 2 = N) (hv : Vr (nw k 0) R (nw k 0 0)) (h0 : ¬ nw k 0 0 = 0) (t : ByteArray) (h : Wh (nw k 0) R (nw k 0 0) t) : CallOK Try.prog 91 [ara N R] [(0, .box (dbox m k))] (.tup [I ((f1 (nw k 0 0) + f2 (nw k 0 0)) % (R : Int)), I (f2 (nw k 0 0)), I 0]) [(0, some (.box (dbox m k)))] := by
  have rd := sr_any m k N 0 g hdn hN.2 (by omega)
  have tx := text_wh m k N R (nw k 0 0) g hdn hN hR hv t h
  have fw := fromWord_any (nw k 0 0) hv.1
  have ss := start_w (nw k 0 0)
  have sl := dlen_w (nw k 0 0)
  have bd := f_bd (nw k 0 0)
  clear g hdn hv h
  refine CallOK.intro Try.call91 Try.func91 rfl rfl ⟨rfl, trivial, trivial⟩ ?_
  refine Safe.ends mixed Try.func91 25 [⟨1100, []⟩, ⟨1200, [(2, .inv 168 (.agg [.ptr 0 0 0 0, I 0, I 0, I ↑N]) [0] (.tup [U (nw k 0 0), I 0]) [(0, some (.box (dbox m k)))])]⟩, ⟨1300, [(4, .tt false)]⟩, ⟨1400, [(1, .call [] (.agg [U (f0 (nw k 0 0)), U (f1 (nw k 0 0)), U (f2 (nw k 0 0)), U (f3 (nw k 0 0))]) [])]⟩, ⟨1500, [(2, .call [0] (.tup [S t, B true, I 0]) [])]⟩, ⟨1600, []⟩, ⟨1700, []⟩, ⟨1800, [(1, .call [] (I (f1 (nw k 0 0))) []), (3, .call [] (I (f2 (nw k 0 0))) []), (9, .call [] (I (f2 (nw k 0 0))) [])]⟩] (r := .tup [I ((f1 (nw k 0 0) + f2 (nw k 0 0)) % (↑R : Int)), I (f2 (nw k 0 0)), I 0]) (hp := [(0, .box (dbox m k))]) (ob := [MethOK Try.prog "Read" (.ifc 170 (.agg [.ptr 0 0 0 0, I 0, I 0, I ↑N])) 168 (.agg [.ptr 0 0 0 0, I 0, I 0, I ↑N]), CallOK Try.prog 168 [.agg [.ptr 0 0 0 0, I 0, I 0, I ↑N], ofV (Value.int IntKind.i64 (0 : Int))] [(0, .box (dbox m k))] (.tup [U (nw k 0 0), I 0]) [(0, some (.box (dbox m k)))], decide (nw k 0 0 = (0 : Int)) = false, CallOK Try.prog 87 ([] ++ [U (nw k 0 0)] ++ []) [] (.agg [U (f0 (nw k 0 0)), U (f1 (nw k 0 0)), U (f2 (nw k 0 0)), U (f3 (nw k 0 0))]) [], CallOK Try.prog 88 ([] ++ [.agg [.ifc 170 (.agg [.ptr 0 0 0 0, I 0, I 0, I ↑N]), I ↑R], .agg [U (f0 (nw k 0 0)), U (f1 (nw k 0 0)), U (f2 (nw k 0 0)), U (f3 (nw k 0 0))]] ++ []) [(0, .box (dbox m k))] (.tup [AV.val (Value.string t), B true, I 0]) [], CallOK Try.prog 116 ([] ++ [.agg [U (f0 (nw k 0 0)), U (f1 (nw k 0 0)), U (f2 (nw k 0 0)), U (f3 (nw k 0 0))]] ++ []) [] (I (f1 (nw k 0 0))) [], CallOK Try.prog 115 ([] ++ [.agg [U (f0 (nw k 0 0)), U (f1 (nw k 0 0)), U (f2 (nw k 0 0)), U (f3 (nw k 0 0))]] ++ []) [] (I (f2 (nw k 0 0))) [], inK IntKind.i64 (f1 (nw k 0 0) + f2 (nw k 0 0)), (0 : Int) ≤ f1 (nw k 0 0) + f2 (nw k 0 0) ∧ (0 : Int) < (↑R : Int), CallOK Try.prog 115 ([] ++ [.agg [U (f0 (nw k 0 0)), U (f1 (nw k 0 0)), U (f2 (nw k 0 0)), U (f3 (nw k 0 0))]] ++ []) [] (I (f2 (nw k 0 0))) []]) rfl (by kernel_rfl) ⟨(MethOK.of (by kernel_rfl)), rd, (decide_eq_false h0), fw, tx, ss, sl, (by simp only [inK]; omega), (by omega), sl, trivial⟩ rfl ⟨ObLe.refl _, trivial⟩ ⟨rfl, trivial, trivial⟩ rfl
theorem rclear_ok (m : Nat) (k : Dk) (N : Nat) {c : Nat} (hb : Bc k c) (hc : c ≤ 70000) (hN : 4 ≤ N ∧ N ≤ 1000) : CallOK Try.prog 49 [spn N] [(0, .box (dbox m k))] (I (seqE k [some (0, 0), none])) [(0, some (.box (dbox m (seqK k [some (0, 0), none]))))] := by
  have op := open_ok m k N hN
  have pt := put_any m k N 0 0 ((N : Int) - 2) hb (by omega) (by omega) hN.2
  clear hb
  refine CallOK.intro Try.call49 Try.func49 rfl rfl ⟨rfl, trivial, trivial⟩ ?_
  refine Safe.ends mixed Try.func49 11 [⟨1100, []⟩, ⟨1200, [(1, .call [0] (.tup [.agg [.ifc 170 (.agg [.ptr 0 0 0 0, I 0, I 0, I ↑N]), I ((↑N : Int) - (2 : Int))], I 0]) [])]⟩, ⟨1300, []⟩, ⟨1400, [(1, .call [0] (I (seqE k [some ((0 : Int), (0 : Int)), none])) [(0, some (.box (dbox m (seqK k [some ((0 : Int), (0 : Int)), none]))))])]⟩] (r := I (seqE k [some ((0 : Int), (0 : Int)), none])) (hp := [(0, .box (dbox m (seqK k [some ((0 : Int), (0 : Int)), none])))]) (ob := [CallOK Try.prog 85 ([] ++ [.ifc 170 (.agg [.ptr 0 0 0 0, I 0, I 0, I ↑N])] ++ []) [(0, .box (dbox m k))] (.tup [.agg [.ifc 170 (.agg [.ptr 0 0 0 0, I 0, I 0, I ↑N]), I ((↑N : Int) - (2 : Int))], I 0]) [], CallOK Try.prog 86 ([] ++ [.agg [.ifc 170 (.agg [.ptr 0 0 0 0, I 0, I 0, I ↑N]), I ((↑N : Int) - (2 : Int))], ofV (Value.int IntKind.i64 (0 : Int)), ofV (Value.int IntKind.u64 (0 : Int))] ++ []) [(0, .box (dbox m k))] (I (seqE k [some ((0 : Int), (0 : Int)), none])) [(0, some (.box (dbox m (seqK k [some ((0 : Int), (0 : Int)), none]))))]]) rfl (by kernel_rfl) ⟨op, pt, trivial⟩ rfl ⟨ObLe.refl _, trivial⟩ ⟨rfl, trivial, trivial⟩ rfl
theorem format_ok (m : Nat) (k : Dk) (N : Nat) {c : Nat} (hb : Bc k c) (hc : c ≤ 70000) (hN : 4 ≤ N ∧ N ≤ 1000) : CallOK Try.prog 51 [spn N] [(0, .box (dbox m k))] (I (seqE k [some (1, 0), some (0, 0), none])) [(0, some (.box (dbox m (seqK k [some (1, 0), some (0, 0), none]))))] := by
  have op := open_ok m k N hN
  have wr := sw_any m k N 1 0 hb (by omega) (by omega) hN.2
  have hb2 := hb.act (some (1, 0))
  by_cases he : wrE k 0 1 = 0
  · have pt := put_any m (wrK k 0 1 0) N 0 0 ((N : Int) - 2) (c := c + 1) hb2 (by omega) (by omega) hN.2
    have e1 : seqE k [some (1, 0), some (0, 0), none] = seqE (wrK k 0 1 0) [some (0, 0), none] := by
      rw [seqE_cons]; exact if_pos he
    have e2 : seqK k [some (1, 0), some (0, 0), none] = seqK (wrK k 0 1 0) [some (0, 0), none] := by
      rw [seqK_cons]; exact if_pos he
    rw [e1, e2]
    rw [he] at wr
    clear hb hb2 e1 e2
    refine CallOK.intro Try.call51 Try.func51 rfl rfl ⟨rfl, trivial, trivial⟩ ?_
    refine Safe.ends mixed Try.func51 18 [⟨1100, []⟩, ⟨1200, [(1, .call [0] (.tup [.agg [.ifc 170 (.agg [.ptr 0 0 0 0, I 0, I 0, I ↑N]), I ((↑N : Int) - (2 : Int))], I 0]) [])]⟩, ⟨1300, []⟩, ⟨1400, [(1, .inv 170 (.agg [.ptr 0 0 0 0, I 0, I 0, I ↑N]) [0] (I 0) [(0, some (.box (dbox m (wrK k (0 : Int) (1 : Int) (0 : Int)))))])]⟩, ⟨1500, []⟩, ⟨1600, [(1, .call [0] (I (seqE (wrK k (0 : Int) (1 : Int) (0 : Int)) [some ((0 : Int), (0 : Int)), none])) [(0, some (.box (dbox m (seqK (wrK k (0 : Int) (1 : Int) (0 : Int)) [some ((0 : Int), (0 : Int)), none]))))])]⟩] (r := I (seqE (wrK k (0 : Int) (1 : Int) (0 : Int)) [some ((0 : Int), (0 : Int)), none])) (hp := [(0, .box (dbox m (seqK (wrK k (0 : Int) (1 : Int) (0 : Int)) [some ((0 : Int), (0 : Int)), none])))]) (ob := [CallOK Try.prog 85 ([] ++ [.ifc 170 (.agg [.ptr 0 0 0 0, I 0, I 0, I ↑N])] ++ []) [(0, .box (dbox m k))] (.tup [.agg [.ifc 170 (.agg [.ptr 0 0 0 0, I 0, I 0, I ↑N]), I ((↑N : Int) - (2 : Int))], I 0]) [], MethOK Try.prog "Write" (.ifc 170 (.agg [.ptr 0 0 0 0, I 0, I 0, I ↑N])) 170 (.agg [.ptr 0 0 0 0, I 0, I 0, I ↑N]), CallOK Try.prog 170 [.agg [.ptr 0 0 0 0, I 0, I 0, I ↑N], ofV (Value.int IntKind.i64 (1 : Int)), ofV (Value.int IntKind.u64 (0 : Int))] [(0, .box (dbox m k))] (I 0) [(0, some (.box (dbox m (wrK k (0 : Int) (1 : Int) (0 : Int)))))], CallOK Try.prog 86 ([] ++ [.agg [.ifc 170 (.agg [.ptr 0 0 0 0, I 0, I 0, I ↑N]), I ((↑N : Int) - (2 : Int))], ofV (Value.int IntKind.i64 (0 : Int)), ofV (Value.int IntKind.u64 (0 : Int))] ++ []) [(0, .box (dbox m (wrK k (0 : Int) (1 : Int) (0 : Int))))] (I (seqE (wrK k (0 : Int) (1 : Int) (0 : Int)) [some ((0 : Int), (0 : Int)), none])) [(0, some (.box (dbox m (seqK (wrK k (0 : Int) (1 : Int) (0 : Int)) [some ((0 : Int), (0 : Int)), none]))))]]) rfl (by kernel_rfl) ⟨op, (MethOK.of (by kernel_rfl)), wr, pt, trivial⟩ rfl ⟨ObLe.refl _, trivial⟩ ⟨rfl, trivial, trivial⟩ rfl
  · have e1 : seqE k [some (1, 0), some (0, 0), none] = wrE k 0 1 := by
      rw [seqE_cons]; exact if_neg he
    have e2 : seqK k [some (1, 0), some (0, 0), none] = wrK k 0 1 0 := by
      rw [seqK_cons]; exact if_neg he
    rw [e1, e2]
    clear hb hb2 e1 e2
    refine CallOK.intro Try.call51 Try.func51 rfl rfl ⟨rfl, trivial, trivial⟩ ?_
    refine Safe.ends mixed Try.func51 17 [⟨1100, []⟩, ⟨1200, [(1, .call [0] (.tup [.agg [.ifc 170 (.agg [.ptr 0 0 0 0, I 0, I 0, I ↑N]), I ((↑N : Int) - (2 : Int))], I 0]) [])]⟩, ⟨1300, []⟩, ⟨1400, [(1, .inv 170 (.agg [.ptr 0 0 0 0, I 0, I 0, I ↑N]) [0] (I (wrE k (0 : Int) (1 : Int))) [(0, some (.box (dbox m (wrK k (0 : Int) (1 : Int) (0 : Int)))))])]⟩, ⟨1500, [(1, .tt true)]⟩, ⟨1600, []⟩] (r := I (wrE k (0 : Int) (1 : Int))) (hp := [(0, .box (dbox m (wrK k (0 : Int) (1 : Int) (0 : Int))))]) (ob := [CallOK Try.prog 85 ([] ++ [.ifc 170 (.agg [.ptr 0 0 0 0, I 0, I 0, I ↑N])] ++ []) [(0, .box (dbox m k))] (.tup [.agg [.ifc 170 (.agg [.ptr 0 0 0 0, I 0, I 0, I ↑N]), I ((↑N : Int) - (2 : Int))], I 0]) [], MethOK Try.prog "Write" (.ifc 170 (.agg [.ptr 0 0 0 0, I 0, I 0, I ↑N])) 170 (.agg [.ptr 0 0 0 0, I 0, I 0, I ↑N]), CallOK Try.prog 170 [.agg [.ptr 0 0 0 0, I 0, I 0, I ↑N], ofV (Value.int IntKind.i64 (1 : Int)), ofV (Value.int IntKind.u64 (0 : Int))] [(0, .box (dbox m k))] (I (wrE k (0 : Int) (1 : Int))) [(0, some (.box (dbox m (wrK k (0 : Int) (1 : Int) (0 : Int)))))], (decide ¬wrE k (0 : Int) (1 : Int) = (0 : Int)) = true]) rfl (by kernel_rfl) ⟨op, (MethOK.of (by kernel_rfl)), wr, (decide_eq_true he), trivial⟩ rfl ⟨ObLe.refl _, trivial⟩ ⟨rfl, trivial, trivial⟩ rfl
theorem switch_ok (m : Nat) (k : Dk) (N R : Nat) {cc : Nat} (g : Gk k 1 (fun _ => N) cc) (hcc : cc ≤ 80000) (hdn : k.down = false) (hN : 4 ≤ N ∧ N ≤ 1000) (hR : R + 2 = N) (hv : Vr (nw k 0) R (nw k 0 1)) (h0 : ¬ nw k 0 1 = 0) (t : ByteArray) (h : Wh (nw k 0) R (nw k 0 1) t) : CallOK Try.prog 54 [spn N] [(0, .box (dbox m k))] (I (seqE k [some (0, nw k 0 1), none])) [(0, some (.box (dbox m (seqK k [some (0, nw k 0 1), none]))))] := by
  have op := open_ok m k N hN
  rw [show (N : Int) - 2 = (R : Int) by omega] at op
  have rd := sr_any m k N 1 g hdn hN.2 (by omega)
  have tx := text_wh m k N R (nw k 0 1) g hdn hN hR hv t h
  have fw := fromWord_any (nw k 0 1) hv.1
  have pt := put_any m k N 0 (nw k 0 1) R (c := cc) ⟨g.fz, g.fl, g.wr.1, g.wr.2⟩ hcc (by omega) hN.2
  clear g hdn hv h
  refine CallOK.intro Try.call54 Try.func54 rfl rfl ⟨rfl, trivial, trivial⟩ ?_
  refine Safe.ends mixed Try.func54 35 [⟨1100, []⟩, ⟨1200, [(1, .call [0] (.tup [.agg [.ifc 170 (.agg [.ptr 0 0 0 0, I 0, I 0, I ↑N]), I ↑R], I 0]) [])]⟩, ⟨1300, []⟩, ⟨1400, [(1, .inv 168 (.agg [.ptr 0 0 0 0, I 0, I 0, I ↑N]) [0] (.tup [U (nw k 0 1), I 0]) [(0, some (.box (dbox m k)))])]⟩, ⟨1500, []⟩, ⟨1600, [(1, .tt false)]⟩, ⟨1700, [(2, .call [] (.agg [U (f0 (nw k 0 1)), U (f1 (nw k 0 1)), U (f2 (nw k 0 1)), U (f3 (nw k 0 1))]) []), (3, .call [0] (.tup [S t, B true, I 0]) [])]⟩, ⟨1800, []⟩, ⟨1900, []⟩, ⟨2000, [(2, .call [0] (I (seqE k [some ((0 : Int), nw k 0 1), none])) [(0, some (.box (dbox m (seqK k [some ((0 : Int), nw k 0 1), none]))))])]⟩] (r := I (seqE k [some ((0 : Int), nw k 0 1), none])) (hp := [(0, .box (dbox m (seqK k [some ((0 : Int), nw k 0 1), none])))]) (ob := [CallOK Try.prog 85 ([] ++ [.ifc 170 (.agg [.ptr 0 0 0 0, I 0, I 0, I ↑N])] ++ []) [(0, .box (dbox m k))] (.tup [.agg [.ifc 170 (.agg [.ptr 0 0 0 0, I 0, I 0, I ↑N]), I ↑R], I 0]) [], MethOK Try.prog "Read" (.ifc 170 (.agg [.ptr 0 0 0 0, I 0, I 0, I ↑N])) 168 (.agg [.ptr 0 0 0 0, I 0, I 0, I ↑N]), CallOK Try.prog 168 [.agg [.ptr 0 0 0 0, I 0, I 0, I ↑N], ofV (Value.int IntKind.i64 (1 : Int))] [(0, .box (dbox m k))] (.tup [U (nw k 0 1), I 0]) [(0, some (.box (dbox m k)))], decide (nw k 0 1 = (0 : Int)) = false, CallOK Try.prog 87 ([] ++ [U (nw k 0 1)] ++ []) [] (.agg [U (f0 (nw k 0 1)), U (f1 (nw k 0 1)), U (f2 (nw k 0 1)), U (f3 (nw k 0 1))]) [], CallOK Try.prog 88 ([] ++ [.agg [.ifc 170 (.agg [.ptr 0 0 0 0, I 0, I 0, I ↑N]), I ↑R], .agg [U (f0 (nw k 0 1)), U (f1 (nw k 0 1)), U (f2 (nw k 0 1)), U (f3 (nw k 0 1))]] ++ []) [(0, .box (dbox m k))] (.tup [AV.val (Value.string t), B true, I 0]) [], CallOK Try.prog 86 ([] ++ [.agg [.ifc 170 (.agg [.ptr 0 0 0 0, I 0, I 0, I ↑N]), I ↑R], ofV (Value.int IntKind.i64 (0 : Int)), U (nw k 0 1)] ++ []) [(0, .box (dbox m k))] (I (seqE k [some ((0 : Int), nw k 0 1), none])) [(0, some (.box (dbox m (seqK k [some ((0 : Int), nw k 0 1), none]))))]]) rfl (by kernel_rfl) ⟨op, (MethOK.of (by kernel_rfl)), rd, (decide_eq_false h0), fw, tx, pt, trivial⟩ rfl ⟨ObLe.refl _, trivial⟩ ⟨rfl, trivial, trivial⟩ rfl
end Go.Proofs.Ytbgbjgedjmhcaaa
namespace Go.Proofs.Ytbgbjgedjmhcaaa
open Go.RowKit
open OldD (Dk chk3 chk4 rdV wrE wrK flK)
theorem prp_ok (m : Nat) (k : Dk) (N R st i : Nat) (sq : Int) (L : List Int) {c : Nat} (hb : Bc k c) (hc : c ≤ 80000) (hN : 4 ≤ N ∧ N ≤ 1000) (hR : R + 2 = N) (hi : i < L.length) (hl : L.length ≤ 1000) (he : wrE k 0 (plc R st i : Int) = 0) :
    YldOK Try.prog 99 [I i, I (plc R st i)] [(0, .box (dbox m k)), (20, .blk 43 [spn N]), (21, .blk 29 [I 0]), (22, .blk 148 [spn N, I R]), (23, .blk 25 [.sl 30 0 1 L.length none]), (30, .vec 22 1 L.length (rowG encU L)), (99, lpO 53 Try.f53 0 .ready none (slotsOf 96 [(1, I sq), (3, .ptr 20 0 0 0), (6, .ptr 21 0 0 0), (7, .ptr 22 0 0 0), (9, .ptr 23 0 0 0), (10, I st)]))]
      (B true) [(0, some (.box (dbox m (wrK k 0 (plc R st i : Int) (L.getD i default))))), (99, some (lpO 53 Try.f53 0 .ready none (slotsOf 96 [(1, I sq), (3, .ptr 20 0 0 0), (6, .ptr 21 0 0 0), (7, .ptr 22 0 0 0), (9, .ptr 23 0 0 0), (10, I st)])))] := by
  have hp := plc_bd R st i (by omega)
  have wr := sw_any m k N (plc R st i : Int) (L.getD i default) hb (by omega) ⟨by omega, by omega⟩ hN.2
  rw [he] at wr
  clear hb he
  refine YldOK.intro (L := 99) rfl rfl rfl ⟨rfl, trivial, rfl, rfl, rfl, rfl, rfl, rfl, rfl, rfl, rfl, fun _ => rfl, rfl, rfl, trivial⟩ ?_
  refine Safe.gotoS mixed 3 [⟨1100, []⟩, ⟨1200, []⟩] [1, 3, 6, 7, 9, 10, 12, 13, 60, 61] [0, 20, 21, 22, 23, 30, 99] (sl := slotsOf 96 [(1, I sq), (3, .ptr 20 0 0 0), (6, .ptr 21 0 0 0), (7, .ptr 22 0 0 0), (9, .ptr 23 0 0 0), (10, I ↑st), (12, I ↑i), (13, I ((↑(plc R st i) : Int))), (60, I ↑i), (61, I ((↑(plc R st i) : Int)))]) (hp := [(0, .box (dbox m k)), (20, .blk 43 [.ifc 170 (.agg [.ptr 0 0 0 0, I 0, I 0, I ↑N])]), (21, .blk 29 [I 0]), (22, .blk 148 [.ifc 170 (.agg [.ptr 0 0 0 0, I 0, I 0, I ↑N]), I ↑R]), (23, .blk 25 [.sl 30 0 1 L.length none]), (30, .vec 22 1 L.length (rowG encU L)), (99, .lp 53 (rfPs Try.f53 0) (rfAs Try.f53 0) (rfBd Try.f53 0) LoopState.ready none ((slotsOf 96 [(1, I sq), (3, .ptr 20 0 0 0), (6, .ptr 21 0 0 0), (7, .ptr 22 0 0 0), (9, .ptr 23 0 0 0), (10, I ↑st)])))]) (ob := []) rfl rfl (by kernel_rfl) trivial rfl ⟨rfl, trivial, rfl, rfl, rfl, rfl, rfl, rfl, rfl, rfl, rfl, fun _ => rfl, rfl, rfl, trivial⟩ ?_
  refine Safe.here (.beginRound :: [.code (rfBd Try.f53 0)]) (by kernel_rfl) ?_
  refine Safe.beginR (L := 99) rfl rfl rfl ?_
  refine Safe.gotoS mixed 8 [⟨1100, [(9, .inv 170 (.agg [.ptr 0 0 0 0, I 0, I 0, I ↑N]) [0] (I 0) [(0, some (.box (dbox m (wrK k (0 : Int) (↑(plc R st i) : Int) (L.getD i default)))))])]⟩, ⟨1200, []⟩] [1, 3, 6, 7, 9, 10, 12, 13, 14, 60, 61, 62, 63, 64, 65, 66, 67, 68, 69, 70, 71, 72, 73] [0, 20, 21, 22, 23, 30, 99] (sl := slotsOf 96 [(1, I sq), (3, .ptr 20 0 0 0), (6, .ptr 21 0 0 0), (7, .ptr 22 0 0 0), (9, .ptr 23 0 0 0), (10, I ↑st), (12, I ↑i), (13, I ((↑(plc R st i) : Int))), (14, I 0), (60, I ↑i), (61, I ((↑(plc R st i) : Int))), (62, .ifc 170 (.agg [.ptr 0 0 0 0, I 0, I 0, I ↑N])), (63, I ((↑(plc R st i) : Int))), (64, .sl 30 0 1 L.length none), (65, I ↑i), (66, .ptr 30 i 1 0), (67, U (L.getD i default)), (68, .fn (Fn.method "Write") [.ifc 170 (.agg [.ptr 0 0 0 0, I 0, I 0, I ↑N])] []), (69, .fn (Fn.method "Write") [.ifc 170 (.agg [.ptr 0 0 0 0, I 0, I 0, I ↑N])] []), (70, .ifc 170 (.agg [.ptr 0 0 0 0, I 0, I 0, I ↑N])), (71, I 0), (72, I 0), (73, B false)]) (hp := [(0, .box (dbox m (wrK k (0 : Int) (↑(plc R st i) : Int) (L.getD i default)))), (20, .blk 43 [.ifc 170 (.agg [.ptr 0 0 0 0, I 0, I 0, I ↑N])]), (21, .blk 29 [I 0]), (22, .blk 148 [.ifc 170 (.agg [.ptr 0 0 0 0, I 0, I 0, I ↑N]), I ↑R]), (23, .blk 25 [.sl 30 0 1 L.length none]), (30, .vec 22 1 L.length (rowG encU L)), (99, .lp 53 (rfPs Try.f53 0) (rfAs Try.f53 0) (rfBd Try.f53 0) LoopState.busy none ((slotsOf 96 [(1, I sq), (3, .ptr 20 0 0 0), (6, .ptr 21 0 0 0), (7, .ptr 22 0 0 0), (9, .ptr 23 0 0 0), (10, I ↑st)])))]) (ob := [(0 : Int) ≤ (↑i : Int) ∧ (↑i : Int) < (↑L.length : Int), i < L.length, MethOK Try.prog "Write" (.ifc 170 (.agg [.ptr 0 0 0 0, I 0, I 0, I ↑N])) 170 (.agg [.ptr 0 0 0 0, I 0, I 0, I ↑N]), CallOK Try.prog 170 [.agg [.ptr 0 0 0 0, I 0, I 0, I ↑N], I (↑(plc R st i) : Int), U (L.getD i default)] [(0, .box (dbox m k))] (I 0) [(0, some (.box (dbox m (wrK k (0 : Int) (↑(plc R st i) : Int) (L.getD i default)))))]]) rfl rfl (by kernel_rfl) ⟨(by omega), (by omega), (MethOK.of (by kernel_rfl)), wr, trivial⟩ rfl ⟨rfl, trivial, rfl, rfl, rfl, rfl, rfl, rfl, rfl, rfl, rfl, fun _ => rfl, rfl, rfl, trivial⟩ ?_
  refine Safe.endR (L := 99) none (by kernel_rfl) rfl rfl rfl rfl ⟨?_, ?_, ?_, ?_, ?_, ?_, ?_, trivial⟩ ⟨rfl, trivial, rfl, rfl, rfl, rfl, rfl, rfl, rfl, rfl, rfl, fun _ => rfl, rfl, rfl, trivial⟩
  all_goals exact ObLe.refl _
theorem prp_no (m : Nat) (k : Dk) (N R st i : Nat) (sq : Int) (L : List Int) {c : Nat} (hb : Bc k c) (hc : c ≤ 80000) (hN : 4 ≤ N ∧ N ≤ 1000) (hR : R + 2 = N) (hi : i < L.length) (hl : L.length ≤ 1000) (he : ¬ wrE k 0 (plc R st i : Int) = 0) :
    YldOK Try.prog 99 [I i, I (plc R st i)] [(0, .box (dbox m k)), (20, .blk 43 [spn N]), (21, .blk 29 [I 0]), (22, .blk 148 [spn N, I R]), (23, .blk 25 [.sl 30 0 1 L.length none]), (30, .vec 22 1 L.length (rowG encU L)), (99, lpO 53 Try.f53 0 .ready none (slotsOf 96 [(1, I sq), (3, .ptr 20 0 0 0), (6, .ptr 21 0 0 0), (7, .ptr 22 0 0 0), (9, .ptr 23 0 0 0), (10, I st)]))]
      (B false) [(0, some (.box (dbox m (wrK k 0 (plc R st i : Int) (L.getD i default))))), (21, some (.blk 29 [I (wrE k 0 (plc R st i : Int))])), (99, some (lpO 53 Try.f53 0 .done (some .ret) (slotsOf 96 [(1, I sq), (3, .ptr 20 0 0 0), (6, .ptr 21 0 0 0), (7, .ptr 22 0 0 0), (9, .ptr 23 0 0 0), (10, I st)])))] := by
  have hp := plc_bd R st i (by omega)
  have wr := sw_any m k N (plc R st i : Int) (L.getD i default) hb (by omega) ⟨by omega, by omega⟩ hN.2
  clear hb
  refine YldOK.intro (L := 99) rfl rfl rfl ⟨rfl, trivial, rfl, rfl, rfl, rfl, rfl, rfl, rfl, rfl, rfl, fun _ => rfl, rfl, rfl, trivial⟩ ?_
  refine Safe.gotoS mixed 3 [⟨1100, []⟩, ⟨1200, []⟩] [1, 3, 6, 7, 9, 10, 12, 13, 60, 61] [0, 20, 21, 22, 23, 30, 99] (sl := slotsOf 96 [(1, I sq), (3, .ptr 20 0 0 0), (6, .ptr 21 0 0 0), (7, .ptr 22 0 0 0), (9, .ptr 23 0 0 0), (10, I ↑st), (12, I ↑i), (13, I ((↑(plc R st i) : Int))), (60, I ↑i), (61, I ((↑(plc R st i) : Int)))]) (hp := [(0, .box (dbox m k)), (20, .blk 43 [.ifc 170 (.agg [.ptr 0 0 0 0, I 0, I 0, I ↑N])]), (21, .blk 29 [I 0]), (22, .blk 148 [.ifc 170 (.agg [.ptr 0 0 0 0, I 0, I 0, I ↑N]), I ↑R]), (23, .blk 25 [.sl 30 0 1 L.length none]), (30, .vec 22 1 L.length (rowG encU L)), (99, .lp 53 (rfPs Try.f53 0) (rfAs Try.f53 0) (rfBd Try.f53 0) LoopState.ready none ((slotsOf 96 [(1, I sq), (3, .ptr 20 0 0 0), (6, .ptr 21 0 0 0), (7, .ptr 22 0 0 0), (9, .ptr 23 0 0 0), (10, I ↑st)])))]) (ob := []) rfl rfl (by kernel_rfl) trivial rfl ⟨rfl, trivial, rfl, rfl, rfl, rfl, rfl, rfl, rfl, rfl, rfl, fun _ => rfl, rfl, rfl, trivial⟩ ?_
  refine Safe.here (.beginRound :: [.code (rfBd Try.f53 0)]) (by kernel_rfl) ?_
  refine Safe.beginR (L := 99) rfl rfl rfl ?_
  refine Safe.gotoS mixed 8 [⟨1100, [(9, .inv 170 (.agg [.ptr 0 0 0 0, I 0, I 0, I ↑N]) [0] (I (wrE k (0 : Int) (↑(plc R st i) : Int))) [(0, some (.box (dbox m (wrK k (0 : Int) (↑(plc R st i) : Int) (L.getD i default)))))])]⟩, ⟨1200, [(1, .tt true)]⟩, ⟨1300, []⟩] [1, 3, 6, 7, 9, 10, 12, 13, 14, 60, 61, 62, 63, 64, 65, 66, 67, 68, 69, 70, 71, 72, 73, 74] [0, 20, 21, 22, 23, 30, 99] (sl := slotsOf 96 [(1, I sq), (3, .ptr 20 0 0 0), (6, .ptr 21 0 0 0), (7, .ptr 22 0 0 0), (9, .ptr 23 0 0 0), (10, I ↑st), (12, I ↑i), (13, I ((↑(plc R st i) : Int))), (14, I (wrE k (0 : Int) (↑(plc R st i) : Int))), (60, I ↑i), (61, I ((↑(plc R st i) : Int))), (62, .ifc 170 (.agg [.ptr 0 0 0 0, I 0, I 0, I ↑N])), (63, I ((↑(plc R st i) : Int))), (64, .sl 30 0 1 L.length none), (65, I ↑i), (66, .ptr 30 i 1 0), (67, U (L.getD i default)), (68, .fn (Fn.method "Write") [.ifc 170 (.agg [.ptr 0 0 0 0, I 0, I 0, I ↑N])] []), (69, .fn (Fn.method "Write") [.ifc 170 (.agg [.ptr 0 0 0 0, I 0, I 0, I ↑N])] []), (70, .ifc 170 (.agg [.ptr 0 0 0 0, I 0, I 0, I ↑N])), (71, I (wrE k (0 : Int) (↑(plc R st i) : Int))), (72, I (wrE k (0 : Int) (↑(plc R st i) : Int))), (73, B true), (74, I (wrE k (0 : Int) (↑(plc R st i) : Int)))]) (hp := [(0, .box (dbox m (wrK k (0 : Int) (↑(plc R st i) : Int) (L.getD i default)))), (20, .blk 43 [.ifc 170 (.agg [.ptr 0 0 0 0, I 0, I 0, I ↑N])]), (21, .blk 29 [I (wrE k (0 : Int) (↑(plc R st i) : Int))]), (22, .blk 148 [.ifc 170 (.agg [.ptr 0 0 0 0, I 0, I 0, I ↑N]), I ↑R]), (23, .blk 25 [.sl 30 0 1 L.length none]), (30, .vec 22 1 L.length (rowG encU L)), (99, .lp 53 (rfPs Try.f53 0) (rfAs Try.f53 0) (rfBd Try.f53 0) LoopState.busy none ((slotsOf 96 [(1, I sq), (3, .ptr 20 0 0 0), (6, .ptr 21 0 0 0), (7, .ptr 22 0 0 0), (9, .ptr 23 0 0 0), (10, I ↑st)])))]) (ob := [(0 : Int) ≤ (↑i : Int) ∧ (↑i : Int) < (↑L.length : Int), i < L.length, MethOK Try.prog "Write" (.ifc 170 (.agg [.ptr 0 0 0 0, I 0, I 0, I ↑N])) 170 (.agg [.ptr 0 0 0 0, I 0, I 0, I ↑N]), CallOK Try.prog 170 [.agg [.ptr 0 0 0 0, I 0, I 0, I ↑N], I (↑(plc R st i) : Int), U (L.getD i default)] [(0, .box (dbox m k))] (I (wrE k (0 : Int) (↑(plc R st i) : Int))) [(0, some (.box (dbox m (wrK k (0 : Int) (↑(plc R st i) : Int) (L.getD i default)))))], (decide ¬wrE k (0 : Int) (↑(plc R st i) : Int) = (0 : Int)) = true]) rfl rfl (by kernel_rfl) ⟨(by omega), (by omega), (MethOK.of (by kernel_rfl)), wr, (decide_eq_true he), trivial⟩ rfl ⟨rfl, trivial, rfl, rfl, rfl, rfl, rfl, rfl, rfl, rfl, rfl, fun _ => rfl, rfl, rfl, trivial⟩ ?_
  refine Safe.endR (L := 99) (some .ret) (by kernel_rfl) rfl rfl rfl rfl ⟨?_, ?_, ?_, ?_, ?_, ?_, ?_, trivial⟩ ⟨rfl, trivial, rfl, rfl, rfl, rfl, rfl, rfl, rfl, rfl, rfl, fun _ => rfl, rfl, rfl, trivial⟩
  all_goals exact ObLe.refl _
def wsQ (L : List Int) (R st : Nat) : List Act1 := (List.range L.length).map fun i => some ((plc R st i : Int), L.getD i default)
theorem wsQ_len (L : List Int) (R st : Nat) : (wsQ L R st).length = L.length := by simp [wsQ]
theorem wsQ_drop (L : List Int) (R st i : Nat) (hi : i < L.length) : (wsQ L R st).drop i = some ((plc R st i : Int), L.getD i default) :: (wsQ L R st).drop (i + 1) := by
  have h : i < (wsQ L R st).length := by rw [wsQ_len]; exact hi
  rw [List.drop_eq_getElem_cons h]
  simp [wsQ]
theorem prp_iter_ok (m : Nat) (k0 : Dk) (N R st : Nat) (sq : Int) (L : List Int) {c : Nat} (hb0 : Bc k0 c) (hc : c ≤ 70000) (hN : 4 ≤ N ∧ N ≤ 1000) (hR : R + 2 = N) (hl : L.length ≤ 1000) (hst : st ≤ 100000) (hE : seqE k0 (wsQ L R st) = 0) :
    CallOK Try.prog 119 [.yld 99, .ptr 26 0 0 0, .ptr 27 0 0 0, .ptr 28 0 0 0] [(0, .box (dbox m k0)), (20, .blk 43 [spn N]), (21, .blk 29 [I 0]), (22, .blk 148 [spn N, I R]), (23, .blk 25 [.sl 30 0 1 L.length none]), (26, .blk 3 [I L.length]), (27, .blk 3 [I st]), (28, .blk 148 [spn N, I R]), (30, .vec 22 1 L.length (rowG encU L)), (99, lpO 53 Try.f53 0 .ready none (slotsOf 96 [(1, I sq), (3, .ptr 20 0 0 0), (6, .ptr 21 0 0 0), (7, .ptr 22 0 0 0), (9, .ptr 23 0 0 0), (10, I st)]))]
      (.tup []) [(0, some (.box (dbox m (seqK k0 (wsQ L R st))))), (99, some (lpO 53 Try.f53 0 .ready none (slotsOf 96 [(1, I sq), (3, .ptr 20 0 0 0), (6, .ptr 21 0 0 0), (7, .ptr 22 0 0 0), (9, .ptr 23 0 0 0), (10, I st)])))] := by
  refine CallOK.intro Try.call119 Try.func119 rfl rfl ⟨rfl, trivial, rfl, rfl, rfl, rfl, rfl, rfl, rfl, rfl, rfl, rfl, rfl, rfl, rfl, rfl, rfl, fun _ => rfl, rfl, rfl, trivial⟩ ?_
  refine Safe.withLoop (loopAt Try.f119 0) [0, 20, 21, 22, 23, 26, 27, 28, 30, 99] 22 (fun g : Nat × Dk => [(0, .yld 99), (1, .ptr 26 0 0 0), (2, .ptr 27 0 0 0), (3, .ptr 28 0 0 0), (6, I L.length), (7, I g.1)]) (fun g => [(0, .box (dbox m g.2)), (20, .blk 43 [spn N]), (21, .blk 29 [I 0]), (22, .blk 148 [spn N, I R]), (23, .blk 25 [.sl 30 0 1 L.length none]), (26, .blk 3 [I L.length]), (27, .blk 3 [I st]), (28, .blk 148 [spn N, I R]), (30, .vec 22 1 L.length (rowG encU L)), (99, lpO 53 Try.f53 0 .ready none (slotsOf 96 [(1, I sq), (3, .ptr 20 0 0 0), (6, .ptr 21 0 0 0), (7, .ptr 22 0 0 0), (9, .ptr 23 0 0 0), (10, I st)]))]) (fun g => g.1 ≤ L.length ∧ Bc g.2 (c + g.1) ∧ seqE k0 (wsQ L R st) = seqE g.2 ((wsQ L R st).drop g.1) ∧ seqK k0 (wsQ L R st) = seqK g.2 ((wsQ L R st).drop g.1)) (fun g => L.length - g.1) ?_ ?_
  · rintro ⟨i, k⟩ ⟨hi, hb, r1, r2⟩ ih
    dsimp only at hi hb r1 r2 ih ⊢
    by_cases hlt : i < L.length
    · have h1 : (i : Int) < (L.length : Int) := by omega
      have ep : ((2 : Int) + ((st : Int) + (i : Int)) % (R : Int)) = ((plc R st i : Nat) : Int) := plc_int R st i
      have hmod : 0 ≤ ((st : Int) + (i : Int)) % (R : Int) ∧ ((st : Int) + (i : Int)) % (R : Int) < (R : Int) := ⟨Int.emod_nonneg _ (by omega), Int.emod_lt_of_pos _ (by omega)⟩
      rw [wsQ_drop L R st i hlt] at r1 r2
      rw [seqE_cons] at r1
      rw [seqK_cons] at r2
      by_cases he : wrE k 0 (plc R st i : Int) = 0
      · have he' : actE k (some ((plc R st i : Int), L.getD i default)) = 0 := he
        rw [if_pos he'] at r1 r2
        have yr := prp_ok m k N R st i sq L hb (by omega) hN hR hlt hl he
        have ih1 := ih (i + 1, wrK k 0 (plc R st i : Int) (L.getD i default)) ⟨by omega, (hb.act (some ((plc R st i : Int), L.getD i default))).mono (by omega), r1, r2⟩ (by dsimp only; omega)
        clear r1 r2 hb he he'
        refine Safe.goto mixed 16 [⟨1100, [(0, .tt true)]⟩, ⟨1200, []⟩, ⟨1300, [(8, .is (I ((↑(plc R st i) : Int)))), (9, .call [0, 20, 21, 22, 23, 30, 99] (B true) [(0, some (.box (dbox m (wrK k (0 : Int) (↑(plc R st i) : Int) (L.getD i default))))), (99, some (.lp 53 (rfPs Try.f53 0) (rfAs Try.f53 0) (rfBd Try.f53 0) LoopState.ready none ((slotsOf 96 [(1, I sq), (3, .ptr 20 0 0 0), (6, .ptr 21 0 0 0), (7, .ptr 22 0 0 0), (9, .ptr 23 0 0 0), (10, I ↑st)]))))])]⟩, ⟨1400, []⟩] [0, 1, 2, 3, 6, 7] [0, 20, 21, 22, 23, 26, 27, 28, 30, 99] (todo' := loopAt Try.f119 0) (sl := slotsOf 22 [(0, .yld 99), (1, .ptr 26 0 0 0), (2, .ptr 27 0 0 0), (3, .ptr 28 0 0 0), (6, I ↑L.length), (7, I ((↑i : Int) + (1 : Int)))]) (hp := [(0, .box (dbox m (wrK k (0 : Int) (↑(plc R st i) : Int) (L.getD i default)))), (20, .blk 43 [.ifc 170 (.agg [.ptr 0 0 0 0, I 0, I 0, I ↑N])]), (21, .blk 29 [I 0]), (22, .blk 148 [.ifc 170 (.agg [.ptr 0 0 0 0, I 0, I 0, I ↑N]), I ↑R]), (23, .blk 25 [.sl 30 0 1 L.length none]), (26, .blk 3 [I ↑L.length]), (27, .blk 3 [I ↑st]), (28, .blk 148 [.ifc 170 (.agg [.ptr 0 0 0 0, I 0, I 0, I ↑N]), I ↑R]), (30, .vec 22 1 L.length (rowG encU L)), (99, .lp 53 (rfPs Try.f53 0) (rfAs Try.f53 0) (rfBd Try.f53 0) LoopState.ready none ((slotsOf 96 [(1, I sq), (3, .ptr 20 0 0 0), (6, .ptr 21 0 0 0), (7, .ptr 22 0 0 0), (9, .ptr 23 0 0 0), (10, I ↑st)])))]) (ob := [decide ((↑i : Int) < (↑L.length : Int)) = true, inK IntKind.i64 ((↑st : Int) + (↑i : Int)), (0 : Int) ≤ (↑st : Int) + (↑i : Int) ∧ (0 : Int) < (↑R : Int), inK IntKind.i64 ((2 : Int) + ((↑st : Int) + (↑i : Int)) % (↑R : Int)), I ((2 : Int) + ((↑st : Int) + (↑i : Int)) % (↑R : Int)) = I (↑(plc R st i) : Int), YldOK Try.prog 99 [I ↑i, I (↑(plc R st i) : Int)] [(0, .box (dbox m k)), (20, .blk 43 [.ifc 170 (.agg [.ptr 0 0 0 0, I 0, I 0, I ↑N])]), (21, .blk 29 [I 0]), (22, .blk 148 [.ifc 170 (.agg [.ptr 0 0 0 0, I 0, I 0, I ↑N]), I ↑R]), (23, .blk 25 [.sl 30 0 1 L.length none]), (30, .vec 22 1 L.length (rowG encU L)), (99, Ob.lp 53 (rfPs Try.f53 0) (rfAs Try.f53 0) (rfBd Try.f53 0) LoopState.ready none (slotsOf 96 [(1, I sq), (3, .ptr 20 0 0 0), (6, .ptr 21 0 0 0), (7, .ptr 22 0 0 0), (9, .ptr 23 0 0 0), (10, I ↑st)]))] (B true) [(0, some (.box (dbox m (wrK k (0 : Int) (↑(plc R st i) : Int) (L.getD i default))))), (99, some (Ob.lp 53 (rfPs Try.f53 0) (rfAs Try.f53 0) (rfBd Try.f53 0) LoopState.ready none (slotsOf 96 [(1, I sq), (3, .ptr 20 0 0 0), (6, .ptr 21 0 0 0), (7, .ptr 22 0 0 0), (9, .ptr 23 0 0 0), (10, I ↑st)])))], inK IntKind.i64 ((↑i : Int) + (1 : Int))]) rfl rfl (by kernel_rfl) ⟨(decide_eq_true h1), (by simp only [inK]; first | omega | exact congrArg (fun z => I z) ep), (by first | omega | exact congrArg (fun z => I z) ep), (by simp only [inK]; first | omega | exact congrArg (fun z => I z) ep), (by first | omega | exact congrArg (fun z => I z) ep), yr, (by simp only [inK]; first | omega | exact congrArg (fun z => I z) ep), trivial⟩ rfl ⟨rfl, trivial, rfl, rfl, rfl, rfl, rfl, rfl, rfl, rfl, rfl, rfl, rfl, rfl, rfl, rfl, rfl, fun _ => rfl, rfl, rfl, trivial⟩ ?_
        all_goals exact ih1
      · have he' : ¬ actE k (some ((plc R st i : Int), L.getD i default)) = 0 := he
        rw [if_neg he'] at r1
        rw [hE] at r1
        exact absurd r1.symm he
    · have hn2 : ¬ (i : Int) < (L.length : Int) := by omega
      have ed : (wsQ L R st).drop i = [] := by rw [List.drop_eq_nil_iff, wsQ_len]; omega
      rw [ed] at r2
      rw [r2]
      simp only [seqK]
      clear r1 r2 hb
      refine Safe.ends mixed Try.func119 5 [⟨1100, [(0, .tt false)]⟩] (r := .tup []) (hp := [(0, .box (dbox m k)), (20, .blk 43 [.ifc 170 (.agg [.ptr 0 0 0 0, I 0, I 0, I ↑N])]), (21, .blk 29 [I 0]), (22, .blk 148 [.ifc 170 (.agg [.ptr 0 0 0 0, I 0, I 0, I ↑N]), I ↑R]), (23, .blk 25 [.sl 30 0 1 L.length none]), (26, .blk 3 [I ↑L.length]), (27, .blk 3 [I ↑st]), (28, .blk 148 [.ifc 170 (.agg [.ptr 0 0 0 0, I 0, I 0, I ↑N]), I ↑R]), (30, .vec 22 1 L.length (rowG encU L)), (99, .lp 53 (rfPs Try.f53 0) (rfAs Try.f53 0) (rfBd Try.f53 0) LoopState.ready none ((slotsOf 96 [(1, I sq), (3, .ptr 20 0 0 0), (6, .ptr 21 0 0 0), (7, .ptr 22 0 0 0), (9, .ptr 23 0 0 0), (10, I ↑st)])))]) (ob := [decide ((↑i : Int) < (↑L.length : Int)) = false]) rfl (by kernel_rfl) ⟨(decide_eq_false hn2), trivial⟩ rfl ⟨ObLe.refl _, ObLe.refl _, ObLe.refl _, ObLe.refl _, ObLe.refl _, ObLe.refl _, ObLe.refl _, ObLe.refl _, ObLe.refl _, ObLe.refl _, trivial⟩ ⟨rfl, trivial, rfl, rfl, rfl, rfl, rfl, rfl, rfl, rfl, rfl, rfl, rfl, rfl, rfl, rfl, rfl, fun _ => rfl, rfl, rfl, trivial⟩ rfl
  · intro H
    have H0 := H (0, k0) ⟨Nat.zero_le _, hb0, rfl, rfl⟩
    refine Safe.goto mixed 4 [⟨1100, []⟩] [0, 1, 2, 3, 6, 7] [0, 20, 21, 22, 23, 26, 27, 28, 30, 99] (todo' := loopAt Try.f119 0) (sl := slotsOf 22 [(0, .yld 99), (1, .ptr 26 0 0 0), (2, .ptr 27 0 0 0), (3, .ptr 28 0 0 0), (6, I ↑L.length), (7, I 0)]) (hp := [(0, .box (dbox m k0)), (20, .blk 43 [.ifc 170 (.agg [.ptr 0 0 0 0, I 0, I 0, I ↑N])]), (21, .blk 29 [I 0]), (22, .blk 148 [.ifc 170 (.agg [.ptr 0 0 0 0, I 0, I 0, I ↑N]), I ↑R]), (23, .blk 25 [.sl 30 0 1 L.length none]), (26, .blk 3 [I ↑L.length]), (27, .blk 3 [I ↑st]), (28, .blk 148 [.ifc 170 (.agg [.ptr 0 0 0 0, I 0, I 0, I ↑N]), I ↑R]), (30, .vec 22 1 L.length (rowG encU L)), (99, .lp 53 (rfPs Try.f53 0) (rfAs Try.f53 0) (rfBd Try.f53 0) LoopState.ready none ((slotsOf 96 [(1, I sq), (3, .ptr 20 0 0 0), (6, .ptr 21 0 0 0), (7, .ptr 22 0 0 0), (9, .ptr 23 0 0 0), (10, I ↑st)])))]) (ob := []) rfl rfl (by kernel_rfl) trivial rfl ⟨rfl, trivial, rfl, rfl, rfl, rfl, rfl, rfl, rfl, rfl, rfl, rfl, rfl, rfl, rfl, rfl, rfl, fun _ => rfl, rfl, rfl, trivial⟩ ?_
    all_goals exact H0
theorem prp_iter_no (m : Nat) (k0 : Dk) (N R st : Nat) (sq : Int) (L : List Int) {c : Nat} (hb0 : Bc k0 c) (hc : c ≤ 70000) (hN : 4 ≤ N ∧ N ≤ 1000) (hR : R + 2 = N) (hl : L.length ≤ 1000) (hst : st ≤ 100000) (hE : ¬ seqE k0 (wsQ L R st) = 0) :
    CallOK Try.prog 119 [.yld 99, .ptr 26 0 0 0, .ptr 27 0 0 0, .ptr 28 0 0 0] [(0, .box (dbox m k0)), (20, .blk 43 [spn N]), (21, .blk 29 [I 0]), (22, .blk 148 [spn N, I R]), (23, .blk 25 [.sl 30 0 1 L.length none]), (26, .blk 3 [I L.length]), (27, .blk 3 [I st]), (28, .blk 148 [spn N, I R]), (30, .vec 22 1 L.length (rowG encU L)), (99, lpO 53 Try.f53 0 .ready none (slotsOf 96 [(1, I sq), (3, .ptr 20 0 0 0), (6, .ptr 21 0 0 0), (7, .ptr 22 0 0 0), (9, .ptr 23 0 0 0), (10, I st)]))]
      (.tup []) [(0, some (.box (dbox m (seqK k0 (wsQ L R st))))), (21, some (.blk 29 [I (seqE k0 (wsQ L R st))])), (99, some (lpO 53 Try.f53 0 .done (some .ret) (slotsOf 96 [(1, I sq), (3, .ptr 20 0 0 0), (6, .ptr 21 0 0 0), (7, .ptr 22 0 0 0), (9, .ptr 23 0 0 0), (10, I st)])))] := by
  refine CallOK.intro Try.call119 Try.func119 rfl rfl ⟨rfl, trivial, rfl, rfl, rfl, rfl, rfl, rfl, rfl, rfl, rfl, rfl, rfl, rfl, rfl, rfl, rfl, fun _ => rfl, rfl, rfl, trivial⟩ ?_
  refine Safe.withLoop (loopAt Try.f119 0) [0, 20, 21, 22, 23, 26, 27, 28, 30, 99] 22 (fun g : Nat × Dk => [(0, .yld 99), (1, .ptr 26 0 0 0), (2, .ptr 27 0 0 0), (3, .ptr 28 0 0 0), (6, I L.length), (7, I g.1)]) (fun g => [(0, .box (dbox m g.2)), (20, .blk 43 [spn N]), (21, .blk 29 [I 0]), (22, .blk 148 [spn N, I R]), (23, .blk 25 [.sl 30 0 1 L.length none]), (26, .blk 3 [I L.length]), (27, .blk 3 [I st]), (28, .blk 148 [spn N, I R]), (30, .vec 22 1 L.length (rowG encU L)), (99, lpO 53 Try.f53 0 .ready none (slotsOf 96 [(1, I sq), (3, .ptr 20 0 0 0), (6, .ptr 21 0 0 0), (7, .ptr 22 0 0 0), (9, .ptr 23 0 0 0), (10, I st)]))]) (fun g => g.1 ≤ L.length ∧ Bc g.2 (c + g.1) ∧ seqE k0 (wsQ L R st) = seqE g.2 ((wsQ L R st).drop g.1) ∧ seqK k0 (wsQ L R st) = seqK g.2 ((wsQ L R st).drop g.1)) (fun g => L.length - g.1) ?_ ?_
  · rintro ⟨i, k⟩ ⟨hi, hb, r1, r2⟩ ih
    dsimp only at hi hb r1 r2 ih ⊢
    by_cases hlt : i < L.length
    · have h1 : (i : Int) < (L.length : Int) := by omega
      have ep : ((2 : Int) + ((st : Int) + (i : Int)) % (R : Int)) = ((plc R st i : Nat) : Int) := plc_int R st i
      have hmod : 0 ≤ ((st : Int) + (i : Int)) % (R : Int) ∧ ((st : Int) + (i : Int)) % (R : Int) < (R : Int) := ⟨Int.emod_nonneg _ (by omega), Int.emod_lt_of_pos _ (by omega)⟩
      rw [wsQ_drop L R st i hlt] at r1 r2
      rw [seqE_cons] at r1
      rw [seqK_cons] at r2
      by_cases he : wrE k 0 (plc R st i : Int) = 0
      · have he' : actE k (some ((plc R st i : Int), L.getD i default)) = 0 := he
        rw [if_pos he'] at r1 r2
        have yr := prp_ok m k N R st i sq L hb (by omega) hN hR hlt hl he
        have ih1 := ih (i + 1, wrK k 0 (plc R st i : Int) (L.getD i default)) ⟨by omega, (hb.act (some ((plc R st i : Int), L.getD i default))).mono (by omega), r1, r2⟩ (by dsimp only; omega)
        clear r1 r2 hb he he'
        refine Safe.goto mixed 16 [⟨1100, [(0, .tt true)]⟩, ⟨1200, []⟩, ⟨1300, [(8, .is (I ((↑(plc R st i) : Int)))), (9, .call [0, 20, 21, 22, 23, 30, 99] (B true) [(0, some (.box (dbox m (wrK k (0 : Int) (↑(plc R st i) : Int) (L.getD i default))))), (99, some (.lp 53 (rfPs Try.f53 0) (rfAs Try.f53 0) (rfBd Try.f53 0) LoopState.ready none ((slotsOf 96 [(1, I sq), (3, .ptr 20 0 0 0), (6, .ptr 21 0 0 0), (7, .ptr 22 0 0 0), (9, .ptr 23 0 0 0), (10, I ↑st)]))))])]⟩, ⟨1400, []⟩] [0, 1, 2, 3, 6, 7] [0, 20, 21, 22, 23, 26, 27, 28, 30, 99] (todo' := loopAt Try.f119 0) (sl := slotsOf 22 [(0, .yld 99), (1, .ptr 26 0 0 0), (2, .ptr 27 0 0 0), (3, .ptr 28 0 0 0), (6, I ↑L.length), (7, I ((↑i : Int) + (1 : Int)))]) (hp := [(0, .box (dbox m (wrK k (0 : Int) (↑(plc R st i) : Int) (L.getD i default)))), (20, .blk 43 [.ifc 170 (.agg [.ptr 0 0 0 0, I 0, I 0, I ↑N])]), (21, .blk 29 [I 0]), (22, .blk 148 [.ifc 170 (.agg [.ptr 0 0 0 0, I 0, I 0, I ↑N]), I ↑R]), (23, .blk 25 [.sl 30 0 1 L.length none]), (26, .blk 3 [I ↑L.length]), (27, .blk 3 [I ↑st]), (28, .blk 148 [.ifc 170 (.agg [.ptr 0 0 0 0, I 0, I 0, I ↑N]), I ↑R]), (30, .vec 22 1 L.length (rowG encU L)), (99, .lp 53 (rfPs Try.f53 0) (rfAs Try.f53 0) (rfBd Try.f53 0) LoopState.ready none ((slotsOf 96 [(1, I sq), (3, .ptr 20 0 0 0), (6, .ptr 21 0 0 0), (7, .ptr 22 0 0 0), (9, .ptr 23 0 0 0), (10, I ↑st)])))]) (ob := [decide ((↑i : Int) < (↑L.length : Int)) = true, inK IntKind.i64 ((↑st : Int) + (↑i : Int)), (0 : Int) ≤ (↑st : Int) + (↑i : Int) ∧ (0 : Int) < (↑R : Int), inK IntKind.i64 ((2 : Int) + ((↑st : Int) + (↑i : Int)) % (↑R : Int)), I ((2 : Int) + ((↑st : Int) + (↑i : Int)) % (↑R : Int)) = I (↑(plc R st i) : Int), YldOK Try.prog 99 [I ↑i, I (↑(plc R st i) : Int)] [(0, .box (dbox m k)), (20, .blk 43 [.ifc 170 (.agg [.ptr 0 0 0 0, I 0, I 0, I ↑N])]), (21, .blk 29 [I 0]), (22, .blk 148 [.ifc 170 (.agg [.ptr 0 0 0 0, I 0, I 0, I ↑N]), I ↑R]), (23, .blk 25 [.sl 30 0 1 L.length none]), (30, .vec 22 1 L.length (rowG encU L)), (99, Ob.lp 53 (rfPs Try.f53 0) (rfAs Try.f53 0) (rfBd Try.f53 0) LoopState.ready none (slotsOf 96 [(1, I sq), (3, .ptr 20 0 0 0), (6, .ptr 21 0 0 0), (7, .ptr 22 0 0 0), (9, .ptr 23 0 0 0), (10, I ↑st)]))] (B true) [(0, some (.box (dbox m (wrK k (0 : Int) (↑(plc R st i) : Int) (L.getD i default))))), (99, some (Ob.lp 53 (rfPs Try.f53 0) (rfAs Try.f53 0) (rfBd Try.f53 0) LoopState.ready none (slotsOf 96 [(1, I sq), (3, .ptr 20 0 0 0), (6, .ptr 21 0 0 0), (7, .ptr 22 0 0 0), (9, .ptr 23 0 0 0), (10, I ↑st)])))], inK IntKind.i64 ((↑i : Int) + (1 : Int))]) rfl rfl (by kernel_rfl) ⟨(decide_eq_true h1), (by simp only [inK]; first | omega | exact congrArg (fun z => I z) ep), (by first | omega | exact congrArg (fun z => I z) ep), (by simp only [inK]; first | omega | exact congrArg (fun z => I z) ep), (by first | omega | exact congrArg (fun z => I z) ep), yr, (by simp only [inK]; first | omega | exact congrArg (fun z => I z) ep), trivial⟩ rfl ⟨rfl, trivial, rfl, rfl, rfl, rfl, rfl, rfl, rfl, rfl, rfl, rfl, rfl, rfl, rfl, rfl, rfl, fun _ => rfl, rfl, rfl, trivial⟩ ?_
        all_goals exact ih1
      · have he' : ¬ actE k (some ((plc R st i : Int), L.getD i default)) = 0 := he
        rw [if_neg he'] at r1 r2
        have yr := prp_no m k N R st i sq L hb (by omega) hN hR hlt hl he
        rw [r1, r2]
        show Safe _ _ _ _ [(0, some (.box (dbox m (wrK k 0 (plc R st i : Int) (L.getD i default))))), (21, some (.blk 29 [I (wrE k 0 (plc R st i : Int))])), (99, some (lpO 53 Try.f53 0 .done (some .ret) (slotsOf 96 [(1, I sq), (3, .ptr 20 0 0 0), (6, .ptr 21 0 0 0), (7, .ptr 22 0 0 0), (9, .ptr 23 0 0 0), (10, I st)])))] _ _ _
        clear r1 r2 hb he he' ih
        refine Safe.ends mixed Try.func119 12 [⟨1100, [(0, .tt true)]⟩, ⟨1200, []⟩, ⟨1300, [(8, .is (I ((↑(plc R st i) : Int)))), (9, .call [0, 20, 21, 22, 23, 30, 99] (B false) [(0, some (.box (dbox m (wrK k (0 : Int) (↑(plc R st i) : Int) (L.getD i default))))), (21, some (.blk 29 [I (wrE k (0 : Int) (↑(plc R st i) : Int))])), (99, some (.lp 53 (rfPs Try.f53 0) (rfAs Try.f53 0) (rfBd Try.f53 0) LoopState.done (some Code.ret) ((slotsOf 96 [(1, I sq), (3, .ptr 20 0 0 0), (6, .ptr 21 0 0 0), (7, .ptr 22 0 0 0), (9, .ptr 23 0 0 0), (10, I ↑st)]))))])]⟩] (r := .tup []) (hp := [(0, .box (dbox m (wrK k (0 : Int) (↑(plc R st i) : Int) (L.getD i default)))), (20, .blk 43 [.ifc 170 (.agg [.ptr 0 0 0 0, I 0, I 0, I ↑N])]), (21, .blk 29 [I (wrE k (0 : Int) (↑(plc R st i) : Int))]), (22, .blk 148 [.ifc 170 (.agg [.ptr 0 0 0 0, I 0, I 0, I ↑N]), I ↑R]), (23, .blk 25 [.sl 30 0 1 L.length none]), (26, .blk 3 [I ↑L.length]), (27, .blk 3 [I ↑st]), (28, .blk 148 [.ifc 170 (.agg [.ptr 0 0 0 0, I 0, I 0, I ↑N]), I ↑R]), (30, .vec 22 1 L.length (rowG encU L)), (99, .lp 53 (rfPs Try.f53 0) (rfAs Try.f53 0) (rfBd Try.f53 0) LoopState.done (some Code.ret) ((slotsOf 96 [(1, I sq), (3, .ptr 20 0 0 0), (6, .ptr 21 0 0 0), (7, .ptr 22 0 0 0), (9, .ptr 23 0 0 0), (10, I ↑st)])))]) (ob := [decide ((↑i : Int) < (↑L.length : Int)) = true, inK IntKind.i64 ((↑st : Int) + (↑i : Int)), (0 : Int) ≤ (↑st : Int) + (↑i : Int) ∧ (0 : Int) < (↑R : Int), inK IntKind.i64 ((2 : Int) + ((↑st : Int) + (↑i : Int)) % (↑R : Int)), I ((2 : Int) + ((↑st : Int) + (↑i : Int)) % (↑R : Int)) = I (↑(plc R st i) : Int), YldOK Try.prog 99 [I ↑i, I (↑(plc R st i) : Int)] [(0, .box (dbox m k)), (20, .blk 43 [.ifc 170 (.agg [.ptr 0 0 0 0, I 0, I 0, I ↑N])]), (21, .blk 29 [I 0]), (22, .blk 148 [.ifc 170 (.agg [.ptr 0 0 0 0, I 0, I 0, I ↑N]), I ↑R]), (23, .blk 25 [.sl 30 0 1 L.length none]), (30, .vec 22 1 L.length (rowG encU L)), (99, Ob.lp 53 (rfPs Try.f53 0) (rfAs Try.f53 0) (rfBd Try.f53 0) LoopState.ready none (slotsOf 96 [(1, I sq), (3, .ptr 20 0 0 0), (6, .ptr 21 0 0 0), (7, .ptr 22 0 0 0), (9, .ptr 23 0 0 0), (10, I ↑st)]))] (B false) [(0, some (.box (dbox m (wrK k (0 : Int) (↑(plc R st i) : Int) (L.getD i default))))), (21, some (.blk 29 [I (wrE k (0 : Int) (↑(plc R st i) : Int))])), (99, some (Ob.lp 53 (rfPs Try.f53 0) (rfAs Try.f53 0) (rfBd Try.f53 0) LoopState.done (some Code.ret) (slotsOf 96 [(1, I sq), (3, .ptr 20 0 0 0), (6, .ptr 21 0 0 0), (7, .ptr 22 0 0 0), (9, .ptr 23 0 0 0), (10, I ↑st)])))]]) rfl (by kernel_rfl) ⟨(decide_eq_true h1), (by simp only [inK]; first | omega | exact congrArg (fun z => I z) ep), (by first | omega | exact congrArg (fun z => I z) ep), (by simp only [inK]; first | omega | exact congrArg (fun z => I z) ep), (by first | omega | exact congrArg (fun z => I z) ep), yr, trivial⟩ rfl ⟨ObLe.refl _, ObLe.refl _, ObLe.refl _, ObLe.refl _, ObLe.refl _, ObLe.refl _, ObLe.refl _, ObLe.refl _, ObLe.refl _, ObLe.refl _, trivial⟩ ⟨rfl, trivial, rfl, rfl, rfl, rfl, rfl, rfl, rfl, rfl, rfl, rfl, rfl, rfl, rfl, rfl, rfl, fun _ => rfl, rfl, rfl, trivial⟩ rfl
    · have hn2 : ¬ (i : Int) < (L.length : Int) := by omega
      have ed : (wsQ L R st).drop i = [] := by rw [List.drop_eq_nil_iff, wsQ_len]; omega
      rw [ed] at r1
      exact absurd r1 hE
  · intro H
    have H0 := H (0, k0) ⟨Nat.zero_le _, hb0, rfl, rfl⟩
    refine Safe.goto mixed 4 [⟨1100, []⟩] [0, 1, 2, 3, 6, 7] [0, 20, 21, 22, 23, 26, 27, 28, 30, 99] (todo' := loopAt Try.f119 0) (sl := slotsOf 22 [(0, .yld 99), (1, .ptr 26 0 0 0), (2, .ptr 27 0 0 0), (3, .ptr 28 0 0 0), (6, I ↑L.length), (7, I 0)]) (hp := [(0, .box (dbox m k0)), (20, .blk 43 [.ifc 170 (.agg [.ptr 0 0 0 0, I 0, I 0, I ↑N])]), (21, .blk 29 [I 0]), (22, .blk 148 [.ifc 170 (.agg [.ptr 0 0 0 0, I 0, I 0, I ↑N]), I ↑R]), (23, .blk 25 [.sl 30 0 1 L.length none]), (26, .blk 3 [I ↑L.length]), (27, .blk 3 [I ↑st]), (28, .blk 148 [.ifc 170 (.agg [.ptr 0 0 0 0, I 0, I 0, I ↑N]), I ↑R]), (30, .vec 22 1 L.length (rowG encU L)), (99, .lp 53 (rfPs Try.f53 0) (rfAs Try.f53 0) (rfBd Try.f53 0) LoopState.ready none ((slotsOf 96 [(1, I sq), (3, .ptr 20 0 0 0), (6, .ptr 21 0 0 0), (7, .ptr 22 0 0 0), (9, .ptr 23 0 0 0), (10, I ↑st)])))]) (ob := []) rfl rfl (by kernel_rfl) trivial rfl ⟨rfl, trivial, rfl, rfl, rfl, rfl, rfl, rfl, rfl, rfl, rfl, rfl, rfl, rfl, rfl, rfl, rfl, fun _ => rfl, rfl, rfl, trivial⟩ ?_
    all_goals exact H0
end Go.Proofs.Ytbgbjgedjmhcaaa
namespace Go.Proofs.Ytbgbjgedjmhcaaa
open Go.RowKit
open OldD (Dk chk3 chk4 rdV wrE wrK flK)
def prA (L : List Int) (R st : Nat) (sq : Int) : List Act1 := wsQ L R st ++ [none, some (1, pk4 sq st L.length (smW sq st L.length L)), none]
theorem prep_no (m : Nat) (k : Dk) (N R st : Nat) (sq u : Int) (t : ByteArray) (L : List Int) (tb : CallOK Try.prog 90 [S t] [] (.tup [.sl 10 0 1 L.length none, I 0]) [(10, some (.vec 22 1 L.length (rowG encU L)))]) {c : Nat} (hb : Bc k c) (hc : c ≤ 60000) (hN : 4 ≤ N ∧ N ≤ 1000) (hR : R + 2 = N) (hq : 1 ≤ sq ∧ sq ≤ 1048575) (hw : Wf L) (hst : st < R) (hu : 0 ≤ u) (hsp : u + (L.length : Int) ≤ R) (bh : CallOK Try.prog 91 [ara N R] [(0, .box (dbox m k))] (.tup [I st, I u, I 0]) [(0, some (.box (dbox m k)))]) (hE : ¬ seqE k (wsQ L R st) = 0) : CallOK Try.prog 53 [spn N, I sq, S t] [(0, .box (dbox m k))] (I (seqE k (wsQ L R st))) [(0, some (.box (dbox m (seqK k (wsQ L R st)))))] := by
  have op := open_ok m k N hN
  rw [show (N : Int) - 2 = (R : Int) by omega] at op
  have h1 : ¬ sq < 1 := by omega
  have h2 : ¬ sq > 1048575 := by omega
  have h3 : ¬ u + (L.length : Int) > (R : Int) := by omega
  have se := sectors_any m k N R st L.length
  have it := prp_iter_no m k N R st sq L hb (by omega) hN hR (by omega) (by omega) hE
  refine CallOK.intro Try.call53 Try.func53 rfl rfl ⟨rfl, trivial, trivial⟩ ?_
  refine Safe.gotoS mixed 37 [⟨1100, []⟩, ⟨1200, [(1, .call [0] (.tup [.agg [.ifc 170 (.agg [.ptr 0 0 0 0, I 0, I 0, I ↑N]), I ↑R], I 0]) [])]⟩, ⟨1300, []⟩, ⟨1400, [(1, .tt false), (4, .tt false)]⟩, ⟨1500, [(1, .call [] (.tup [.sl 1555 0 1 L.length none, I 0]) [(1555, some (.vec 22 1 L.length (fun q => renL [(10, 1555)] (rowG encU L q))))])]⟩, ⟨1600, []⟩, ⟨1700, [(1, .call [0] (.tup [I ↑st, I u, I 0]) [(0, some (.box (dbox m k)))])]⟩, ⟨1800, []⟩, ⟨1900, [(6, .tt false)]⟩, ⟨2000, [(4, .call [0] (.fn (Fn.func (119 : FuncId)) [] [.ptr 2070 0 0 0, .ptr 2071 0 0 0, .ptr 2072 0 0 0]) [(2070, some (.blk 3 [I ↑L.length])), (2071, some (.blk 3 [I ↑st])), (2072, some (.blk 148 [.ifc 170 (.agg [.ptr 0 0 0 0, I 0, I 0, I ↑N]), I ↑R]))])]⟩] [0, 1, 2, 3, 6, 7, 8, 9, 10, 11, 17, 18, 19, 20, 21, 22, 23, 25, 26, 27, 28, 29, 30, 31, 32, 33, 34, 35, 36, 37, 39, 40, 41, 42, 43, 44, 45, 46, 48, 49, 50, 51, 52, 53, 54, 55, 56, 57, 58, 59] [0, 1100, 1101, 1205, 1555, 1505, 2070, 2071, 2072] (sl := slotsOf 96 [(0, .ifc 170 (.agg [.ptr 0 0 0 0, I 0, I 0, I ↑N])), (1, I sq), (2, S t), (3, .ptr 1100 0 0 0), (6, .ptr 1101 0 0 0), (7, .ptr 1205 0 0 0), (8, I 0), (9, .ptr 1505 0 0 0), (10, I ↑st), (11, I u), (17, .tup [.agg [.ifc 170 (.agg [.ptr 0 0 0 0, I 0, I 0, I ↑N]), I ↑R], I 0]), (18, .ifc 170 (.agg [.ptr 0 0 0 0, I 0, I 0, I ↑N])), (19, .tup [.agg [.ifc 170 (.agg [.ptr 0 0 0 0, I 0, I 0, I ↑N]), I ↑R], I 0]), (20, .agg [.ifc 170 (.agg [.ptr 0 0 0 0, I 0, I 0, I ↑N]), I ↑R]), (21, I 0), (22, I 0), (23, B false), (25, I sq), (26, B false), (27, B false), (28, I sq), (29, B false), (30, B false), (31, .tup [.sl 1555 0 1 L.length none, I 0]), (32, S t), (33, .tup [.sl 1555 0 1 L.length none, I 0]), (34, .sl 1555 0 1 L.length none), (35, I 0), (36, I 0), (37, B false), (39, .tup [I ↑st, I u, I 0]), (40, .agg [.ifc 170 (.agg [.ptr 0 0 0 0, I 0, I 0, I ↑N]), I ↑R]), (41, .tup [I ↑st, I u, I 0]), (42, I ↑st), (43, I u), (44, I 0), (45, I 0), (46, B false), (48, I u), (49, .sl 1555 0 1 L.length none), (50, I ↑L.length), (51, I (u + (↑L.length : Int))), (52, .ptr 1205 0 0 1), (53, I ↑R), (54, B false), (55, .agg [.ifc 170 (.agg [.ptr 0 0 0 0, I 0, I 0, I ↑N]), I ↑R]), (56, I ↑st), (57, .sl 1555 0 1 L.length none), (58, I ↑L.length), (59, .fn (Fn.func (119 : FuncId)) [] [.ptr 2070 0 0 0, .ptr 2071 0 0 0, .ptr 2072 0 0 0])]) (hp := [(0, .box (dbox m k)), (1100, .blk 43 [.ifc 170 (.agg [.ptr 0 0 0 0, I 0, I 0, I ↑N])]), (1101, .blk 29 [I 0]), (1205, .blk 148 [.ifc 170 (.agg [.ptr 0 0 0 0, I 0, I 0, I ↑N]), I ↑R]), (1555, .vec 22 1 L.length (fun q => renL [(10, 1555)] (rowG encU L q))), (1505, .blk 25 [.sl 1555 0 1 L.length none]), (2070, .blk 3 [I ↑L.length]), (2071, .blk 3 [I ↑st]), (2072, .blk 148 [.ifc 170 (.agg [.ptr 0 0 0 0, I 0, I 0, I ↑N]), I ↑R])]) (ob := [CallOK Try.prog 85 ([] ++ [.ifc 170 (.agg [.ptr 0 0 0 0, I 0, I 0, I ↑N])] ++ []) [(0, .box (dbox m k))] (.tup [.agg [.ifc 170 (.agg [.ptr 0 0 0 0, I 0, I 0, I ↑N]), I ↑R], I 0]) [], decide (sq < (1 : Int)) = false, decide (sq > (1048575 : Int)) = false, CallOK Try.prog 90 ([] ++ [AV.val (Value.string t)] ++ []) [] (.tup [.sl 1555 0 1 L.length none, I 0]) [(1555, some (.vec 22 1 L.length fun q => renL [(10, 1555)] (rowG encU L q)))], CallOK Try.prog 91 ([] ++ [.agg [.ifc 170 (.agg [.ptr 0 0 0 0, I 0, I 0, I ↑N]), I ↑R]] ++ []) [(0, .box (dbox m k))] (.tup [I ↑st, I u, I 0]) [(0, some (.box (dbox m k)))], inK IntKind.i64 (u + (↑L.length : Int)), decide (u + (↑L.length : Int) > (↑R : Int)) = false, CallOK Try.prog 92 ([] ++ [.agg [.ifc 170 (.agg [.ptr 0 0 0 0, I 0, I 0, I ↑N]), I ↑R], I ↑st, I ↑L.length] ++ []) [(0, .box (dbox m k))] (AV.fn (Fn.func (119 : FuncId)) [] [.ptr 2070 0 0 0, .ptr 2071 0 0 0, .ptr 2072 0 0 0]) [(2070, some (.blk 3 [I ↑L.length])), (2071, some (.blk 3 [I ↑st])), (2072, some (.blk 148 [.ifc 170 (.agg [.ptr 0 0 0 0, I 0, I 0, I ↑N]), I ↑R]))]]) rfl rfl (by kernel_rfl) ⟨op, (decide_eq_false h1), (decide_eq_false h2), (CallOK.ren tb [(10, 1555)] [10] rfl rfl rfl rfl trivial rfl ⟨rfl, fun _ => rfl, trivial⟩), bh, (by simp only [inK]; omega), (decide_eq_false h3), (CallOK.ren se [(0, 0), (10, 2070), (11, 2071), (12, 2072)] [0, 10, 11, 12] rfl rfl rfl rfl ⟨rfl, trivial, trivial⟩ rfl ⟨rfl, trivial, rfl, rfl, rfl, rfl, rfl, rfl, trivial⟩), trivial⟩ rfl ⟨rfl, trivial, rfl, rfl, rfl, rfl, rfl, rfl, rfl, closed_renN (fun _ => rfl), rfl, rfl, rfl, rfl, rfl, rfl, rfl, rfl, trivial⟩ ?_
  refine Safe.ren [(1100, 20), (1101, 21), (1205, 22), (1505, 23), (1555, 30), (2070, 26), (2071, 27), (2072, 28)] rfl rfl rfl rfl ⟨rfl, trivial, rfl, rfl, rfl, rfl, rfl, rfl, rfl, fun _ => rfl, rfl, rfl, rfl, rfl, rfl, rfl, rfl, rfl, trivial⟩ ?_
  refine Safe.here (.code (.rangeFunc (.tmp 59) (rfPs Try.f53 0) (rfAs Try.f53 0) (rfBd Try.f53 0)) :: rfK Try.f53 0) (by kernel_rfl) ?_
  refine Safe.leH (sl' := (slotsOf 96 [(1, I sq), (3, .ptr 20 0 0 0), (6, .ptr 21 0 0 0), (7, .ptr 22 0 0 0), (9, .ptr 23 0 0 0), (10, I st), (59, .fn (.func 119) [] [.ptr 26 0 0 0, .ptr 27 0 0 0, .ptr 28 0 0 0])])) (hp' := [(0, .box (dbox m k)), (20, .blk 43 [spn N]), (21, .blk 29 [I 0]), (22, .blk 148 [spn N, I R]), (23, .blk 25 [.sl 30 0 1 L.length none]), (26, .blk 3 [I L.length]), (27, .blk 3 [I st]), (28, .blk 148 [spn N, I R]), (30, .vec 22 1 L.length (rowG encU L))]) (dom' := idsOf [(0, .box (dbox m k)), (20, .blk 43 [spn N]), (21, .blk 29 [I 0]), (22, .blk 148 [spn N, I R]), (23, .blk 25 [.sl 30 0 1 L.length none]), (26, .blk 3 [I L.length]), (27, .blk 3 [I st]), (28, .blk 148 [spn N, I R]), (30, .vec 22 1 L.length (rowG encU L))]) ?_ rfl ?_ ⟨?_, ?_, ?_, ?_, ?_, ?_, ?_, ?_, ?_, trivial⟩ rfl ⟨rfl, trivial, rfl, rfl, rfl, rfl, rfl, rfl, rfl, rfl, rfl, rfl, rfl, rfl, rfl, rfl, rfl, fun _ => rfl, trivial⟩
  rotate_left
  · repeat (first | exact ⟨rfl, trivial⟩ | refine ⟨rfl, ?_⟩ | refine ⟨trivial, ?_⟩ | exact trivial)
  · exact ObLe.refl _
  · exact ObLe.refl _
  · exact ObLe.refl _
  · exact ObLe.refl _
  · exact ObLe.refl _
  · exact ObLe.refl _
  · exact ObLe.refl _
  · exact ObLe.refl _
  · exact ⟨rfl, rfl, rfl, fun _ _ => rfl⟩
  refine Safe.rangeF (t := 59) (pe := some .ret) (outs2 := [(0, some (.box (dbox m (seqK k (wsQ L R st))))), (20, none), (21, none), (22, none), (23, none), (26, none), (27, none), (28, none), (30, none)]) (sl1 := (slotsOf 96 [(1, I sq), (3, .ptr 20 0 0 0), (6, .ptr 21 0 0 0), (7, .ptr 22 0 0 0), (9, .ptr 23 0 0 0), (10, I st)])) 99 [(0, .box (dbox m (seqK k (wsQ L R st)))), (20, .blk 43 [spn N]), (21, .blk 29 [I (seqE k (wsQ L R st))]), (22, .blk 148 [spn N, I R]), (23, .blk 25 [.sl 30 0 1 L.length none]), (26, .blk 3 [I L.length]), (27, .blk 3 [I st]), (28, .blk 148 [spn N, I R]), (30, .vec 22 1 L.length (rowG encU L))] ?_ rfl rfl rfl it rfl rfl (by decide) (fun id => rfl) rfl rfl rfl ⟨rfl, trivial, rfl, rfl, rfl, rfl, rfl, rfl, rfl, rfl, rfl, rfl, rfl, rfl, rfl, rfl, rfl, fun _ => rfl, trivial⟩ ⟨ObLe.refl _, trivial⟩ ⟨rfl, trivial, trivial⟩ rfl fun r => ?_
  · repeat (first | exact ⟨rfl, trivial⟩ | refine ⟨rfl, ?_⟩ | refine ⟨trivial, ?_⟩ | exact trivial)
  clear it bh hb se tb op
  refine Safe.ends mixed Try.func53 0 [] (r := I (seqE k (wsQ L R st))) (hp := [(0, .box (dbox m (seqK k (wsQ L R st))))]) (ob := []) rfl (by kernel_rfl) trivial rfl ⟨ObLe.refl _, trivial⟩ ⟨rfl, trivial, trivial⟩ rfl
theorem prep_fl (m : Nat) (k : Dk) (N R st : Nat) (sq u : Int) (t : ByteArray) (L : List Int) (tb : CallOK Try.prog 90 [S t] [] (.tup [.sl 10 0 1 L.length none, I 0]) [(10, some (.vec 22 1 L.length (rowG encU L)))]) {c : Nat} (hb : Bc k c) (hc : c ≤ 60000) (hN : 4 ≤ N ∧ N ≤ 1000) (hR : R + 2 = N) (hq : 1 ≤ sq ∧ sq ≤ 1048575) (hw : Wf L) (hst : st < R) (hu : 0 ≤ u) (hsp : u + (L.length : Int) ≤ R) (bh : CallOK Try.prog 91 [ara N R] [(0, .box (dbox m k))] (.tup [I st, I u, I 0]) [(0, some (.box (dbox m k)))]) (hE : seqE k (wsQ L R st) = 0) (hb1 : Bc (seqK k (wsQ L R st)) (c + 1000)) (hF : ¬ chk3 (seqK k (wsQ L R st)) 0 0 = 0) : CallOK Try.prog 53 [spn N, I sq, S t] [(0, .box (dbox m k))] (I (chk3 (seqK k (wsQ L R st)) 0 0)) [(0, some (.box (dbox m (flK (seqK k (wsQ L R st)) 0))))] := by
  have op := open_ok m k N hN
  rw [show (N : Int) - 2 = (R : Int) by omega] at op
  have h1 : ¬ sq < 1 := by omega
  have h2 : ¬ sq > 1048575 := by omega
  have h3 : ¬ u + (L.length : Int) > (R : Int) := by omega
  have se := sectors_any m k N R st L.length
  have it := prp_iter_ok m k N R st sq L hb (by omega) hN hR (by omega) (by omega) hE
  have fl := sf_any m (seqK k (wsQ L R st)) N hb1 (by omega)
  generalize seqK k (wsQ L R st) = K1 at *
  refine CallOK.intro Try.call53 Try.func53 rfl rfl ⟨rfl, trivial, trivial⟩ ?_
  refine Safe.gotoS mixed 37 [⟨1100, []⟩, ⟨1200, [(1, .call [0] (.tup [.agg [.ifc 170 (.agg [.ptr 0 0 0 0, I 0, I 0, I ↑N]), I ↑R], I 0]) [])]⟩, ⟨1300, []⟩, ⟨1400, [(1, .tt false), (4, .tt false)]⟩, ⟨1500, [(1, .call [] (.tup [.sl 1555 0 1 L.length none, I 0]) [(1555, some (.vec 22 1 L.length (fun q => renL [(10, 1555)] (rowG encU L q))))])]⟩, ⟨1600, []⟩, ⟨1700, [(1, .call [0] (.tup [I ↑st, I u, I 0]) [(0, some (.box (dbox m k)))])]⟩, ⟨1800, []⟩, ⟨1900, [(6, .tt false)]⟩, ⟨2000, [(4, .call [0] (.fn (Fn.func (119 : FuncId)) [] [.ptr 2070 0 0 0, .ptr 2071 0 0 0, .ptr 2072 0 0 0]) [(2070, some (.blk 3 [I ↑L.length])), (2071, some (.blk 3 [I ↑st])), (2072, some (.blk 148 [.ifc 170 (.agg [.ptr 0 0 0 0, I 0, I 0, I ↑N]), I ↑R]))])]⟩] [0, 1, 2, 3, 6, 7, 8, 9, 10, 11, 17, 18, 19, 20, 21, 22, 23, 25, 26, 27, 28, 29, 30, 31, 32, 33, 34, 35, 36, 37, 39, 40, 41, 42, 43, 44, 45, 46, 48, 49, 50, 51, 52, 53, 54, 55, 56, 57, 58, 59] [0, 1100, 1101, 1205, 1555, 1505, 2070, 2071, 2072] (sl := slotsOf 96 [(0, .ifc 170 (.agg [.ptr 0 0 0 0, I 0, I 0, I ↑N])), (1, I sq), (2, S t), (3, .ptr 1100 0 0 0), (6, .ptr 1101 0 0 0), (7, .ptr 1205 0 0 0), (8, I 0), (9, .ptr 1505 0 0 0), (10, I ↑st), (11, I u), (17, .tup [.agg [.ifc 170 (.agg [.ptr 0 0 0 0, I 0, I 0, I ↑N]), I ↑R], I 0]), (18, .ifc 170 (.agg [.ptr 0 0 0 0, I 0, I 0, I ↑N])), (19, .tup [.agg [.ifc 170 (.agg [.ptr 0 0 0 0, I 0, I 0, I ↑N]), I ↑R], I 0]), (20, .agg [.ifc 170 (.agg [.ptr 0 0 0 0, I 0, I 0, I ↑N]), I ↑R]), (21, I 0), (22, I 0), (23, B false), (25, I sq), (26, B false), (27, B false), (28, I sq), (29, B false), (30, B false), (31, .tup [.sl 1555 0 1 L.length none, I 0]), (32, S t), (33, .tup [.sl 1555 0 1 L.length none, I 0]), (34, .sl 1555 0 1 L.length none), (35, I 0), (36, I 0), (37, B false), (39, .tup [I ↑st, I u, I 0]), (40, .agg [.ifc 170 (.agg [.ptr 0 0 0 0, I 0, I 0, I ↑N]), I ↑R]), (41, .tup [I ↑st, I u, I 0]), (42, I ↑st), (43, I u), (44, I 0), (45, I 0), (46, B false), (48, I u), (49, .sl 1555 0 1 L.length none), (50, I ↑L.length), (51, I (u + (↑L.length : Int))), (52, .ptr 1205 0 0 1), (53, I ↑R), (54, B false), (55, .agg [.ifc 170 (.agg [.ptr 0 0 0 0, I 0, I 0, I ↑N]), I ↑R]), (56, I ↑st), (57, .sl 1555 0 1 L.length none), (58, I ↑L.length), (59, .fn (Fn.func (119 : FuncId)) [] [.ptr 2070 0 0 0, .ptr 2071 0 0 0, .ptr 2072 0 0 0])]) (hp := [(0, .box (dbox m k)), (1100, .blk 43 [.ifc 170 (.agg [.ptr 0 0 0 0, I 0, I 0, I ↑N])]), (1101, .blk 29 [I 0]), (1205, .blk 148 [.ifc 170 (.agg [.ptr 0 0 0 0, I 0, I 0, I ↑N]), I ↑R]), (1555, .vec 22 1 L.length (fun q => renL [(10, 1555)] (rowG encU L q))), (1505, .blk 25 [.sl 1555 0 1 L.length none]), (2070, .blk 3 [I ↑L.length]), (2071, .blk 3 [I ↑st]), (2072, .blk 148 [.ifc 170 (.agg [.ptr 0 0 0 0, I 0, I 0, I ↑N]), I ↑R])]) (ob := [CallOK Try.prog 85 ([] ++ [.ifc 170 (.agg [.ptr 0 0 0 0, I 0, I 0, I ↑N])] ++ []) [(0, .box (dbox m k))] (.tup [.agg [.ifc 170 (.agg [.ptr 0 0 0 0, I 0, I 0, I ↑N]), I ↑R], I 0]) [], decide (sq < (1 : Int)) = false, decide (sq > (1048575 : Int)) = false, CallOK Try.prog 90 ([] ++ [AV.val (Value.string t)] ++ []) [] (.tup [.sl 1555 0 1 L.length none, I 0]) [(1555, some (.vec 22 1 L.length fun q => renL [(10, 1555)] (rowG encU L q)))], CallOK Try.prog 91 ([] ++ [.agg [.ifc 170 (.agg [.ptr 0 0 0 0, I 0, I 0, I ↑N]), I ↑R]] ++ []) [(0, .box (dbox m k))] (.tup [I ↑st, I u, I 0]) [(0, some (.box (dbox m k)))], inK IntKind.i64 (u + (↑L.length : Int)), decide (u + (↑L.length : Int) > (↑R : Int)) = false, CallOK Try.prog 92 ([] ++ [.agg [.ifc 170 (.agg [.ptr 0 0 0 0, I 0, I 0, I ↑N]), I ↑R], I ↑st, I ↑L.length] ++ []) [(0, .box (dbox m k))] (AV.fn (Fn.func (119 : FuncId)) [] [.ptr 2070 0 0 0, .ptr 2071 0 0 0, .ptr 2072 0 0 0]) [(2070, some (.blk 3 [I ↑L.length])), (2071, some (.blk 3 [I ↑st])), (2072, some (.blk 148 [.ifc 170 (.agg [.ptr 0 0 0 0, I 0, I 0, I ↑N]), I ↑R]))]]) rfl rfl (by kernel_rfl) ⟨op, (decide_eq_false h1), (decide_eq_false h2), (CallOK.ren tb [(10, 1555)] [10] rfl rfl rfl rfl trivial rfl ⟨rfl, fun _ => rfl, trivial⟩), bh, (by simp only [inK]; omega), (decide_eq_false h3), (CallOK.ren se [(0, 0), (10, 2070), (11, 2071), (12, 2072)] [0, 10, 11, 12] rfl rfl rfl rfl ⟨rfl, trivial, trivial⟩ rfl ⟨rfl, trivial, rfl, rfl, rfl, rfl, rfl, rfl, trivial⟩), trivial⟩ rfl ⟨rfl, trivial, rfl, rfl, rfl, rfl, rfl, rfl, rfl, closed_renN (fun _ => rfl), rfl, rfl, rfl, rfl, rfl, rfl, rfl, rfl, trivial⟩ ?_
  refine Safe.ren [(1100, 20), (1101, 21), (1205, 22), (1505, 23), (1555, 30), (2070, 26), (2071, 27), (2072, 28)] rfl rfl rfl rfl ⟨rfl, trivial, rfl, rfl, rfl, rfl, rfl, rfl, rfl, fun _ => rfl, rfl, rfl, rfl, rfl, rfl, rfl, rfl, rfl, trivial⟩ ?_
  refine Safe.here (.code (.rangeFunc (.tmp 59) (rfPs Try.f53 0) (rfAs Try.f53 0) (rfBd Try.f53 0)) :: rfK Try.f53 0) (by kernel_rfl) ?_
  refine Safe.leH (sl' := (slotsOf 96 [(1, I sq), (3, .ptr 20 0 0 0), (6, .ptr 21 0 0 0), (7, .ptr 22 0 0 0), (9, .ptr 23 0 0 0), (10, I st), (59, .fn (.func 119) [] [.ptr 26 0 0 0, .ptr 27 0 0 0, .ptr 28 0 0 0])])) (hp' := [(0, .box (dbox m k)), (20, .blk 43 [spn N]), (21, .blk 29 [I 0]), (22, .blk 148 [spn N, I R]), (23, .blk 25 [.sl 30 0 1 L.length none]), (26, .blk 3 [I L.length]), (27, .blk 3 [I st]), (28, .blk 148 [spn N, I R]), (30, .vec 22 1 L.length (rowG encU L))]) (dom' := idsOf [(0, .box (dbox m k)), (20, .blk 43 [spn N]), (21, .blk 29 [I 0]), (22, .blk 148 [spn N, I R]), (23, .blk 25 [.sl 30 0 1 L.length none]), (26, .blk 3 [I L.length]), (27, .blk 3 [I st]), (28, .blk 148 [spn N, I R]), (30, .vec 22 1 L.length (rowG encU L))]) ?_ rfl ?_ ⟨?_, ?_, ?_, ?_, ?_, ?_, ?_, ?_, ?_, trivial⟩ rfl ⟨rfl, trivial, rfl, rfl, rfl, rfl, rfl, rfl, rfl, rfl, rfl, rfl, rfl, rfl, rfl, rfl, rfl, fun _ => rfl, trivial⟩
  rotate_left
  · repeat (first | exact ⟨rfl, trivial⟩ | refine ⟨rfl, ?_⟩ | refine ⟨trivial, ?_⟩ | exact trivial)
  · exact ObLe.refl _
  · exact ObLe.refl _
  · exact ObLe.refl _
  · exact ObLe.refl _
  · exact ObLe.refl _
  · exact ObLe.refl _
  · exact ObLe.refl _
  · exact ObLe.refl _
  · exact ⟨rfl, rfl, rfl, fun _ _ => rfl⟩
  refine Safe.rangeF (t := 59) (pe := none) (outs2 := [(0, some (.box (dbox m (flK K1 0)))), (20, none), (21, none), (22, none), (23, none), (26, none), (27, none), (28, none), (30, none)]) (sl1 := (slotsOf 96 [(1, I sq), (3, .ptr 20 0 0 0), (6, .ptr 21 0 0 0), (7, .ptr 22 0 0 0), (9, .ptr 23 0 0 0), (10, I st)])) 99 [(0, .box (dbox m K1)), (20, .blk 43 [spn N]), (21, .blk 29 [I 0]), (22, .blk 148 [spn N, I R]), (23, .blk 25 [.sl 30 0 1 L.length none]), (26, .blk 3 [I L.length]), (27, .blk 3 [I st]), (28, .blk 148 [spn N, I R]), (30, .vec 22 1 L.length (rowG encU L))] ?_ rfl rfl rfl it rfl rfl (by decide) (fun id => rfl) rfl rfl rfl ⟨rfl, trivial, rfl, rfl, rfl, rfl, rfl, rfl, rfl, rfl, rfl, rfl, rfl, rfl, rfl, rfl, rfl, fun _ => rfl, trivial⟩ ⟨ObLe.refl _, trivial⟩ ⟨rfl, trivial, trivial⟩ rfl fun r => ?_
  · repeat (first | exact ⟨rfl, trivial⟩ | refine ⟨rfl, ?_⟩ | refine ⟨trivial, ?_⟩ | exact trivial)
  clear it bh hb se tb op
  refine Safe.ends mixed Try.func53 9 [⟨1100, [(1, .inv 167 (.agg [.ptr 0 0 0 0, I 0, I 0, I ↑N]) [0] (I (chk3 K1 (0 : Int) (0 : Int))) [(0, some (.box (dbox m (flK K1 (0 : Int)))))])]⟩, ⟨1200, [(1, .tt true)]⟩, ⟨1300, []⟩] (r := I (chk3 K1 (0 : Int) (0 : Int))) (hp := [(0, .box (dbox m (flK K1 (0 : Int))))]) (ob := [MethOK Try.prog "Flush" (.ifc 170 (.agg [.ptr 0 0 0 0, I 0, I 0, I ↑N])) 167 (.agg [.ptr 0 0 0 0, I 0, I 0, I ↑N]), CallOK Try.prog 167 [.agg [.ptr 0 0 0 0, I 0, I 0, I ↑N]] [(0, .box (dbox m K1))] (I (chk3 K1 (0 : Int) (0 : Int))) [(0, some (.box (dbox m (flK K1 (0 : Int)))))], (decide ¬chk3 K1 (0 : Int) (0 : Int) = (0 : Int)) = true]) rfl (by kernel_rfl) ⟨(MethOK.of (by kernel_rfl)), fl, (decide_eq_true hF), trivial⟩ rfl ⟨ObLe.refl _, trivial⟩ ⟨rfl, trivial, trivial⟩ rfl
theorem prep_yes (m : Nat) (k : Dk) (N R st : Nat) (sq u : Int) (t : ByteArray) (L : List Int) (tb : CallOK Try.prog 90 [S t] [] (.tup [.sl 10 0 1 L.length none, I 0]) [(10, some (.vec 22 1 L.length (rowG encU L)))]) {c : Nat} (hb : Bc k c) (hc : c ≤ 60000) (hN : 4 ≤ N ∧ N ≤ 1000) (hR : R + 2 = N) (hq : 1 ≤ sq ∧ sq ≤ 1048575) (hw : Wf L) (hst : st < R) (hu : 0 ≤ u) (hsp : u + (L.length : Int) ≤ R) (bh : CallOK Try.prog 91 [ara N R] [(0, .box (dbox m k))] (.tup [I st, I u, I 0]) [(0, some (.box (dbox m k)))]) (hE : seqE k (wsQ L R st) = 0) (hb1 : Bc (seqK k (wsQ L R st)) (c + 1000)) (hF : chk3 (seqK k (wsQ L R st)) 0 0 = 0) : CallOK Try.prog 53 [spn N, I sq, S t] [(0, .box (dbox m k))] (I (seqE (flK (seqK k (wsQ L R st)) 0) [some (1, (pk4 sq st L.length (smW sq st L.length L))), none])) [(0, some (.box (dbox m (seqK (flK (seqK k (wsQ L R st)) 0) [some (1, (pk4 sq st L.length (smW sq st L.length L))), none]))))] := by
  have op := open_ok m k N hN
  rw [show (N : Int) - 2 = (R : Int) by omega] at op
  have h1 : ¬ sq < 1 := by omega
  have h2 : ¬ sq > 1048575 := by omega
  have h3 : ¬ u + (L.length : Int) > (R : Int) := by omega
  have se := sectors_any m k N R st L.length
  have it := prp_iter_ok m k N R st sq L hb (by omega) hN hR (by omega) (by omega) hE
  have fl := sf_any m (seqK k (wsQ L R st)) N hb1 (by omega)
  rw [hF] at fl
  have so := sumOf_any sq st L.length 0 L (by omega) (by omega) (by omega) hw (by omega)
  have sb := smW_bd sq st L.length L
  have wd := word_any sq st L.length (smW sq st L.length L) ⟨by omega, by omega, by omega, by omega⟩
  have pt := put_any m (flK (seqK k (wsQ L R st)) 0) N 1 (pk4 sq st L.length (smW sq st L.length L)) R (hb1.act none) (by omega) (by omega) hN.2
  generalize smW sq st L.length L = Sm at *
  generalize pk4 sq st L.length Sm = Wd at *
  generalize seqK k (wsQ L R st) = K1 at *
  generalize flK K1 0 = K2 at *
  refine CallOK.intro Try.call53 Try.func53 rfl rfl ⟨rfl, trivial, trivial⟩ ?_
  refine Safe.gotoS mixed 37 [⟨1100, []⟩, ⟨1200, [(1, .call [0] (.tup [.agg [.ifc 170 (.agg [.ptr 0 0 0 0, I 0, I 0, I ↑N]), I ↑R], I 0]) [])]⟩, ⟨1300, []⟩, ⟨1400, [(1, .tt false), (4, .tt false)]⟩, ⟨1500, [(1, .call [] (.tup [.sl 1555 0 1 L.length none, I 0]) [(1555, some (.vec 22 1 L.length (fun q => renL [(10, 1555)] (rowG encU L q))))])]⟩, ⟨1600, []⟩, ⟨1700, [(1, .call [0] (.tup [I ↑st, I u, I 0]) [(0, some (.box (dbox m k)))])]⟩, ⟨1800, []⟩, ⟨1900, [(6, .tt false)]⟩, ⟨2000, [(4, .call [0] (.fn (Fn.func (119 : FuncId)) [] [.ptr 2070 0 0 0, .ptr 2071 0 0 0, .ptr 2072 0 0 0]) [(2070, some (.blk 3 [I ↑L.length])), (2071, some (.blk 3 [I ↑st])), (2072, some (.blk 148 [.ifc 170 (.agg [.ptr 0 0 0 0, I 0, I 0, I ↑N]), I ↑R]))])]⟩] [0, 1, 2, 3, 6, 7, 8, 9, 10, 11, 17, 18, 19, 20, 21, 22, 23, 25, 26, 27, 28, 29, 30, 31, 32, 33, 34, 35, 36, 37, 39, 40, 41, 42, 43, 44, 45, 46, 48, 49, 50, 51, 52, 53, 54, 55, 56, 57, 58, 59] [0, 1100, 1101, 1205, 1555, 1505, 2070, 2071, 2072] (sl := slotsOf 96 [(0, .ifc 170 (.agg [.ptr 0 0 0 0, I 0, I 0, I ↑N])), (1, I sq), (2, S t), (3, .ptr 1100 0 0 0), (6, .ptr 1101 0 0 0), (7, .ptr 1205 0 0 0), (8, I 0), (9, .ptr 1505 0 0 0), (10, I ↑st), (11, I u), (17, .tup [.agg [.ifc 170 (.agg [.ptr 0 0 0 0, I 0, I 0, I ↑N]), I ↑R], I 0]), (18, .ifc 170 (.agg [.ptr 0 0 0 0, I 0, I 0, I ↑N])), (19, .tup [.agg [.ifc 170 (.agg [.ptr 0 0 0 0, I 0, I 0, I ↑N]), I ↑R], I 0]), (20, .agg [.ifc 170 (.agg [.ptr 0 0 0 0, I 0, I 0, I ↑N]), I ↑R]), (21, I 0), (22, I 0), (23, B false), (25, I sq), (26, B false), (27, B false), (28, I sq), (29, B false), (30, B false), (31, .tup [.sl 1555 0 1 L.length none, I 0]), (32, S t), (33, .tup [.sl 1555 0 1 L.length none, I 0]), (34, .sl 1555 0 1 L.length none), (35, I 0), (36, I 0), (37, B false), (39, .tup [I ↑st, I u, I 0]), (40, .agg [.ifc 170 (.agg [.ptr 0 0 0 0, I 0, I 0, I ↑N]), I ↑R]), (41, .tup [I ↑st, I u, I 0]), (42, I ↑st), (43, I u), (44, I 0), (45, I 0), (46, B false), (48, I u), (49, .sl 1555 0 1 L.length none), (50, I ↑L.length), (51, I (u + (↑L.length : Int))), (52, .ptr 1205 0 0 1), (53, I ↑R), (54, B false), (55, .agg [.ifc 170 (.agg [.ptr 0 0 0 0, I 0, I 0, I ↑N]), I ↑R]), (56, I ↑st), (57, .sl 1555 0 1 L.length none), (58, I ↑L.length), (59, .fn (Fn.func (119 : FuncId)) [] [.ptr 2070 0 0 0, .ptr 2071 0 0 0, .ptr 2072 0 0 0])]) (hp := [(0, .box (dbox m k)), (1100, .blk 43 [.ifc 170 (.agg [.ptr 0 0 0 0, I 0, I 0, I ↑N])]), (1101, .blk 29 [I 0]), (1205, .blk 148 [.ifc 170 (.agg [.ptr 0 0 0 0, I 0, I 0, I ↑N]), I ↑R]), (1555, .vec 22 1 L.length (fun q => renL [(10, 1555)] (rowG encU L q))), (1505, .blk 25 [.sl 1555 0 1 L.length none]), (2070, .blk 3 [I ↑L.length]), (2071, .blk 3 [I ↑st]), (2072, .blk 148 [.ifc 170 (.agg [.ptr 0 0 0 0, I 0, I 0, I ↑N]), I ↑R])]) (ob := [CallOK Try.prog 85 ([] ++ [.ifc 170 (.agg [.ptr 0 0 0 0, I 0, I 0, I ↑N])] ++ []) [(0, .box (dbox m k))] (.tup [.agg [.ifc 170 (.agg [.ptr 0 0 0 0, I 0, I 0, I ↑N]), I ↑R], I 0]) [], decide (sq < (1 : Int)) = false, decide (sq > (1048575 : Int)) = false, CallOK Try.prog 90 ([] ++ [AV.val (Value.string t)] ++ []) [] (.tup [.sl 1555 0 1 L.length none, I 0]) [(1555, some (.vec 22 1 L.length fun q => renL [(10, 1555)] (rowG encU L q)))], CallOK Try.prog 91 ([] ++ [.agg [.ifc 170 (.agg [.ptr 0 0 0 0, I 0, I 0, I ↑N]), I ↑R]] ++ []) [(0, .box (dbox m k))] (.tup [I ↑st, I u, I 0]) [(0, some (.box (dbox m k)))], inK IntKind.i64 (u + (↑L.length : Int)), decide (u + (↑L.length : Int) > (↑R : Int)) = false, CallOK Try.prog 92 ([] ++ [.agg [.ifc 170 (.agg [.ptr 0 0 0 0, I 0, I 0, I ↑N]), I ↑R], I ↑st, I ↑L.length] ++ []) [(0, .box (dbox m k))] (AV.fn (Fn.func (119 : FuncId)) [] [.ptr 2070 0 0 0, .ptr 2071 0 0 0, .ptr 2072 0 0 0]) [(2070, some (.blk 3 [I ↑L.length])), (2071, some (.blk 3 [I ↑st])), (2072, some (.blk 148 [.ifc 170 (.agg [.ptr 0 0 0 0, I 0, I 0, I ↑N]), I ↑R]))]]) rfl rfl (by kernel_rfl) ⟨op, (decide_eq_false h1), (decide_eq_false h2), (CallOK.ren tb [(10, 1555)] [10] rfl rfl rfl rfl trivial rfl ⟨rfl, fun _ => rfl, trivial⟩), bh, (by simp only [inK]; omega), (decide_eq_false h3), (CallOK.ren se [(0, 0), (10, 2070), (11, 2071), (12, 2072)] [0, 10, 11, 12] rfl rfl rfl rfl ⟨rfl, trivial, trivial⟩ rfl ⟨rfl, trivial, rfl, rfl, rfl, rfl, rfl, rfl, trivial⟩), trivial⟩ rfl ⟨rfl, trivial, rfl, rfl, rfl, rfl, rfl, rfl, rfl, closed_renN (fun _ => rfl), rfl, rfl, rfl, rfl, rfl, rfl, rfl, rfl, trivial⟩ ?_
  refine Safe.ren [(1100, 20), (1101, 21), (1205, 22), (1505, 23), (1555, 30), (2070, 26), (2071, 27), (2072, 28)] rfl rfl rfl rfl ⟨rfl, trivial, rfl, rfl, rfl, rfl, rfl, rfl, rfl, fun _ => rfl, rfl, rfl, rfl, rfl, rfl, rfl, rfl, rfl, trivial⟩ ?_
  refine Safe.here (.code (.rangeFunc (.tmp 59) (rfPs Try.f53 0) (rfAs Try.f53 0) (rfBd Try.f53 0)) :: rfK Try.f53 0) (by kernel_rfl) ?_
  refine Safe.leH (sl' := (slotsOf 96 [(1, I sq), (3, .ptr 20 0 0 0), (6, .ptr 21 0 0 0), (7, .ptr 22 0 0 0), (9, .ptr 23 0 0 0), (10, I st), (59, .fn (.func 119) [] [.ptr 26 0 0 0, .ptr 27 0 0 0, .ptr 28 0 0 0])])) (hp' := [(0, .box (dbox m k)), (20, .blk 43 [spn N]), (21, .blk 29 [I 0]), (22, .blk 148 [spn N, I R]), (23, .blk 25 [.sl 30 0 1 L.length none]), (26, .blk 3 [I L.length]), (27, .blk 3 [I st]), (28, .blk 148 [spn N, I R]), (30, .vec 22 1 L.length (rowG encU L))]) (dom' := idsOf [(0, .box (dbox m k)), (20, .blk 43 [spn N]), (21, .blk 29 [I 0]), (22, .blk 148 [spn N, I R]), (23, .blk 25 [.sl 30 0 1 L.length none]), (26, .blk 3 [I L.length]), (27, .blk 3 [I st]), (28, .blk 148 [spn N, I R]), (30, .vec 22 1 L.length (rowG encU L))]) ?_ rfl ?_ ⟨?_, ?_, ?_, ?_, ?_, ?_, ?_, ?_, ?_, trivial⟩ rfl ⟨rfl, trivial, rfl, rfl, rfl, rfl, rfl, rfl, rfl, rfl, rfl, rfl, rfl, rfl, rfl, rfl, rfl, fun _ => rfl, trivial⟩
  rotate_left
  · repeat (first | exact ⟨rfl, trivial⟩ | refine ⟨rfl, ?_⟩ | refine ⟨trivial, ?_⟩ | exact trivial)
  · exact ObLe.refl _
  · exact ObLe.refl _
  · exact ObLe.refl _
  · exact ObLe.refl _
  · exact ObLe.refl _
  · exact ObLe.refl _
  · exact ObLe.refl _
  · exact ObLe.refl _
  · exact ⟨rfl, rfl, rfl, fun _ _ => rfl⟩
  refine Safe.rangeF (t := 59) (pe := none) (outs2 := [(0, some (.box (dbox m (seqK K2 [some (1, Wd), none])))), (20, none), (21, none), (22, none), (23, none), (26, none), (27, none), (28, none), (30, none)]) (sl1 := (slotsOf 96 [(1, I sq), (3, .ptr 20 0 0 0), (6, .ptr 21 0 0 0), (7, .ptr 22 0 0 0), (9, .ptr 23 0 0 0), (10, I st)])) 99 [(0, .box (dbox m K1)), (20, .blk 43 [spn N]), (21, .blk 29 [I 0]), (22, .blk 148 [spn N, I R]), (23, .blk 25 [.sl 30 0 1 L.length none]), (26, .blk 3 [I L.length]), (27, .blk 3 [I st]), (28, .blk 148 [spn N, I R]), (30, .vec 22 1 L.length (rowG encU L))] ?_ rfl rfl rfl it rfl rfl (by decide) (fun id => rfl) rfl rfl rfl ⟨rfl, trivial, rfl, rfl, rfl, rfl, rfl, rfl, rfl, rfl, rfl, rfl, rfl, rfl, rfl, rfl, rfl, fun _ => rfl, trivial⟩ ⟨ObLe.refl _, trivial⟩ ⟨rfl, trivial, trivial⟩ rfl fun r => ?_
  · repeat (first | exact ⟨rfl, trivial⟩ | refine ⟨rfl, ?_⟩ | refine ⟨trivial, ?_⟩ | exact trivial)
  clear it bh hb se tb op
  refine Safe.ends mixed Try.func53 14 [⟨1100, [(1, .inv 167 (.agg [.ptr 0 0 0 0, I 0, I 0, I ↑N]) [0] (I 0) [(0, some (.box (dbox m K2)))])]⟩, ⟨1200, []⟩, ⟨1300, []⟩, ⟨1400, [(2, .call [30] (U Sm) [])]⟩, ⟨1500, [(2, .call [] (U Wd) []), (3, .call [0] (I (seqE K2 [some ((1 : Int), Wd), none])) [(0, some (.box (dbox m (seqK K2 [some ((1 : Int), Wd), none]))))])]⟩] (r := I (seqE K2 [some ((1 : Int), Wd), none])) (hp := [(0, .box (dbox m (seqK K2 [some ((1 : Int), Wd), none])))]) (ob := [MethOK Try.prog "Flush" (.ifc 170 (.agg [.ptr 0 0 0 0, I 0, I 0, I ↑N])) 167 (.agg [.ptr 0 0 0 0, I 0, I 0, I ↑N]), CallOK Try.prog 167 [.agg [.ptr 0 0 0 0, I 0, I 0, I ↑N]] [(0, .box (dbox m K1))] (I 0) [(0, some (.box (dbox m K2)))], inK IntKind.u64 sq, inK IntKind.u64 (↑st : Int), inK IntKind.u64 (↑L.length : Int), CallOK Try.prog 93 ([] ++ [.agg [U sq, U (↑st : Int), U (↑L.length : Int), U (0 : Int)], .sl 30 0 1 L.length none] ++ []) [(30, .vec 22 1 L.length (rowG encU L))] (U Sm) [], (0 : Int) ≤ (3 : Int) ∧ (3 : Int) < (↑(4 : Nat) : Int), CallOK Try.prog 94 ([] ++ [.agg [U sq, U (↑st : Int), U (↑L.length : Int), U Sm]] ++ []) [] (U Wd) [], CallOK Try.prog 86 ([] ++ [.agg [.ifc 170 (.agg [.ptr 0 0 0 0, I 0, I 0, I ↑N]), I ↑R], ofV (Value.int IntKind.i64 (1 : Int)), U Wd] ++ []) [(0, .box (dbox m K2))] (I (seqE K2 [some ((1 : Int), Wd), none])) [(0, some (.box (dbox m (seqK K2 [some ((1 : Int), Wd), none]))))]]) rfl (by kernel_rfl) ⟨(MethOK.of (by kernel_rfl)), fl, (by simp only [inK]; omega), (by simp only [inK]; omega), (by simp only [inK]; omega), (CallOK.ren (CallOK.own 22 0 (es := 1) (n := L.length) (row := rowG encU L) rfl rfl rfl so) [(0, 30)] [0] rfl rfl rfl rfl ⟨rfl, fun _ => rfl, trivial⟩ rfl ⟨rfl, fun _ => rfl, trivial⟩), (by omega), wd, pt, trivial⟩ rfl ⟨ObLe.refl _, trivial⟩ ⟨rfl, trivial, trivial⟩ rfl
end Go.Proofs.Ytbgbjgedjmhcaaa
namespace Go.Proofs.Ytbgbjgedjmhcaaa
open OldD (Dk Un Wr hs chk3 chk4 rdV wrE wrK flK reK stF)
def dec (f : Int) : Int := if 0 < f then f - 1 else f
def updV (v : Nat → Int) (t : Nat) (x : Int) : Nat → Int := fun u => if u = t then x else v u
structure Q1 (k : Dk) (N c : Nat) (v w : Nat → Int) (f : Int) (T : Nat → Prop) : Prop where
  g : Gk k 1 (fun _ => N) c
  dn : k.down = false
  fu : k.fuse = f
  nv : ∀ t, t < N → nw k 0 t = v t
  dv : ∀ t, t < N → du k 0 t = w t
  ft : ∀ x ∈ k.F, T x.at'
structure C1 (k : Dk) (N c : Nat) (w : Nat → Int) (T : Nat → Prop) : Prop where
  g : Gk k 1 (fun _ => N) c
  dv : ∀ t, t < N → du k 0 t = w t
  ft : ∀ x ∈ k.F, T x.at'
theorem Q1.c1 {k : Dk} {N c : Nat} {v w : Nat → Int} {f : Int} {T : Nat → Prop} (h : Q1 k N c v w f T) : C1 k N c w T := ⟨h.g, h.dv, h.ft⟩
theorem Q1.bc {k : Dk} {N c : Nat} {v w : Nat → Int} {f : Int} {T : Nat → Prop} (h : Q1 k N c v w f T) : Bc k c := ⟨h.g.fz, h.g.fl, h.g.wr.1, h.g.wr.2⟩
theorem wrK_fuse (k : Dk) (t x : Int) (hc : chk3 k 0 t = 0) (hf : k.fuse ≠ 1) : (wrK k 0 t x).fuse = dec k.fuse := by
  unfold wrK
  rw [if_pos hc, if_neg hf]
  rfl
theorem Q1.w {k : Dk} {N c : Nat} {v w : Nat → Int} {f : Int} {T : Nat → Prop} (h : Q1 k N c v w f T) (hf : f ≠ 1) (t : Nat) (ht : t < N) (x : Int) (T' : Nat → Prop) (hT : ∀ u, T u ∨ u = t → T' u) :
    wrE k 0 (t : Int) = 0 ∧ Q1 (wrK k 0 (t : Int) x) N (c + 1) (updV v t x) w (dec f) T' := by
  have hf' : k.fuse ≠ 1 := by rw [h.fu]; exact hf
  obtain ⟨e0, g, dn, eF, en, ed⟩ := h.g.wr_ok h.dn hf' (d := 0) (t := t) (by omega) ht x
  have ck := (h.g.chk h.dn (d := 0) (t := t) (by omega) ht).1
  refine ⟨e0, g, dn, ?_, fun u hu => ?_, fun u hu => ?_, fun y hy => ?_⟩
  · rw [← h.fu]; exact wrK_fuse k t x ck hf'
  · have := en 0 u
    simp only [true_and] at this
    show nw _ 0 u = updV v t x u
    unfold updV
    rw [← h.nv u hu]
    exact this
  · exact (ed 0 u).trans (h.dv u hu)
  · have hy : y ∈ k.F ++ [(⟨0, t, x⟩ : Wr)] := by rw [← eF]; exact hy
    rcases List.mem_append.1 hy with hy | hy
    · exact hT _ (.inl (h.ft y hy))
    · rw [List.mem_singleton.1 hy]; exact hT _ (.inr rfl)
theorem Q1.x {k : Dk} {N c : Nat} {v w : Nat → Int} {T : Nat → Prop} (h : Q1 k N c v w 1 T) (t : Nat) (ht : t < N) (x : Int) :
    wrE k 0 (t : Int) = 5 ∧ C1 (wrK k 0 (t : Int) x) N c w T := by
  obtain ⟨e0, g, eF, ed⟩ := h.g.wr_no h.dn h.fu (d := 0) (t := t) (by omega) ht x
  exact ⟨e0, g, fun u hu => (ed 0 u).trans (h.dv u hu), fun y hy => h.ft y (by rw [← eF]; exact hy)⟩
theorem Q1.f {k : Dk} {N c : Nat} {v w : Nat → Int} {f : Int} {T : Nat → Prop} (h : Q1 k N c v w f T) (hN : 1 ≤ N) : chk3 k 0 0 = 0 ∧ Q1 (flK k 0) N c v v f (fun _ => False) := by
  obtain ⟨e0, g, dn, ef, eF, en, ed⟩ := h.g.flush h.dn (d := 0) (by omega) (show 0 < N by omega)
  refine ⟨e0, g, dn, ef.trans h.fu, fun u hu => (en 0 u).trans (h.nv u hu), fun u hu => ?_, fun y hy => ?_⟩
  · have := ed 0 u (by omega) hu
    rw [if_pos rfl] at this
    exact this.trans (h.nv u hu)
  · have hy : y ∈ stF k.F 0 := by rw [← eF]; exact hy
    unfold stF at hy
    rw [List.mem_filter] at hy
    have h1 := (h.g.FI y hy.1).1
    have h2 : y.d ≠ 0 := by simpa using hy.2
    omega
theorem C1.back {k : Dk} {N c : Nat} {w : Nat → Int} {T : Nat → Prop} (h : C1 k N c w T) (kp : Nat → Bool) :
    Gk (reK k kp) 1 (fun _ => N) c ∧ (reK k kp).down = false ∧ ∀ t, t < N → ¬ T t → nw (reK k kp) 0 t = w t := by
  obtain ⟨g, dn, eF, e1, e2⟩ := h.g.back kp
  refine ⟨g, dn, fun t ht hT => ?_⟩
  rcases e2 0 t (by omega) ht with e | ⟨y, y1, y2, y3, y4⟩
  · rw [e]; exact h.dv t ht
  · exact absurd (y3 ▸ h.ft y y1) hT
def ovA (v : Nat → Int) : List Act1 → Nat → Int
  | [] => v
  | some x :: r => ovA (updV v x.1.toNat x.2) r
  | none :: r => ovA v r
end Go.Proofs.Ytbgbjgedjmhcaaa
namespace Go.Proofs.Ytbgbjgedjmhcaaa
open Go.RowKit
open OldD (Dk chk3 chk4 rdV wrE wrK flK)
theorem prep_gen (m : Nat) (k : Dk) (N R st : Nat) (sq u : Int) (t : ByteArray) (L : List Int) (tb : CallOK Try.prog 90 [S t] [] (.tup [.sl 10 0 1 L.length none, I 0]) [(10, some (.vec 22 1 L.length (rowG encU L)))]) {c : Nat} (hb : Bc k c) (hc : c ≤ 60000) (hN : 4 ≤ N ∧ N ≤ 1000) (hR : R + 2 = N) (hq : 1 ≤ sq ∧ sq ≤ 1048575) (hw : Wf L) (hst : st < R) (hu : 0 ≤ u) (hsp : u + (L.length : Int) ≤ R) (bh : CallOK Try.prog 91 [ara N R] [(0, .box (dbox m k))] (.tup [I st, I u, I 0]) [(0, some (.box (dbox m k)))]) :
    CallOK Try.prog 53 [spn N, I sq, S t] [(0, .box (dbox m k))] (I (seqE k (prA L R st sq))) [(0, some (.box (dbox m (seqK k (prA L R st sq)))))] := by
  have hb1 : Bc (seqK k (wsQ L R st)) (c + 1000) := (Bc.seq (wsQ L R st) hb).mono (by rw [wsQ_len]; omega)
  unfold prA
  rw [(seq_app _ _ _).1, (seq_app _ _ _).2]
  by_cases hE : seqE k (wsQ L R st) = 0
  · rw [if_pos hE, if_pos hE, seqE_cons, seqK_cons]
    by_cases hF : chk3 (seqK k (wsQ L R st)) 0 0 = 0
    · have hF' : actE (seqK k (wsQ L R st)) none = 0 := hF
      rw [if_pos hF', if_pos hF']
      exact prep_yes m k N R st sq u t L tb hb hc hN hR hq hw hst hu hsp bh hE hb1 hF
    · have hF' : ¬ actE (seqK k (wsQ L R st)) none = 0 := hF
      rw [if_neg hF', if_neg hF']
      exact prep_fl m k N R st sq u t L tb hb hc hN hR hq hw hst hu hsp bh hE hb1 hF
  · rw [if_neg hE, if_neg hE]
    exact prep_no m k N R st sq u t L tb hb hc hN hR hq hw hst hu hsp bh hE
theorem wsT_run {N : Nat} {w : Nat → Int} {T : Nat → Prop} : ∀ (A : List Act1) (k : Dk) (c : Nat) (v : Nat → Int) (f : Int), (∀ a ∈ A, ∃ (t : Nat) (x : Int), a = some ((t : Int), x) ∧ T t ∧ t < N) → Q1 k N c v w f T →
    (seqE k A = 0 ∧ ∃ f', Q1 (seqK k A) N (c + A.length) (ovA v A) w f' T ∧ (f = 0 → f' = 0)) ∨ (f ≠ 0 ∧ seqE k A = 5 ∧ C1 (seqK k A) N (c + A.length) w T)
  | [], k, c, v, f, _, h => .inl ⟨rfl, f, h, fun e => e⟩
  | a :: r, k, c, v, f, hA, h => by
    obtain ⟨t, x, rfl, h1, h2⟩ := hA a (List.mem_cons_self ..)
    by_cases hf : f = 1
    · subst hf
      obtain ⟨e0, cr⟩ := h.x t h2 x
      refine .inr ⟨by decide, ?_, ?_⟩
      · show (if wrE k 0 (t : Int) = 0 then _ else wrE k 0 (t : Int)) = 5
        rw [e0]; rfl
      · have e : seqK k (some ((t : Int), x) :: r) = wrK k 0 (t : Int) x := by
          show (if wrE k 0 (t : Int) = 0 then _ else wrK k 0 (t : Int) x) = _
          rw [e0]; rfl
        rw [e]
        exact ⟨cr.g.mono (by omega), cr.dv, cr.ft⟩
    · obtain ⟨e0, q⟩ := h.w hf t h2 x T (fun u hu => by rcases hu with hu | hu; exact hu; rw [hu]; exact h1)
      have eE : seqE k (some ((t : Int), x) :: r) = seqE (wrK k 0 (t : Int) x) r := by
        show (if wrE k 0 (t : Int) = 0 then seqE (wrK k 0 (t : Int) x) r else _) = _
        rw [e0]; rfl
      have eK : seqK k (some ((t : Int), x) :: r) = seqK (wrK k 0 (t : Int) x) r := by
        show (if wrE k 0 (t : Int) = 0 then seqK (wrK k 0 (t : Int) x) r else _) = _
        rw [e0]; rfl
      rw [eE, eK]
      have e2 : ovA v (some ((t : Int), x) :: r) = ovA (updV v t x) r := by
        show ovA (updV v (t : Int).toNat x) r = _
        rw [Int.toNat_natCast]
      rw [e2]
      rcases wsT_run r _ (c + 1) (updV v t x) (dec f) (fun a ha => hA a (List.mem_cons_of_mem _ ha)) q with ⟨q1, f', q2, q3⟩ | ⟨q0, q1, q2⟩
      · exact .inl ⟨q1, f', ⟨q2.g.mono (by simp only [List.length_cons]; omega), q2.dn, q2.fu, q2.nv, q2.dv, q2.ft⟩, fun e => q3 (by rw [e]; rfl)⟩
      · exact .inr ⟨fun e => q0 (by rw [e]; rfl), q1, ⟨q2.g.mono (by simp only [List.length_cons]; omega), q2.dv, q2.ft⟩⟩
theorem put_run {k : Dk} {N c : Nat} {v : Nat → Int} {f : Int} (h : Q1 k N c v v f (fun _ => False)) (hN : 1 ≤ N) (t : Nat) (ht : t < N) (x : Int) :
    (seqE k [some ((t : Int), x), none] = 0 ∧ ∃ f', Q1 (seqK k [some ((t : Int), x), none]) N (c + 1) (updV v t x) (updV v t x) f' (fun _ => False) ∧ (f = 0 → f' = 0)) ∨
    (f ≠ 0 ∧ seqE k [some ((t : Int), x), none] = 5 ∧ C1 (seqK k [some ((t : Int), x), none]) N (c + 1) v (fun _ => False)) := by
  have W0 : seqE k [some ((t : Int), x), none] = (if wrE k 0 (t : Int) = 0 then seqE (wrK k 0 (t : Int) x) [none] else wrE k 0 (t : Int)) ∧ seqK k [some ((t : Int), x), none] = (if wrE k 0 (t : Int) = 0 then seqK (wrK k 0 (t : Int) x) [none] else wrK k 0 (t : Int) x) := ⟨rfl, rfl⟩
  rw [W0.1, W0.2]
  by_cases hf : f = 1
  · subst hf
    obtain ⟨e0, cr⟩ := h.x t ht x
    rw [e0, if_neg (show ¬ (5 : Int) = 0 by decide), if_neg (show ¬ (5 : Int) = 0 by decide)]
    exact .inr ⟨by decide, rfl, ⟨cr.g.mono (by omega), cr.dv, cr.ft⟩⟩
  · obtain ⟨e0, q⟩ := h.w hf t ht x (fun u => u = t) (fun u hu => by rcases hu with hu | hu; exact hu.elim; exact hu)
    rw [e0, if_pos rfl, if_pos rfl]
    generalize wrK k 0 (t : Int) x = K5 at q ⊢
    obtain ⟨e5, q6⟩ := q.f (by omega)
    have e7 : seqE K5 [none] = 0 ∧ seqK K5 [none] = flK K5 0 := ⟨by show (if chk3 K5 0 0 = 0 then _ else _) = _; rw [e5]; rfl, by show (if chk3 K5 0 0 = 0 then _ else _) = _; rw [e5]; rfl⟩
    rw [e7.1, e7.2]
    exact .inl ⟨rfl, dec f, ⟨q6.g.mono (by omega), q6.dn, q6.fu, q6.nv, q6.dv, q6.ft⟩, fun e => by rw [e]; rfl⟩
def Pl (R st n : Nat) (p : Nat) : Prop := ∃ i, i < n ∧ p = plc R st i
theorem wsQ_all (L : List Int) (R st N : Nat) (hR : R + 2 = N) (h1 : 1 ≤ R) : ∀ a ∈ wsQ L R st, ∃ (t : Nat) (x : Int), a = some ((t : Int), x) ∧ Pl R st L.length t ∧ t < N := by
  intro a ha
  simp only [wsQ, List.mem_map, List.mem_range] at ha
  obtain ⟨i, hi, rfl⟩ := ha
  have := plc_bd R st i h1
  exact ⟨plc R st i, _, rfl, ⟨i, hi, rfl⟩, by omega⟩
def prW (L : List Int) (st : Nat) (sq : Int) : Int := pk4 sq st L.length (smW sq st L.length L)
def prV (v : Nat → Int) (L : List Int) (R st : Nat) (sq : Int) : Nat → Int := updV (ovA v (wsQ L R st)) 1 (prW L st sq)
theorem prep_run {k : Dk} {N c : Nat} {v : Nat → Int} {f : Int} (h : Q1 k N c v v f (fun _ => False)) (L : List Int) (R st : Nat) (sq : Int) (hR : R + 2 = N) (h1 : 1 ≤ R) :
    (seqE k (prA L R st sq) = 0 ∧ ∃ f', Q1 (seqK k (prA L R st sq)) N (c + L.length + 1) (prV v L R st sq) (prV v L R st sq) f' (fun _ => False) ∧ (f = 0 → f' = 0)) ∨
    (f ≠ 0 ∧ seqE k (prA L R st sq) = 5 ∧ ∃ w T, C1 (seqK k (prA L R st sq)) N (c + L.length + 1) w T ∧ ((w = v ∧ T = Pl R st L.length) ∨ (w = ovA v (wsQ L R st) ∧ T = fun _ => False))) := by
  have q0 : Q1 k N c v v f (Pl R st L.length) := ⟨h.g, h.dn, h.fu, h.nv, h.dv, fun x hx => (h.ft x hx).elim⟩
  unfold prA
  rw [(seq_app _ _ _).1, (seq_app _ _ _).2]
  rcases wsT_run (wsQ L R st) k c v f (wsQ_all L R st N hR h1) q0 with ⟨r1, f', r2, r3⟩ | ⟨r0, r1, r2⟩
  · rw [wsQ_len] at r2
    rw [r1, if_pos rfl, if_pos rfl]
    generalize seqK k (wsQ L R st) = K3 at r2 ⊢
    obtain ⟨e3, r2⟩ := r2.f (by omega)
    rw [seqE_cons, seqK_cons, show actE K3 none = 0 from e3, if_pos rfl, if_pos rfl]
    show (seqE (flK K3 0) [some (((1 : Nat) : Int), prW L st sq), none] = 0 ∧ ∃ f', Q1 (seqK (flK K3 0) [some (((1 : Nat) : Int), prW L st sq), none]) _ _ _ _ _ _ ∧ _) ∨ (_ ∧ seqE (flK K3 0) [some (((1 : Nat) : Int), prW L st sq), none] = 5 ∧ ∃ w T, C1 (seqK (flK K3 0) [some (((1 : Nat) : Int), prW L st sq), none]) _ _ _ _ ∧ _)
    generalize flK K3 0 = K4 at r2 ⊢
    rcases put_run r2 (by omega) 1 (by omega) (prW L st sq) with ⟨p1, f2, p2, p3⟩ | ⟨p0, p1, p2⟩
    · exact .inl ⟨p1, f2, p2, fun e => p3 (r3 e)⟩
    · exact .inr ⟨fun e => p0 (r3 e), p1, _, _, p2, .inr ⟨rfl, rfl⟩⟩
  · rw [wsQ_len] at r2
    rw [r1, if_neg (show ¬ (5 : Int) = 0 by decide), if_neg (show ¬ (5 : Int) = 0 by decide)]
    exact .inr ⟨r0, rfl, _, _, ⟨r2.g.mono (by omega), r2.dv, r2.ft⟩, .inl ⟨rfl, rfl⟩⟩
end Go.Proofs.Ytbgbjgedjmhcaaa
namespace Go.Proofs.Ytbgbjgedjmhcaaa
open Go.RowKit
open OldD (Dk chk3 chk4 rdV wrE wrK flK reK)
theorem mod2 (a R : Nat) (h : a < 2 * R) : a % R = if a < R then a else a - R := by
  split
  · rename_i h1; exact Nat.mod_eq_of_lt h1
  · rename_i h1
    rw [Nat.mod_eq_sub_mod (by omega), Nat.mod_eq_of_lt (by omega)]
theorem plc_inj {R st i j : Nat} (hs : st < R) (hi : i < R) (hj : j < R) (h : plc R st i = plc R st j) : i = j := by
  unfold plc at h
  rw [mod2 _ R (by omega), mod2 _ R (by omega)] at h
  split at h <;> split at h <;> omega
theorem plc_add (R a b j : Nat) : plc R ((a + b) % R) j = plc R a (b + j) := by
  unfold plc
  rw [Nat.mod_add_mod, Nat.add_assoc]
theorem wsP_ext {v v' : Nat → Int} {R st : Nat} : ∀ n, (∀ i, i < n → v (plc R st i) = v' (plc R st i)) → wsP v R st n = wsP v' R st n
  | 0, _ => rfl
  | n + 1, h => by simp only [wsP, wsP_ext n fun i hi => h i (by omega), h n (by omega)]
theorem wsP_get {v : Nat → Int} {R st : Nat} : ∀ n i, i < n → (wsP v R st n).getD i default = v (plc R st i)
  | n + 1, i, hi => by
    have hl := wsP_len v R st n
    simp only [wsP]
    rw [List.getD_eq_getElem?_getD]
    by_cases e : i < n
    · rw [List.getElem?_append_left (by omega), ← List.getD_eq_getElem?_getD]
      exact wsP_get n i e
    · obtain rfl : i = n := by omega
      rw [List.getElem?_append_right (by omega), hl, Nat.sub_self]
      rfl
theorem wsP_is {v : Nat → Int} {R st : Nat} {L : List Int} (h : ∀ i, i < L.length → v (plc R st i) = L.getD i default) : wsP v R st L.length = L := by
  have hl := wsP_len v R st L.length
  refine List.ext_getElem hl fun i h1 h2 => ?_
  have e := wsP_get (v := v) (R := R) (st := st) L.length i h2
  rw [h i h2, List.getD_eq_getElem?_getD, List.getElem?_eq_getElem h1, List.getD_eq_getElem?_getD, List.getElem?_eq_getElem h2] at e
  exact e
theorem Wh.ext {v v' : Nat → Int} {R : Nat} {w : Int} {t : ByteArray} (h : Wh v R w t) (e : ∀ i, i < n2 w → v (plc R (n1 w) i) = v' (plc R (n1 w) i)) : Wh v' R w t := by
  have e2 := wsP_ext (n2 w) e
  unfold Wh at h ⊢
  rw [← e2]
  exact h
theorem Wh.len {v : Nat → Int} {R : Nat} {w : Int} {t : ByteArray} (h : Wh v R w t) : n2 w = ln t.size := by
  have := h.2.1.2.2
  rw [wsP_len] at this
  exact this
theorem Wh.size {v : Nat → Int} {R : Nat} {w : Int} {t : ByteArray} (h : Wh v R w t) : t.size ≤ 8192 := h.2.1.2.1
theorem ovA_app (v : Nat → Int) : ∀ (A B : List Act1), ovA v (A ++ B) = ovA (ovA v A) B
  | [], B => rfl
  | some a :: r, B => by
    show ovA (updV v a.1.toNat a.2) (r ++ B) = ovA (ovA (updV v a.1.toNat a.2) r) B
    exact ovA_app _ r B
  | none :: r, B => by
    show ovA v (r ++ B) = ovA (ovA v r) B
    exact ovA_app v r B
def wsN (L : List Int) (R st n : Nat) : List Act1 := (List.range n).map fun i => some ((plc R st i : Int), L.getD i default)
theorem wsN_at (v : Nat → Int) (L : List Int) (R st : Nat) (hs : st < R) : ∀ n, n ≤ R → (∀ i, i < n → ovA v (wsN L R st n) (plc R st i) = L.getD i default) ∧ ∀ p, ¬ Pl R st n p → ovA v (wsN L R st n) p = v p
  | 0, _ => ⟨fun i hi => by omega, fun p _ => rfl⟩
  | n + 1, hn => by
    obtain ⟨h1, h2⟩ := wsN_at v L R st hs n (by omega)
    have e : wsN L R st (n + 1) = wsN L R st n ++ [some ((plc R st n : Int), L.getD n default)] := by simp [wsN, List.range_succ]
    rw [e, ovA_app]
    have key : ∀ p, ovA (ovA v (wsN L R st n)) [some ((plc R st n : Int), L.getD n default)] p = if p = plc R st n then L.getD n default else ovA v (wsN L R st n) p := fun p => by
      show updV (ovA v (wsN L R st n)) (plc R st n : Int).toNat (L.getD n default) p = _
      rw [Int.toNat_natCast]; rfl
    refine ⟨fun i hi => ?_, fun p hp => ?_⟩
    · rw [key]
      by_cases e : i = n
      · rw [e, if_pos rfl]
      · rw [if_neg (fun e2 => e (plc_inj hs (by omega) (by omega) e2)), h1 i (by omega)]
    · rw [key, if_neg (fun e2 => hp ⟨n, by omega, e2⟩), h2 p fun ⟨i, h3, h4⟩ => hp ⟨i, by omega, h4⟩]
theorem wsQ_at (v : Nat → Int) (L : List Int) (R st : Nat) (hs : st < R) (hl : L.length ≤ R) : (∀ i, i < L.length → ovA v (wsQ L R st) (plc R st i) = L.getD i default) ∧ ∀ p, ¬ Pl R st L.length p → ovA v (wsQ L R st) p = v p := wsN_at v L R st hs L.length hl
theorem plc_two (R st i : Nat) : 2 ≤ plc R st i := by unfold plc; omega
theorem Pl.two {R st n p : Nat} (h : Pl R st n p) : 2 ≤ p := by
  obtain ⟨i, _, rfl⟩ := h
  exact plc_two R st i
theorem prV_new (v : Nat → Int) (t : ByteArray) (ht : t.size ≤ 8192) (R st : Nat) (sq : Int) (hs : st < R) (hR : R ≤ 1000) (hl : (textW t).length ≤ R) (hq : 1 ≤ sq ∧ sq ≤ 1048575) :
    let v' := prV v (textW t) R st sq
    v' 1 = prW (textW t) st sq ∧ v' 0 = v 0 ∧ ¬ v' 1 = 0 ∧ f0 (v' 1) = sq ∧ Wh v' R (v' 1) t := by
  intro v'
  obtain ⟨h1, h2, h3⟩ := textW_ok t ht
  have hln := textW_len t
  have hb := ln_bd t.size
  have hsm := smW_bd sq st (textW t).length (textW t)
  have hfit : Fit4 sq st (textW t).length (smW sq st (textW t).length (textW t)) := ⟨by omega, by omega, by omega, by omega⟩
  obtain ⟨p0, p1, p2, p3⟩ := pk4_back hfit
  obtain ⟨a1, a2⟩ := wsQ_at v (textW t) R st hs hl
  have e1 : v' 1 = prW (textW t) st sq := by show updV _ 1 _ 1 = _; simp [updV]
  have e0 : v' 0 = v 0 := by
    show updV _ 1 _ 0 = _
    rw [updV, if_neg (by omega)]
    exact a2 0 fun h => by have := h.two; omega
  have m0 : n0 (prW (textW t) st sq) = sq.toNat := by unfold n0 prW; rw [p0]
  have m1 : n1 (prW (textW t) st sq) = st := by unfold n1 prW; rw [p1]; rfl
  have m2 : n2 (prW (textW t) st sq) = (textW t).length := by unfold n2 prW; rw [p2]; rfl
  have m3 : n3 (prW (textW t) st sq) = (smW sq st (textW t).length (textW t)).toNat := by unfold n3 prW; rw [p3]
  have ew : wsP v' R st (textW t).length = textW t := wsP_is fun i hi => by
    show updV _ 1 _ (plc R st i) = _
    have := plc_two R st i
    rw [updV, if_neg (by omega)]
    exact a1 i hi
  refine ⟨e1, e0, ?_, ?_, ?_⟩
  · rw [e1]
    intro h
    have : f0 (prW (textW t) st sq) = sq := p0
    rw [h] at this
    unfold f0 at this
    omega
  · rw [e1]; exact p0
  · rw [e1]
    unfold Wh
    rw [m0, m1, m2, m3, ew]
    refine ⟨⟨by omega, by omega, hs, hl⟩, h1, h2, ?_, h3.symm⟩
    have : ((sq.toNat : Nat) : Int) = sq := by omega
    rw [this]
    omega
theorem prV_old (v : Nat → Int) (L : List Int) (R : Nat) (sq : Int) (t0 : ByteArray) (hL : n2 (v 0) + L.length ≤ R) (h : Wh v R (v 0) t0) :
    Wh (prV v L R ((n1 (v 0) + n2 (v 0)) % R) sq) R (v 0) t0 ∧ Wh (ovA v (wsQ L R ((n1 (v 0) + n2 (v 0)) % R))) R (v 0) t0 ∧ (∀ v' : Nat → Int, (∀ p, p < R + 2 → ¬ Pl R ((n1 (v 0) + n2 (v 0)) % R) L.length p → v' p = v p) → Wh v' R (v 0) t0) := by
  have hf := h.1
  have hR : 0 < R := by have := hf.2.2.1; omega
  have hst : (n1 (v 0) + n2 (v 0)) % R < R := Nat.mod_lt _ hR
  have hno : ∀ i, i < n2 (v 0) → ¬ Pl R ((n1 (v 0) + n2 (v 0)) % R) L.length (plc R (n1 (v 0)) i) := fun i hi ⟨j, hj, e⟩ => by
    rw [plc_add] at e
    have := plc_inj hf.2.2.1 (by omega) (by omega) e
    omega
  have a2 := (wsQ_at v L R _ hst (by omega)).2
  refine ⟨h.ext fun i hi => ?_, h.ext fun i hi => (a2 _ (hno i hi)).symm, fun v' hv => h.ext fun i hi => ?_⟩
  · show _ = updV _ 1 _ _
    have := plc_two R (n1 (v 0)) i
    rw [updV, if_neg (by omega), a2 _ (hno i hi)]
  · have := plc_bd R (n1 (v 0)) i (by omega)
    exact (hv _ (by omega) (hno i hi)).symm
theorem upd0_wh {v : Nat → Int} {R : Nat} {w : Int} {t : ByteArray} (x : Int) (h : Wh v R w t) : Wh (updV v 0 x) R w t := h.ext fun i hi => by
  have := plc_two R (n1 w) i
  rw [updV, if_neg (by omega)]
theorem Vw.upd {v : Nat → Int} {N t : Nat} {x : Int} (h : Vw v N) (hx : 0 ≤ x ∧ x ≤ 18446744073709551615) : Vw (updV v t x) N := fun p hp => by
  unfold updV
  split
  · exact hx
  · exact h p hp
theorem Vw.ov {N : Nat} : ∀ (A : List Act1) {v : Nat → Int}, Vw v N → (∀ a ∈ A, ∃ (t : Int) (x : Int), a = some (t, x) ∧ 0 ≤ x ∧ x ≤ 18446744073709551615) → Vw (ovA v A) N
  | [], v, h, _ => h
  | a :: r, v, h, hA => by
    obtain ⟨t, x, rfl, hx⟩ := hA a (List.mem_cons_self ..)
    exact Vw.ov r (h.upd hx) fun a ha => hA a (List.mem_cons_of_mem _ ha)
theorem Vw.ovQ {v : Nat → Int} {N : Nat} {L : List Int} {R st : Nat} (h : Vw v N) (hw : Wf L) : Vw (ovA v (wsQ L R st)) N := Vw.ov _ h fun a ha => by
  simp only [wsQ, List.mem_map, List.mem_range] at ha
  obtain ⟨i, hi, rfl⟩ := ha
  exact ⟨_, _, rfl, hw.at i⟩
theorem prW_bd (L : List Int) (st : Nat) (sq : Int) (hs : st ≤ 1000) (hl : L.length ≤ 1000) (hq : 1 ≤ sq ∧ sq ≤ 1048575) : 0 ≤ prW L st sq ∧ prW L st sq ≤ 18446744073709551615 := by
  have hsm := smW_bd sq st L.length L
  exact pk4_bd ⟨by omega, by omega, by omega, by omega⟩
theorem Vw.prV {v : Nat → Int} {N : Nat} {L : List Int} {R st : Nat} {sq : Int} (h : Vw v N) (hw : Wf L) (hs : st ≤ 1000) (hl : L.length ≤ 1000) (hq : 1 ≤ sq ∧ sq ≤ 1048575) : Vw (prV v L R st sq) N := (h.ovQ hw).upd (prW_bd L st sq hs hl hq)
end Go.Proofs.Ytbgbjgedjmhcaaa
namespace Go.Proofs.Ytbgbjgedjmhcaaa
open OldD (Dk chk3 flK)
structure Spn where
  d : Int
  s : Int
  n : Int
instance : Inhabited Spn := ⟨⟨0, 0, 0⟩⟩
def encSp (a : Nat) (x : Spn) : List AV := [.ifc 170 (.agg [.ptr a 0 0 0, I x.d, I x.s, I x.n])]
def spL (sz : Nat → Nat) (n : Nat) : List Spn := (List.range n).map fun (i : Nat) => (⟨(i : Int), 0, (sz i : Int)⟩ : Spn)
theorem spL_len (sz : Nat → Nat) (n : Nat) : (spL sz n).length = n := by simp [spL]
theorem spL_succ (sz : Nat → Nat) (n : Nat) : spL sz (n + 1) = spL sz n ++ [⟨(n : Int), 0, (sz n : Int)⟩] := by simp [spL, List.range_succ]
end Go.Proofs.Ytbgbjgedjmhcaaa
namespace Go.Proofs.Ytbgbjgedjmhcaaa
open Go.RowKit
open OldD (DA Dk Co fp Gr Row Fresh hid hd hs gu nk good ldK ge vu Ar un stF chk3 chk4 rdV wrE wrK flK)
theorem spansG (m n : Nat) (sz : Nat → Nat) (k : Dk) (hn : n ≤ 8) (hU : k.U.length = n) (hz : ∀ i, i < n → szV k (i : Int) = (sz i : Int) ∧ 1 ≤ sz i ∧ sz i ≤ 1000) :
    CallOK Try.prog 22 [.ptr 0 0 0 0] [(0, .box (dbox m k))] (.sl 10 0 1 n none) [(0, some (.box (dbox m k))), (10, some (.vec 43 1 n (rowN encSp 0 (spL sz n))))] := by
  refine CallOK.intro Try.call22 Try.func22 rfl rfl ⟨rfl, trivial, trivial⟩ ?_
  have cc := count_c m k
  rw [hU] at cc
  refine Safe.withLoop (loopAt Try.f22 0) [0, 20] 33 (fun i : Nat => [(0, .ptr 0 0 0 0), (3, .sl 20 0 1 (spL sz i).length none), (4, I i)]) (fun i => [(0, .box (dbox m k)), (20, .vec 43 1 (spL sz i).length (rowN encSp 0 (spL sz i)))]) (fun i => i ≤ n) (fun i => n - i) ?_ ?_
  · intro i hi ih
    have hl := spL_len sz i
    by_cases hlt : i < n
    · have hlt2 : (i : Int) < (n : Int) := by omega
      obtain ⟨z1, z2, z3⟩ := hz i hlt
      have sc := size_c m k i
      rw [z1] at sc
      have sp := span_ok m k i 0 (sz i) (by omega) (by unfold spFit; omega)
      refine Safe.goto mixed 18 [⟨1100, [(2, .call [0] (I ↑n) [(0, some (.box (dbox m k)))]), (3, .tt true)]⟩, ⟨1200, [(4, .call [0] (I ((↑(sz i) : Int))) [(0, some (.box (dbox m k)))]), (5, .call [0] (.tup [.ifc 170 (.agg [.ptr 0 0 0 0, I ↑i, I 0, I ((↑(sz i) : Int))]), I 0]) [(0, some (.box (dbox m k)))])]⟩, ⟨1300, []⟩, ⟨1400, []⟩, ⟨1500, []⟩] [0, 3, 4] [0, 1403] (todo' := loopAt Try.f22 0) (sl := slotsOf 33 [(0, .ptr 0 0 0 0), (3, .sl 1403 0 1 (addN (spL sz i).length 1) none), (4, I ((↑i : Int) + (1 : Int)))]) (hp := [(0, .box (dbox m k)), (1403, .vec 43 1 (addN (spL sz i).length 1) (catR (spL sz i).length (rowN encSp 0 (spL sz i)) (rowsOf [.ifc 170 (.agg [.ptr 0 0 0 0, I ↑i, I 0, I (↑(sz i) : Int)])] 1)))]) (ob := [CallOK Try.prog 59 ([] ++ [.ptr 0 0 0 0] ++ []) [(0, .box (dbox m k))] (I ↑n) [(0, some (.box (dbox m k)))], decide ((↑i : Int) < (↑n : Int)) = true, CallOK Try.prog 61 ([] ++ [.ptr 0 0 0 0, I ↑i] ++ []) [(0, .box (dbox m k))] (I (↑(sz i) : Int)) [(0, some (.box (dbox m k)))], CallOK Try.prog 60 ([] ++ [.ptr 0 0 0 0, I ↑i, ofV (Value.int IntKind.i64 (0 : Int)), I (↑(sz i) : Int)] ++ []) [(0, .box (dbox m k))] (.tup [.ifc 170 (.agg [.ptr 0 0 0 0, I ↑i, I 0, I (↑(sz i) : Int)]), I 0]) [(0, some (.box (dbox m k)))], 0 + 1 ≤ 1, (spL sz i).length = (spL sz i).length, (spL sz i).length + 1 ≤ 1099511627776, inK IntKind.i64 ((↑i : Int) + (1 : Int))]) rfl rfl (by kernel_rfl) ⟨cc, (decide_eq_true hlt2), sc, sp, (by omega), (by omega), (by omega), (by simp only [inK]; omega), trivial⟩ rfl ⟨rfl, trivial, rfl, closed_cat (fun _ => rfl) (closed_rows rfl), trivial⟩ ?_
      refine Safe.ren [(1403, 20)] rfl rfl rfl rfl ⟨rfl, trivial, rfl, closed_cat (fun _ => rfl) (closed_rows rfl), trivial⟩ ?_
      · skip
        have e2 : addN (spL sz i).length 1 = (spL sz (i + 1)).length := by rw [addN_eq, spL_len, spL_len]
        rw [e2]
        refine Safe.leH (ih (i + 1) (by omega) (by omega)) rfl (SlLe.refl _) ⟨ObLe.refl _, ?_, trivial⟩ rfl ⟨rfl, trivial, rfl, fun _ => rfl, trivial⟩
        rw [spL_succ]
        exact ob_ren_one (encSp 0) (spL sz i) ⟨(i : Int), 0, (sz i : Int)⟩ _ (by simp) (fun _ => rfl) rfl
    · have hn2 : ¬ ((i : Int) < (n : Int)) := by omega
      obtain rfl : i = n := by omega
      refine Safe.gotoE mixed 7 [⟨1100, [(2, .call [0] (I ↑i) [(0, some (.box (dbox m k)))]), (3, .tt false)]⟩, ⟨1200, []⟩] [2] [0, 20] (sl := slotsOf 33 [(2, .sl 20 0 1 ((spL sz i).length) none)]) (hp := [(0, .box (dbox m k)), (20, .vec 43 1 ((spL sz i).length) (rowN encSp 0 (spL sz i)))]) (ob := [CallOK Try.prog 59 ([] ++ [.ptr 0 0 0 0] ++ []) [(0, .box (dbox m k))] (I ↑i) [(0, some (.box (dbox m k)))], decide ((↑i : Int) < (↑i : Int)) = false]) rfl rfl (by kernel_rfl) ⟨cc, (decide_eq_false hn2), trivial⟩ rfl ⟨rfl, trivial, rfl, fun _ => rfl, trivial⟩ fun td htd => ?_
      refine Safe.ren [(20, 10)] rfl rfl rfl rfl ⟨rfl, trivial, rfl, fun _ => rfl, trivial⟩ ?_
      refine Safe.endsT Try.func22 htd (r := .sl 10 0 1 ((spL sz i).length) none) (hp := [(0, .box (dbox m k)), (10, .vec 43 1 ((spL sz i).length) (rowN encSp 0 (spL sz i)))]) (ob := []) rfl (by kernel_rfl) trivial ?_ ⟨ObLe.refl _, ?_, trivial⟩ ⟨rfl, trivial, rfl, fun _ => rfl, trivial⟩ rfl
      · rw [spL_len]; rfl
      · rw [spL_len]; exact ⟨rfl, rfl, rfl, fun _ _ => rfl⟩
  · intro H
    refine Safe.goto mixed 9 [⟨1100, []⟩, ⟨1200, []⟩, ⟨1300, []⟩] [0, 3, 4] [0] (todo' := loopAt Try.f22 0) (sl := slotsOf 33 [(0, .ptr 0 0 0 0), (3, .val (Value.slice none 0 0)), (4, I 0)]) (hp := [(0, .box (dbox m k))]) (ob := []) rfl rfl (by kernel_rfl) trivial rfl ⟨rfl, trivial, trivial⟩ ?_
    · refine Safe.nil 3 20 43 1 (rowN encSp 0 []) rfl rfl ⟨rfl, trivial, trivial⟩ ?_ rfl
      exact Safe.leH (H 0 (Nat.zero_le _)) rfl (SlLe.refl _) ⟨ObLe.refl _, ⟨rfl, rfl, rfl, fun _ _ => rfl⟩, trivial⟩ rfl ⟨rfl, trivial, rfl, fun _ => rfl, trivial⟩
end Go.Proofs.Ytbgbjgedjmhcaaa
namespace Go.Proofs.Ytbgbjgedjmhcaaa
open Go.RowKit
open OldD (DA Dk Co Un Wr fp Gr Row Fresh hid hd hs gu nk good ldK ge vu Ar un stF chk3 chk4 rdV wrE wrK flK gu_set)
def ldA (k : Dk) (j : Nat) : List (List Int) → Dk
  | [] => k
  | X :: r => ldA (ldK k j X) (j + 1) r
def dkN (LL : List (List Int)) : Dk := ldA (nk (LL.map fun X => (X.length : Int))) 0 LL
theorem ldA_all : ∀ (r : List (List Int)) (k : Dk) (j : Nat), k.U.length = j + r.length → k.F = [] → (ldA k j r).U.length = k.U.length ∧ (ldA k j r).F = [] ∧ (ldA k j r).bad = k.bad ∧ (ldA k j r).fuse = k.fuse ∧ (ldA k j r).down = k.down ∧ (ldA k j r).wr = k.wr ∧
    ∀ d, gu (ldA k j r).U d = if j ≤ d ∧ d < j + r.length then ⟨r.getD (d - j) [], r.getD (d - j) [], (gu k.U d).mis⟩ else gu k.U d
  | [], k, j, _, hF => ⟨rfl, hF, rfl, rfl, rfl, rfl, fun d => by rw [if_neg (by simp)]; rfl⟩
  | X :: r, k, j, hl, hF => by
    have h1 : (ldK k j X).U.length = (j + 1) + r.length := by simp [ldK]; simp at hl; omega
    have h2 : (ldK k j X).F = [] := by simp [ldK, hF, stF]
    obtain ⟨a1, a2, a3, a4, a5, a6, a7⟩ := ldA_all r (ldK k j X) (j + 1) h1 h2
    refine ⟨a1.trans (by simp [ldK]), a2, a3, a4, a5, a6, fun d => ?_⟩
    have hg : gu (ldK k j X).U d = if d = j then { gu k.U j with now := X, dur := X } else gu k.U d := by
      show gu (k.U.set j _) d = _
      rw [gu_set]
      by_cases e : d = j
      · rw [if_pos ⟨e, by simp at hl; omega⟩, if_pos e]
      · rw [if_neg (fun c => e c.1), if_neg e]
    show gu (ldA (ldK k j X) (j + 1) r).U d = _
    rw [a7, hg]
    by_cases e : d = j
    · subst e
      rw [if_neg (by omega), if_pos rfl, if_pos (by simp)]
      simp
    · rw [if_neg e]
      by_cases c : j + 1 ≤ d ∧ d < j + 1 + r.length
      · rw [if_pos c, if_pos (by simp; omega)]
        rw [show d - j = (d - (j + 1)) + 1 by omega]
        simp
      · rw [if_neg c, if_neg (by simp; omega)]
theorem dkN_all (LL : List (List Int)) : (dkN LL).U.length = LL.length ∧ (dkN LL).F = [] ∧ (∀ x y, (dkN LL).bad x y = false) ∧ (dkN LL).fuse = 0 ∧ (dkN LL).down = false ∧ (dkN LL).wr = 0 ∧
    ∀ d, d < LL.length → gu (dkN LL).U d = ⟨LL.getD d [], LL.getD d [], false⟩ := by
  obtain ⟨a1, a2, a3, a4, a5, a6, a7⟩ := ldA_all LL (nk (LL.map fun X => (X.length : Int))) 0 (by simp [nk]) rfl
  refine ⟨a1.trans (by simp [nk]), a2, fun x y => by show (ldA _ 0 LL).bad x y = false; rw [a3]; rfl, a4, a5, a6, fun d hd => ?_⟩
  show gu (ldA _ 0 LL).U d = _
  rw [a7, if_pos ⟨by omega, by omega⟩]
  have : (gu (nk (LL.map fun X => (X.length : Int))).U d).mis = false := by
    simp [nk, gu, un, List.getElem?_eq_getElem hd]
  rw [this]
  rfl
def szL (LL : List (List Int)) (d : Nat) : Nat := (LL.getD d []).length
theorem dkN_gk (LL : List (List Int)) : Gk (dkN LL) LL.length (szL LL) 0 ∧ (∀ d t, d < LL.length → nw (dkN LL) d t = ge (LL.getD d []) t ∧ du (dkN LL) d t = ge (LL.getD d []) t) := by
  obtain ⟨a1, a2, a3, a4, a5, a6, a7⟩ := dkN_all LL
  have key : ∀ d t, d < LL.length → nw (dkN LL) d t = ge (LL.getD d []) t ∧ du (dkN LL) d t = ge (LL.getD d []) t := fun d t hd => by
    unfold nw du
    rw [a7 d hd]
    exact ⟨rfl, rfl⟩
  refine ⟨⟨a1, (fun d hd => by rw [a7 d hd]; exact ⟨rfl, rfl⟩), (fun d hd => by rw [a7 d hd]), a3, (by rw [a4]; omega), (fun w hw => by rw [a2] at hw; cases hw), (by rw [a2]; simp), (by rw [a6]; omega), fun d t hd ht => ?_⟩, key⟩
  rw [a2, (key d t hd).1, (key d t hd).2]; rfl
end Go.Proofs.Ytbgbjgedjmhcaaa
namespace Go.Proofs.Ytbgbjgedjmhcaaa
open Go.RowKit
open OldD (DA Dk Co Un Wr fp Gr Row Fresh hid hd hs gu nk good ldK ge vu Ar un stF chk3 chk4 rdV wrE wrK flK gu_set)
theorem newc1 (x : Int) (hx : 1 ≤ x ∧ x ≤ 65536) : CallOK Try.prog 57 [.sl 1 0 1 1 none] [(1, .ro 1 1 (rowsOf [I x] 1))] (.tup [.ptr 10 0 0 0, I 0]) [(10, some (.box (dbox 0 (nk [x]))))] := by
  refine (new_c [x] (by simp) (fun i hi => by
    have : i = 0 := by simp at hi; omega
    rcases this with rfl
    · exact hx)).sim fun id => ?_
  simp only [find]
  split
  · exact ⟨⟨rfl, rfl, fun q hq => match q, hq with | 0, _ => rfl⟩, ⟨rfl, rfl, fun q hq => match q, hq with | 0, _ => rfl⟩⟩
  · exact OSim.refl _
theorem loadedN1 (X : List Int) (hx : 1 ≤ X.length ∧ X.length ≤ 1000) :
    CallOK Try.prog 21 [.sl 1 0 1 1 none] [(1, .ro 1 1 (rowsOf [.sl 2 0 1 X.length none] 1)), (2, .vec 22 1 X.length (rowG encU X))] (.ptr 10 0 0 0) [(10, some (.box (dbox 0 (dkN [X]))))] := by
  refine CallOK.intro Try.call21 Try.func21 rfl rfl ⟨rfl, fun q => closed_rows rfl q, rfl, fun _ => rfl, trivial⟩ ?_
  obtain ⟨k0, hk0⟩ : ∃ k, k = nk [(X.length : Int)] := ⟨_, rfl⟩
  obtain ⟨k1, hk1⟩ : ∃ k, k = ldK k0 0 X := ⟨_, rfl⟩
  have l0 := load_c k0 0 X (by simp [hk0, nk, ldK]) (by simp [hk0, nk, gu, un, ldK]) hx.1 (by simp [hk0, nk, ldK, stF])
  rw [← hk1] at l0
  have nc := newc1 (X.length : Int) (by omega)
  rw [← hk0] at nc
  have e : dkN [X] = k1 := by rw [hk1, hk0]; rfl
  rw [e]
  clear e hk1 hk0
  refine Safe.gotoE mixed 58 [⟨1100, []⟩, ⟨1200, []⟩, ⟨1300, []⟩, ⟨1400, []⟩, ⟨1500, []⟩, ⟨1600, []⟩, ⟨1700, []⟩, ⟨1800, [(1, .call [1507] (.tup [.ptr 1855 0 0 0, I 0]) [(1855, some (.box (dbox 0 k0)))])]⟩, ⟨1900, []⟩, ⟨2000, []⟩, ⟨2100, []⟩, ⟨2200, [(6, .call [1855, 2] (I 0) [(1855, some (.box (dbox 0 k1)))])]⟩, ⟨2300, []⟩, ⟨2400, []⟩, ⟨2500, []⟩] [2] [1, 2, 1855] (sl := slotsOf 48 [(2, .ptr 1855 0 0 0)]) (hp := [(1, .ro 1 1 (rowsOf [.sl 2 0 1 X.length none] 1)), (2, .vec 22 1 X.length (rowG encU X)), (1855, .box (dbox 0 k1))]) (ob := [(0 : Int) ≤ (0 : Int) ∧ (0 : Int) < (↑(1 : Nat) : Int), 0 < 1, 0 + 1 ≤ 1, 1 ≤ 1099511627776, inK IntKind.i64 ((0 : Int) + (1 : Int)), CallOK Try.prog 57 ([] ++ [.sl 1507 0 1 1 none] ++ []) [(1507, .vec 3 1 1 (rowsOf [I ↑X.length] 1))] (.tup [.ptr 1855 0 0 0, I 0]) [(1855, some (.box (dbox 0 k0)))], (0 : Int) ≤ (0 : Int) ∧ (0 : Int) < (↑(1 : Nat) : Int), 0 < 1, CallOK Try.prog 58 ([] ++ [.ptr 1855 0 0 0, I 0, .sl 2 0 1 X.length none] ++ []) [(1855, .box (dbox 0 k0)), (2, .vec 22 1 X.length (rowG encU X))] (I 0) [(1855, some (.box (dbox 0 k1)))], inK IntKind.i64 ((0 : Int) + (1 : Int))]) rfl rfl (by kernel_rfl) ⟨(by first | omega | assumption), (by first | omega | assumption), (by first | omega | assumption), (by first | omega | assumption), (by simp only [inK]; first | omega | assumption), (CallOK.simR (CallOK.ren (CallOK.own 3 1 (es := 1) (n := 1) (row := rowsOf [I ↑X.length] 1) rfl rfl rfl nc) [(1, 1507), (10, 1855)] [1, 10] rfl rfl rfl rfl ⟨rfl, closed_rows rfl, trivial⟩ rfl ⟨rfl, closed_rows rfl, rfl, trivial, trivial⟩) (HpSim.cons rfl (OSim.rowsV rfl) HpSim.nil)), (by first | omega | assumption), (by first | omega | assumption), (CallOK.ren l0 [(0, 1855), (1, 2)] [0, 1] rfl rfl rfl rfl ⟨rfl, trivial, rfl, fun _ => rfl, trivial⟩ rfl ⟨rfl, trivial, rfl, fun _ => rfl, trivial⟩), (by simp only [inK]; first | omega | assumption), trivial⟩ rfl ⟨rfl, closed_rows rfl, rfl, fun _ => rfl, rfl, trivial, trivial⟩ fun td htd => ?_
  refine Safe.ren [(1855, 10)] rfl rfl rfl rfl ⟨rfl, closed_rows rfl, rfl, fun _ => rfl, rfl, trivial, trivial⟩ ?_
  refine Safe.endsT Try.func21 htd (r := .ptr 10 0 0 0) (hp := [(1, .ro 1 1 (fun q => renL [(1855, 10)] (rowsOf [.sl 2 0 1 X.length none] 1 q))), (2, .vec 22 1 X.length (fun q => renL [(1855, 10)] (rowG encU X q))), (10, .box (dbox 0 k1))]) (ob := []) rfl (by kernel_rfl) trivial rfl ⟨⟨rfl, rfl, fun _ _ => by first | rfl | exact renL_rowsOf _ _ _ _⟩, ⟨rfl, rfl, rfl, fun _ _ => rfl⟩, ObLe.refl _, trivial⟩ ⟨rfl, closed_rows rfl, rfl, fun _ => rfl, rfl, trivial, trivial⟩ rfl
  all_goals exact ObLe.refl _
end Go.Proofs.Ytbgbjgedjmhcaaa
namespace Go.Proofs.Ytbgbjgedjmhcaaa
open Go.RowKit
open OldD (Dk chk3 chk4 rdV wrE wrK flK reK)
theorem Gk.szc {k : Dk} {n c : Nat} {sz sz' : Nat → Nat} (h : Gk k n sz c) (e : ∀ d, d < n → sz d = sz' d) : Gk k n sz' c :=
  ⟨h.ul, fun d hd => by rw [← e d hd]; exact h.ln d hd, h.ms, h.bd, h.fz, fun w hw => by have := h.FI w hw; exact ⟨this.1, by rw [← e _ this.1]; exact this.2⟩, h.fl, h.wr, fun d t hd ht => h.ap d t hd (by rw [e d hd]; exact ht)⟩
theorem dk1_q (X : List Int) : Q1 (dkN [X]) X.length 0 (fun t => X.getD t default) (fun t => X.getD t default) 0 (fun _ => False) := by
  obtain ⟨g, key⟩ := dkN_gk [X]
  obtain ⟨a1, a2, a3, a4, a5, a6, a7⟩ := dkN_all [X]
  have g1 : Gk (dkN [X]) 1 (fun _ => X.length) 0 := g.szc (fun d hd => by
    have : d = 0 := by simp at hd; omega
    subst this; rfl)
  exact ⟨g1, a5, a4, fun t ht => (key 0 t (by simp)).1, fun t ht => (key 0 t (by simp)).2, fun x hx => by rw [a2] at hx; cases hx⟩
theorem ldz (n : Nat) (hn : 1 ≤ n ∧ n ≤ 1000) : CallOK Try.prog 21 [.sl 1 0 1 1 none] [(1, .ro 1 1 (rowsOf [.sl 2 0 1 n none] 1)), (2, .vec 22 1 n (fun _ => List.map AV.val (Value.cells (.int .u64 0)).toList))] (.ptr 10 0 0 0) [(10, some (.box (dbox 0 (dkN [List.replicate n 0]))))] := by
  have ld := loadedN1 (List.replicate n 0) (by rw [List.length_replicate]; exact hn)
  rw [List.length_replicate] at ld
  have hr : ∀ q, q < n → rowG encU (List.replicate n 0) q = List.map AV.val (Value.cells (.int .u64 0)).toList := fun q hq => by
    show [U ((List.replicate n 0).getD q default)] = [U 0]
    rw [List.getD_eq_getElem?_getD, List.getElem?_replicate, if_pos hq]; rfl
  refine ld.sim fun id => ?_
  simp only [find]
  split
  · exact OSim.refl _
  · split
    · exact ⟨⟨rfl, rfl, rfl, fun q hq => hr q hq⟩, ⟨rfl, rfl, rfl, fun q hq => (hr q hq).symm⟩⟩
    · exact OSim.refl _
theorem spans1 (m : Nat) (k : Dk) (N : Nat) {c : Nat} (g : Gk k 1 (fun _ => N) c) (hN : 1 ≤ N ∧ N ≤ 1000) : CallOK Try.prog 22 [.ptr 0 0 0 0] [(0, .box (dbox m k))] (.sl 10 0 1 1 none) [(0, some (.box (dbox m k))), (10, some (.vec 43 1 1 (rowsOf [.ifc 170 (.agg [.ptr 0 0 0 0, I 0, I 0, I N])] 1)))] := by
  have sp := spansG m 1 (fun _ => N) k (by omega) g.ul (fun i hi => ⟨g.sz hi, hN⟩)
  refine sp.simO (OutSim.cons (OSim.refl _) (OutSim.cons ⟨⟨rfl, rfl, rfl, fun q hq => match q, hq with | 0, _ => rfl⟩, ⟨rfl, rfl, rfl, fun q hq => match q, hq with | 0, _ => rfl⟩⟩ OutSim.nil))
end Go.Proofs.Ytbgbjgedjmhcaaa
