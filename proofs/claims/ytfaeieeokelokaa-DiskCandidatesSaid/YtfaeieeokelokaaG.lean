/- What becomes of an array of disks when its cells, its disks' rows or its map are written; Fuse, SetMissing. No conditions but those of each theorem. -/
import Derived.Test.YtfaeieeokelokaaF
namespace Go.Proofs.Ytfaeieeokelokaa
open Go.ChangeShapes Go.WideShapes Go.ChangeAt Go.RowKit
set_option linter.unusedVariables false
set_option linter.unusedSimpArgs false

theorem gu_set (U : List Un) (d i : Nat) (x : Un) : gu (U.set d x) i = if i = d ∧ d < U.length then x else gu U i := by
  unfold gu
  rw [List.getElem?_set]
  by_cases h : d = i
  · subst h
    by_cases h2 : d < U.length
    · simp [h2]
    · simp [h2, List.getElem?_eq_none (Nat.not_lt.1 h2)]
  · rw [if_neg h, if_neg (by omega)]
theorem oblk_of {a : Option Addr} {n c g : Nat} (h : (Value.slice a n c).ownBlock = some g) : g ∈ oblk a := by
  cases a with
  | none => simp [Value.ownBlock] at h
  | some a => simp [Value.ownBlock] at h; simp [oblk, h]
section
variable {W W' : World} {A : Nat} {c : Co} {k : Dk} {S : List Nat}
/-- the array's own cells are written -/
theorem DA.setA (h : DA W A c k) (hg : Gr [A] W W') (fuse : Int) (down : Bool) (wr : Int) (hb : W'.ownsRow 0 78 6 (.slice (some ⟨A, 0, none⟩) 1 1) 1 [.slice c.ua k.U.length c.uc, .map (some c.mb), .slice c.fa k.F.length c.fc, .int .i64 fuse, .bool down, .int .i64 wr]) :
    DA W' A c { k with fuse := fuse, down := down, wr := wr } where
  blk := hb
  ru := own_gr h.ru hg (fun g hx => by have := oblk_of hx; intro e; obtain rfl := List.mem_singleton.1 e; exact h.sep.au this)
  rf := own_gr h.rf hg (fun g hx => by have := oblk_of hx; intro e; obtain rfl := List.mem_singleton.1 e; exact h.sep.af this)
  mp := h.mp.gr hg (by intro e; exact h.sep.am (List.mem_singleton.1 e).symm)
  rn i hi := (h.rn i hi).gr hg (by intro e; exact (h.sep.n1 i (by rw [h.lb]; exact hi)).1 (List.mem_singleton.1 e))
  rd i hi := (h.rd i hi).gr hg (by intro e; exact (h.sep.d1 i (by rw [h.lb]; exact hi)).1 (List.mem_singleton.1 e))
  lb := h.lb
  ld := h.ld
  b8 := h.b8
  bn := h.bn
  fi := h.fi
  sep := h.sep
/-- the unflushed writes are others -/
theorem DA.setF (h : DA W A c k) (fa : Option Addr) (fc : Nat) (F : List Wr) (hg : Gr (A :: oblk c.fa) W W')
    (hb : W'.ownsRow 0 78 6 (.slice (some ⟨A, 0, none⟩) 1 1) 1 [.slice c.ua k.U.length c.uc, .map (some c.mb), .slice fa F.length fc, .int .i64 k.fuse, .bool k.down, .int .i64 k.wr])
    (hf : W'.ownsRow 0 89 3 (.slice fa F.length fc) F.length (ck 3 F.length (ff F))) (hn : ∀ g ∈ oblk fa, g ∈ oblk c.fa ∨ W.heap.size ≤ g)
    (fi : ∀ i, i < F.length → (gf F i).d < k.U.length ∧ (gf F i).at' < (gu k.U (gf F i).d).now.length) :
    DA W' A { c with fa := fa, fc := fc } { k with F := F } := by
  have key : ∀ x, x ≠ A → x ∉ oblk c.fa → x ∉ A :: oblk c.fa := fun x h1 h2 h3 => by
    rcases List.mem_cons.1 h3 with h3 | h3
    · exact h1 h3
    · exact h2 h3
  have nw : ∀ x, x < W.heap.size → x ∉ oblk c.fa → x ∉ oblk fa := fun x h1 h2 h3 => by
    rcases hn x h3 with h4 | h4
    · exact h2 h4
    · omega
  have ua_lt : ∀ x, x ∈ oblk c.ua → x < W.heap.size := fun x hx => by
    have h1 := h.ru
    rcases own_blk h1 with ⟨e, _⟩ | ⟨g, e⟩
    · rw [e] at hx; cases hx
    · rw [e] at hx h1
      obtain rfl := List.mem_singleton.1 hx
      exact own_lt h1
  exact {
    blk := hb
    ru := own_gr h.ru hg (fun g hx => by have := oblk_of hx; exact key _ (fun e => h.sep.au (e ▸ this)) (h.sep.uf _ this))
    rf := hf
    mp := h.mp.gr hg (key _ (Ne.symm h.sep.am) h.sep.mf)
    rn := fun i hi => (h.rn i hi).gr hg (key _ (h.sep.n1 i (by rw [h.lb]; exact hi)).1 (h.sep.n1 i (by rw [h.lb]; exact hi)).2.2.2)
    rd := fun i hi => (h.rd i hi).gr hg (key _ (h.sep.d1 i (by rw [h.lb]; exact hi)).1 (h.sep.d1 i (by rw [h.lb]; exact hi)).2.2.2)
    lb := h.lb
    ld := h.ld
    b8 := h.b8
    bn := h.bn
    fi := fi
    sep := { h.sep with
      af := nw _ h.lt h.sep.af
      mf := nw _ h.mp.lt h.sep.mf
      uf := fun g hx => nw _ (ua_lt g hx) (h.sep.uf g hx)
      n1 := fun i hi => have hi' : i < c.bs.length := hi; ⟨(h.sep.n1 i hi').1, (h.sep.n1 i hi').2.1, (h.sep.n1 i hi').2.2.1, nw _ (h.rn i (by rw [← h.lb]; exact hi')).lt (h.sep.n1 i hi').2.2.2⟩
      d1 := fun i hi => have hi' : i < c.bs.length := hi; ⟨(h.sep.d1 i hi').1, (h.sep.d1 i hi').2.1, (h.sep.d1 i hi').2.2.1, nw _ (h.rd i (by rw [← h.lb]; exact hi')).lt (h.sep.d1 i hi').2.2.2⟩ } }
/-- the disks' rows are written -/
theorem DA.setU (h : DA W A c k) (U : List Un) (hl : U.length = k.U.length) (hg : Gr S W W') (hS : ∀ x ∈ S, x ≠ A ∧ x ≠ c.mb ∧ x ∉ oblk c.ua ∧ x ∉ oblk c.fa)
    (hu : ∀ i, i < U.length → (gu U i).now.length = (gu k.U i).now.length ∧ (gu U i).mis = (gu k.U i).mis ∧ (gu U i).dur.length = (gu U i).now.length)
    (rn : ∀ i, i < U.length → Row W' (gb c.bs i).n (gb c.bs i).cn (gu U i).now) (rd : ∀ i, i < U.length → Row W' (gb c.bs i).d (gb c.bs i).cd (gu U i).dur) :
    DA W' A c { k with U := U } where
  blk := by
    show W'.ownsRow 0 78 6 _ 1 [.slice c.ua U.length c.uc, _, _, _, _, _]
    rw [hl]
    exact own_gr h.blk hg (fun g hx => by cases hx; exact fun e => (hS _ e).1 rfl)
  ru := by
    show W'.ownsRow 0 80 3 (.slice c.ua U.length c.uc) U.length (ck 3 U.length (uf c.bs U))
    rw [hl, ck_congr (g := uf c.bs k.U) (fun i j hi hj => by unfold uf; rw [(hu i (by omega)).1, (hu i (by omega)).2.1])]
    exact own_gr h.ru hg (fun g hx => by have := oblk_of hx; exact fun e => (hS _ e).2.2.1 this)
  rf := own_gr h.rf hg (fun g hx => by have := oblk_of hx; exact fun e => (hS _ e).2.2.2 this)
  mp := h.mp.gr hg (fun e => (hS _ e).2.1 rfl)
  rn := rn
  rd := rd
  lb := by rw [hl]; exact h.lb
  ld i hi := (hu i hi).2.2
  b8 := by rw [hl]; exact h.b8
  bn i hi := by rw [(hu i hi).1]; exact h.bn i (by rw [← hl]; exact hi)
  fi i hi := by
    have h1 := h.fi i hi
    refine ⟨by rw [hl]; exact h1.1, ?_⟩
    rw [(hu _ (by rw [hl]; exact h1.1)).1]
    exact h1.2
  sep := h.sep
/-- what one write into a disk's row of values does -/
theorem DA.setNow (h : DA W A c k) {d t : Nat} (hd : d < k.U.length) (ht : t < (gu k.U d).now.length) (v : Int) :
    DA (W.setCell ⟨(gb c.bs d).n, t, none⟩ (.int .u64 v)) A c { k with U := k.U.set d { gu k.U d with now := (gu k.U d).now.set t v } } := by
  have hg := set_gr W (gb c.bs d).n t (.int .u64 v)
  have hd' : d < c.bs.length := by rw [h.lb]; exact hd
  refine h.setU _ (by simp) hg (fun x hx => by obtain rfl := List.mem_singleton.1 hx; exact h.sep.n1 d hd') (fun i hi => ?_) (fun i hi => ?_) (fun i hi => ?_)
  · have hi' : i < k.U.length := by simpa using hi
    rw [gu_set]
    by_cases e : i = d
    · subst e; rw [if_pos ⟨rfl, hi'⟩]; exact ⟨by simp, rfl, by simpa using h.ld i hi'⟩
    · rw [if_neg (by omega)]; exact ⟨rfl, rfl, h.ld i hi'⟩
  · have hi' : i < k.U.length := by simpa using hi
    rw [gu_set]
    by_cases e : i = d
    · subst e; rw [if_pos ⟨rfl, hi'⟩]; exact (h.rn i hi').set t v
    · rw [if_neg (by omega)]
      exact (h.rn i hi').gr hg (fun x => (h.sep.nn i d (by rw [h.lb]; exact hi') hd' e).1 (List.mem_singleton.1 x))
  · have hi' : i < k.U.length := by simpa using hi
    have e2 : (gu (k.U.set d { gu k.U d with now := (gu k.U d).now.set t v }) i).dur = (gu k.U i).dur := by
      rw [gu_set]
      by_cases e : i = d
      · subst e; rw [if_pos ⟨rfl, hi'⟩]
      · rw [if_neg (by omega)]
    rw [e2]
    exact (h.rd i hi').gr hg (fun x => h.sep.nd d i hd' (by rw [h.lb]; exact hi') (List.mem_singleton.1 x).symm)
theorem DA.setDur (h : DA W A c k) {d t : Nat} (hd : d < k.U.length) (v : Int) :
    DA (W.setCell ⟨(gb c.bs d).d, t, none⟩ (.int .u64 v)) A c { k with U := k.U.set d { gu k.U d with dur := (gu k.U d).dur.set t v } } := by
  have hg := set_gr W (gb c.bs d).d t (.int .u64 v)
  have hd' : d < c.bs.length := by rw [h.lb]; exact hd
  refine h.setU _ (by simp) hg (fun x hx => by obtain rfl := List.mem_singleton.1 hx; exact h.sep.d1 d hd') (fun i hi => ?_) (fun i hi => ?_) (fun i hi => ?_)
  · have hi' : i < k.U.length := by simpa using hi
    rw [gu_set]
    by_cases e : i = d
    · subst e; rw [if_pos ⟨rfl, hi'⟩]; exact ⟨rfl, rfl, by simpa using h.ld i hi'⟩
    · rw [if_neg (by omega)]; exact ⟨rfl, rfl, h.ld i hi'⟩
  · have hi' : i < k.U.length := by simpa using hi
    have e2 : (gu (k.U.set d { gu k.U d with dur := (gu k.U d).dur.set t v }) i).now = (gu k.U i).now := by
      rw [gu_set]
      by_cases e : i = d
      · subst e; rw [if_pos ⟨rfl, hi'⟩]
      · rw [if_neg (by omega)]
    rw [e2]
    exact (h.rn i hi').gr hg (fun x => h.sep.nd i d (by rw [h.lb]; exact hi') hd' (List.mem_singleton.1 x))
  · have hi' : i < k.U.length := by simpa using hi
    rw [gu_set]
    by_cases e : i = d
    · subst e; rw [if_pos ⟨rfl, hi'⟩]; exact (h.rd i hi').set t v
    · rw [if_neg (by omega)]
      exact (h.rd i hi').gr hg (fun x => (h.sep.nn i d (by rw [h.lb]; exact hi') hd' e).2 (List.mem_singleton.1 x))
/-- a disk is missing, or not -/
theorem DA.setMis (h : DA W A c k) {d ub : Nat} (hd : d < k.U.length) (hub : c.ua = some ⟨ub, 0, none⟩) (b : Bool) :
    DA (W.setCell ⟨ub, d * 3 + 2, none⟩ (.bool b)) A c { k with U := k.U.set d { gu k.U d with mis := b } } := by
  have hg := set_gr W ub (d * 3 + 2) (.bool b)
  have ho : oblk c.ua = [ub] := by rw [hub]; rfl
  have hnx : ∀ x, x ∉ oblk c.ua → x ∉ [ub] := fun x hx => by rw [ho] at hx; exact hx
  have e1 : ∀ i, (gu (k.U.set d { gu k.U d with mis := b }) i).now = (gu k.U i).now ∧ (gu (k.U.set d { gu k.U d with mis := b }) i).dur = (gu k.U i).dur := fun i => by
    rw [gu_set]
    split
    · rename_i e; rw [e.1]; exact ⟨rfl, rfl⟩
    · exact ⟨rfl, rfl⟩
  have hru := h.ru
  rw [hub] at hru
  have h2 := (World.ownsRow.stored hru (d * 3 + 2) (.bool b)).1
  rw [ck_set _ (by omega)] at h2
  exact {
    blk := by
      show World.ownsRow _ 0 78 6 _ 1 [.slice c.ua (k.U.set d _).length c.uc, _, _, _, _, _]
      rw [List.length_set]
      exact own_gr h.blk hg (fun g hx => by cases hx; exact hnx _ h.sep.au)
    ru := by
      show World.ownsRow _ 0 80 3 (.slice c.ua (k.U.set d _).length c.uc) (k.U.set d _).length (ck 3 (k.U.set d _).length (uf c.bs (k.U.set d _)))
      rw [List.length_set, hub]
      rw [ck_congr (g := fun a b' => if a = d ∧ b' = 2 then .bool b else uf c.bs k.U a b') (fun i j hi hj => ?_)]
      · exact h2
      · unfold uf
        rw [(e1 i).1]
        by_cases e : i = d ∧ j = 2
        · obtain ⟨rfl, rfl⟩ := e
          rw [gu_set]
          simp [hi]
        · rw [if_neg e]
          by_cases e0 : j = 0
          · simp [e0]
          · by_cases e3 : j = 1
            · simp [e3]
            · rw [if_neg e0, if_neg e3, if_neg e0, if_neg e3, gu_set, if_neg (by omega)]
    rf := own_gr h.rf hg (fun g hx => by have := oblk_of hx; rw [List.mem_singleton]; rintro rfl; exact h.sep.uf g (by rw [ho]; simp) this)
    mp := h.mp.gr hg (hnx _ h.sep.mu)
    rn := fun i hi => by rw [(e1 i).1]; exact (h.rn i (by simpa using hi)).gr hg (hnx _ (h.sep.n1 i (by rw [h.lb]; simpa using hi)).2.2.1)
    rd := fun i hi => by rw [(e1 i).2]; exact (h.rd i (by simpa using hi)).gr hg (hnx _ (h.sep.d1 i (by rw [h.lb]; simpa using hi)).2.2.1)
    lb := by simpa using h.lb
    ld := fun i hi => by rw [(e1 i).1, (e1 i).2]; exact h.ld i (by simpa using hi)
    b8 := by simpa using h.b8
    bn := fun i hi => by rw [(e1 i).1]; exact h.bn i (by simpa using hi)
    fi := fun i hi => by rw [(e1 _).1]; simpa using h.fi i hi
    sep := h.sep }
/-- the map of bad sectors is another -/
theorem DA.setB (h : DA W A c k) (hg : Gr [c.mb] W W') (mn : Nat) (bad : Int → Int → Bool) (hm : BM W' c.mb mn bad) : DA W' A { c with mn := mn } { k with bad := bad } where
  blk := own_gr h.blk hg (fun g hx => by cases hx; rw [List.mem_singleton]; exact h.sep.am)
  ru := own_gr h.ru hg (fun g hx => by have := oblk_of hx; rw [List.mem_singleton]; rintro rfl; exact h.sep.mu this)
  rf := own_gr h.rf hg (fun g hx => by have := oblk_of hx; rw [List.mem_singleton]; rintro rfl; exact h.sep.mf this)
  mp := hm
  rn i hi := (h.rn i hi).gr hg (by rw [List.mem_singleton]; exact (h.sep.n1 i (by rw [h.lb]; exact hi)).2.1)
  rd i hi := (h.rd i hi).gr hg (by rw [List.mem_singleton]; exact (h.sep.d1 i (by rw [h.lb]; exact hi)).2.1)
  lb := h.lb
  ld := h.ld
  b8 := h.b8
  bn := h.bn
  fi := h.fi
  sep := ⟨h.sep.am, h.sep.au, h.sep.af, h.sep.mu, h.sep.mf, h.sep.uf, h.sep.n1, h.sep.d1, h.sep.nd, h.sep.nn⟩
end
end Go.Proofs.Ytfaeieeokelokaa
