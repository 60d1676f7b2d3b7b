/- An array of disks and a track, beside each other. No conditions but those of each theorem. -/
import Derived.Test.YtfaeieeokelokaaAc
import Derived.Test.YtfaeieeokelokaaT
namespace Go.Proofs.Ytfaeieeokelokaa
open Go.ChangeShapes Go.WideShapes Go.ChangeAt Go.RowKit
set_option linter.unusedVariables false
set_option linter.unusedSimpArgs false
theorem own_kp {R : List Nat} {w w' : World} {base : Nat} {e : TypeId} {size : Nat} {v : Value} {n : Nat} {xs : List Value} (h : w.ownsRow base e size v n xs) (hk : Kp R w w') (hg : ∀ g, v.ownBlock = some g → g ∈ R) : w'.ownsRow base e size v n xs := by
  refine ⟨h.1, ?_⟩
  rcases h.2 with hn | ⟨g', cap, cur, e, hb, hgg, rest⟩
  · exact .inl hn
  · refine .inr ⟨g', cap, cur, e, hb, ?_, rest⟩
    rw [hk.2 g' (hg g' (by rw [e]; rfl))]; exact hgg
theorem TK.kp {R : List Nat} {W W' : World} {t b cb n : Nat} {G : Nat → Nat × Nat} {f : Nat → Sc} (h : TK W t b cb n G f) (hk : Kp R W W') (h1 : t ∈ R) (h2 : b ∈ R) (h3 : ∀ i, i < n → (G i).1 ∈ R) : TK W' t b cb n G f where
  blk := own_kp h.blk hk (fun g hg => by cases hg; exact h1)
  row := own_kp h.row hk (fun g hg => by cases hg; exact h2)
  inn i hi := own_kp (h.inn i hi) hk (fun g hg => by cases hg; exact h3 i hi)
  tb := h.tb
  sep := h.sep
  lim := h.lim
theorem Own.grow {B : Nat} {W0 W W' : World} {A : Nat} {k : Dk} {R : List Nat} (h : Own B W0 W A k R) (S : List Nat) (hS : ∀ x ∈ S, x ∈ R) (hg : Gr S W W') (N : List Nat) (hN : ∀ r ∈ N, r ∈ R ∨ (W.heap.size ≤ r ∧ r < W'.heap.size)) : Own B W0 W' A k (N ++ R) := by
  obtain ⟨c, h⟩ := h
  have hle := h.le
  refine ⟨c, h.da.gr hg (fun x hx hs => (h.fpb x hx).2 (hS x hs)), h.mn, h.bel.trans (hg.below (fun x hx => (h.res x (hS x hx)).1) h.le), h.bb, fun x hx => ⟨(h.fpb x hx).1, fun hr => ?_⟩, fun x hx => ?_⟩
  · rcases List.mem_append.1 hr with hr | hr
    · rcases hN x hr with h1 | h1
      · exact (h.fpb x hx).2 h1
      · have := h.da.fp_lt _ hx; omega
    · exact (h.fpb x hx).2 hr
  · have key : ∀ x ∈ R, B ≤ x ∧ x < W'.heap.size := fun x hx => ⟨(h.res x hx).1, Nat.lt_of_lt_of_le (h.res x hx).2 hg.size⟩
    rcases List.mem_append.1 hx with hx | hx
    · rcases hN x hx with h1 | h1
      · exact key x h1
      · exact ⟨by omega, h1.2⟩
    · exact key x hx
/-- an array and a track of five sectors, beside each other -/
def OT (B : Nat) (W0 W : World) (A : Nat) (k : Dk) (t : Nat) (f : Nat → Sc) : Prop := ∃ R b cb G, Own B W0 W A k R ∧ TK W t b cb 5 G f ∧ t ∈ R ∧ b ∈ R ∧ ∀ i, i < 5 → (G i).1 ∈ R
theorem OT.arr {B : Nat} {W0 W : World} {A : Nat} {k : Dk} {t : Nat} {f : Nat → Sc} (h : OT B W0 W A k t f) : ∃ R, Own B W0 W A k R ∧ ∀ W' k' R', (∀ x ∈ R, x ∈ R') → Own B W0 W' A k' R' → Kp R W W' → OT B W0 W' A k' t f := by
  obtain ⟨R, b, cb, G, h1, h2, h3, h4, h5⟩ := h
  exact ⟨R, h1, fun W' k' R' hR hO hk => ⟨R', b, cb, G, hO, h2.kp hk h3 h4 h5, hR _ h3, hR _ h4, fun i hi => hR _ (h5 i hi)⟩⟩
theorem OT.trk {B : Nat} {W0 W : World} {A : Nat} {k : Dk} {t : Nat} {f : Nat → Sc} (h : OT B W0 W A k t f) : ∃ b cb G, TK W t b cb 5 G f ∧ ∀ W' f', TS W W' t b cb 5 G f' → OT B W0 W' A k t f' := by
  obtain ⟨R, b, cb, G, h1, h2, h3, h4, h5⟩ := h
  refine ⟨b, cb, G, h2, fun W' f' hT => ?_⟩
  obtain ⟨G', k1, k2, k3⟩ := hT
  refine ⟨((List.range 5).map fun i => (G' i).1) ++ R, b, cb, G', h1.grow [t, b] (fun x hx => by rcases List.mem_cons.1 hx with rfl | hx; exact h3; rw [List.mem_singleton.1 hx]; exact h4) k2 _ (fun r hr => ?_), k1, List.mem_append_right _ h3, List.mem_append_right _ h4, fun i hi => List.mem_append_left _ (List.mem_map.2 ⟨i, List.mem_range.2 hi, rfl⟩)⟩
  obtain ⟨i, hi, rfl⟩ := List.mem_map.1 hr
  have hi := List.mem_range.1 hi
  rcases k3 i hi with e | e
  · rw [e]; exact .inl (h5 i hi)
  · exact .inr ⟨e, (k1.inn i hi).lt⟩
theorem OT.bel {B : Nat} {W0 W : World} {A : Nat} {k : Dk} {t : Nat} {f : Nat → Sc} (h : OT B W0 W A k t f) : Below B W0 W ∧ B ≤ W.heap.size := by
  obtain ⟨R, b, cb, G, h1, _⟩ := h; exact ⟨h1.bel, h1.le⟩
theorem TK.ts {W W' : World} {t b cb n : Nat} {G : Nat → Nat × Nat} {f' : Nat → Sc} (h : TK W' t b cb n G f') (hg : Gr [t, b] W W') : TS W W' t b cb n G f' := ⟨G, h, hg, fun _ _ => .inl rfl⟩
theorem Kp.sub {R S : List Nat} {a b : World} (h : Kp R a b) (hs : ∀ x ∈ S, x ∈ R) : Kp S a b := ⟨h.1, fun r hr => h.2 r (hs r hr)⟩
theorem ot_wrote {B : Nat} {W0 W : World} {A : Nat} {k : Dk} {t : Nat} {f : Nat → Sc} (h : OT B W0 W A k t f) (i : Nat) (hi : i < 5) (v : Int) (d : Bool) (hS : (f i).S.length ≤ 1000) :
    Calls Try.prog 27 #[.pointer (some ⟨t, 0, none⟩), .int .i64 (i : Int), .int .u64 v, .bool d] W fun e W' => e = .returned (.tuple #[]) ∧ Hid (OT B W0 W' A k t (up f i ⟨(f i).S ++ [v], d, v⟩)) := by
  obtain ⟨b, cb, G, h1, h2⟩ := h.trk
  exact (wrote_ok h1 i hi v d hS).mono fun e W' ⟨he, HH⟩ => ⟨he, hid (h2 _ _ HH.out)⟩
theorem ot_flushed {B : Nat} {W0 W : World} {A : Nat} {k : Dk} {t : Nat} {f : Nat → Sc} (h : OT B W0 W A k t f) :
    Calls Try.prog 28 #[.pointer (some ⟨t, 0, none⟩)] W fun e W' => e = .returned (.tuple #[]) ∧ Hid (OT B W0 W' A k t (upto 5 pFlush f)) := by
  obtain ⟨b, cb, G, h1, h2⟩ := h.trk
  exact (flushed_ok h1).mono fun e W' ⟨he, HH⟩ => ⟨he, hid (h2 _ _ HH.out)⟩
theorem ot_failed {B : Nat} {W0 W : World} {A : Nat} {k : Dk} {t : Nat} {f : Nat → Sc} (h : OT B W0 W A k t f) :
    Calls Try.prog 29 #[.pointer (some ⟨t, 0, none⟩)] W fun e W' => e = .returned (.tuple #[]) ∧ Hid (OT B W0 W' A k t (upto 5 pFail f)) := by
  obtain ⟨b, cb, G, h1, h2⟩ := h.trk
  exact (failed_ok h1).mono fun e W' ⟨he, HH⟩ => ⟨he, hid (h2 _ _ (TK.ts HH.out.1 HH.out.2))⟩
theorem ot_reads {B : Nat} {W0 W : World} {A : Nat} {k : Dk} {t : Nat} {f : Nat → Sc} (h : OT B W0 W A k t f) (i : Nat) (hi : i < 5) (v : Int) (hk : (f i).kn = false) (hv : v ∈ (f i).S) (hS : (f i).S.length ≤ 1000) :
    Calls Try.prog 30 #[.pointer (some ⟨t, 0, none⟩), .int .i64 (i : Int), .int .u64 v, .bool true] W fun e W' => e = .returned (.bool true) ∧ Hid (OT B W0 W' A k t (up f i ⟨[v], true, v⟩)) := by
  obtain ⟨b, cb, G, h1, h2⟩ := h.trk
  have := reads_ok h1 i hi v hk hS
  rw [decide_eq_true hv] at this
  exact this.mono fun e W' ⟨he, HH⟩ => ⟨he, hid (h2 _ _ HH.out)⟩
theorem ot_write {B : Nat} {W0 W : World} {A : Nat} {k : Dk} {t : Nat} {f : Nat → Sc} (h : OT B W0 W A k t f) (d x v : Int) (hb : Bnd k (2 ^ 32)) :
    Calls Try.prog 15 #[.pointer (some ⟨A, 0, none⟩), .int .i64 d, .int .i64 x, .int .u64 v] W fun e W' => e = .returned (.int .i64 (wrE k d x)) ∧ Hid (OT B W0 W' A (wrK k d x v) t f) := by
  obtain ⟨R, h1, h2⟩ := h.arr
  exact (own_write h1 d x v hb).mono fun e W' ⟨he, HH⟩ => ⟨he, hid (h2 _ _ R (fun _ h => h) HH.out.1 HH.out.2)⟩
theorem ot_flush {B : Nat} {W0 W : World} {A : Nat} {k : Dk} {t : Nat} {f : Nat → Sc} (h : OT B W0 W A k t f) (d : Int) (hF : k.F.length ≤ 2 ^ 32) :
    Calls Try.prog 14 #[.pointer (some ⟨A, 0, none⟩), .int .i64 d] W fun e W' => e = .returned (.int .i64 (chk3 k d 0)) ∧ Hid (OT B W0 W' A (flK k d) t f) := by
  obtain ⟨R, h1, h2⟩ := h.arr
  exact (own_flush h1 d hF).mono fun e W' ⟨he, HH⟩ => ⟨he, hid (h2 _ _ R (fun _ h => h) HH.out.1 HH.out.2)⟩
theorem ot_fuse {B : Nat} {W0 W : World} {A : Nat} {k : Dk} {t : Nat} {f : Nat → Sc} (h : OT B W0 W A k t f) (n : Int) :
    Calls Try.prog 22 #[.pointer (some ⟨A, 0, none⟩), .int .i64 n] W fun e W' => e = .returned (.tuple #[]) ∧ Hid (OT B W0 W' A { k with fuse := max n 0 } t f) := by
  obtain ⟨R, h1, h2⟩ := h.arr
  exact (own_fuse h1 n).mono fun e W' ⟨he, HH⟩ => ⟨he, hid (h2 _ _ R (fun _ h => h) HH.out.1 HH.out.2)⟩
theorem ot_down {B : Nat} {W0 W : World} {A : Nat} {k : Dk} {t : Nat} {f : Nat → Sc} (h : OT B W0 W A k t f) :
    Calls Try.prog 23 #[.pointer (some ⟨A, 0, none⟩)] W fun e W' => e = .returned (.bool k.down) ∧ W' = W := by
  obtain ⟨R, h1, h2⟩ := h.arr
  exact own_down h1
theorem ot_read {B : Nat} {W0 W : World} {A : Nat} {k : Dk} {t : Nat} {f : Nat → Sc} (h : OT B W0 W A k t f) (d x : Int) :
    Calls Try.prog 25 #[.pointer (some ⟨A, 0, none⟩), .int .i64 d, .int .i64 x] W fun e W' => e = .returned (.tuple #[.int .u64 (rdV k d x), .int .i64 (chk4 k d x)]) ∧ Hid (OT B W0 W' A k t f) := by
  obtain ⟨R, h1, h2⟩ := h.arr
  exact (own_read h1 d x).mono fun e W' ⟨he, HH⟩ => ⟨he, hid (h2 _ _ R (fun _ h => h) HH.out.1 HH.out.2)⟩
/-- the list of what is kept, and the restart with it -/
theorem ot_keep {B : Nat} {W0 W : World} {A : Nat} {k : Dk} {t : Nat} {f : Nat → Sc} (h : OT B W0 W A k t f) (x : Int) (hF : k.F.length ≤ 2 ^ 32) :
    Calls Try.prog 17 #[.int .u64 x] W fun e W' => ∃ g c, e = .returned (.slice (some ⟨g, 0, none⟩) 192 c) ∧ Hid (Calls Try.prog 16 #[.pointer (some ⟨A, 0, none⟩), .slice (some ⟨g, 0, none⟩) 192 c] W' fun e' W2 => e' = .returned (.tuple #[]) ∧ Hid (∃ kp, OT B W0 W2 A (reK k kp) t f)) := by
  obtain ⟨R, h1, h2⟩ := h.arr
  refine (own_keep h1 x).mono fun e W' hh => ?_
  obtain ⟨g, c, he, HH⟩ := hh
  refine ⟨g, c, he, hid ?_⟩
  refine (own_restart HH.out.2.1 (some ⟨g, 0, none⟩) 192 c (fun i => decide (i < 192) && kpf x i) (by omega) hF (.inr ⟨g, rfl, List.mem_cons_self .., fun i hi => by rw [HH.out.1 i hi, decide_eq_true hi]; rfl⟩) (fun i hi => by rw [decide_eq_false (by omega)]; rfl)).mono fun e' W2 ⟨he', HH2⟩ => ⟨he', hid ⟨_, h2 _ _ (g :: R) (fun x hx => List.mem_cons_of_mem _ hx) HH2.out.1 (HH.out.2.2.trans (HH2.out.2.sub (fun x hx => List.mem_cons_of_mem _ hx)))⟩⟩
end Go.Proofs.Ytfaeieeokelokaa
