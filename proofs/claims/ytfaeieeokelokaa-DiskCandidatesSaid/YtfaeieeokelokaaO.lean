/- Calls on an array that the caller owns, beside reserved blocks. No conditions but those of each theorem. -/
import Derived.Test.YtfaeieeokelokaaN
import Derived.Test.YtfaeieeokelokaaQ
namespace Go.Proofs.Ytfaeieeokelokaa
open Go.ChangeShapes Go.WideShapes Go.ChangeAt Go.RowKit
set_option linter.unusedVariables false
set_option linter.unusedSimpArgs false

/-- reserved blocks stay as they are -/
def Kp (R : List Nat) (W W' : World) : Prop := W.heap.size ≤ W'.heap.size ∧ ∀ r ∈ R, W'.heap[r]? = W.heap[r]?
theorem Kp.refl (R : List Nat) (W : World) : Kp R W W := ⟨Nat.le_refl _, fun _ _ => rfl⟩
theorem Kp.trans {R : List Nat} {a b c : World} (h : Kp R a b) (k : Kp R b c) : Kp R a c := ⟨Nat.le_trans h.1 k.1, fun r hr => (k.2 r hr).trans (h.2 r hr)⟩
theorem Kp.cell {R : List Nat} {a b : World} (h : Kp R a b) {p : Addr} (hp : p.block ∈ R) : b.cell? p = a.cell? p := World.cell?_of_block (h.2 _ hp)
/-- an array of the caller's own: nothing below B is its, nor what is reserved -/
structure OwnD (B : Nat) (W0 W : World) (A : Nat) (k : Dk) (R : List Nat) (c : Co) : Prop where
  da : DA W A c k
  mn : c.mn ≤ 1000000
  bel : Below B W0 W
  bb : B ≤ W0.heap.size
  fpb : ∀ x ∈ fp A c, B ≤ x ∧ x ∉ R
  res : ∀ x ∈ R, B ≤ x ∧ x < W.heap.size
def Own (B : Nat) (W0 W : World) (A : Nat) (k : Dk) (R : List Nat) : Prop := ∃ c, OwnD B W0 W A k R c
theorem OwnD.le {B : Nat} {W0 W : World} {A : Nat} {k : Dk} {R : List Nat} {c : Co} (h : OwnD B W0 W A k R c) : B ≤ W.heap.size := Nat.le_trans h.bb h.bel.size
theorem Own.bel {B : Nat} {W0 W : World} {A : Nat} {k : Dk} {R : List Nat} (h : Own B W0 W A k R) : Below B W0 W := by obtain ⟨c, h⟩ := h; exact h.bel
theorem Own.le {B : Nat} {W0 W : World} {A : Nat} {k : Dk} {R : List Nat} (h : Own B W0 W A k R) : B ≤ W.heap.size := by obtain ⟨c, h⟩ := h; exact h.le
/-- what a call that changes the array leaves -/
theorem OwnD.step {B : Nat} {W0 W W' : World} {A : Nat} {k k' : Dk} {R : List Nat} {c c' : Co} (h : OwnD B W0 W A k R c) (hd : DA W' A c' k') (hm : c'.mn ≤ 1000000) (hg : Gr (fp A c) W W') (hf : Fresh W A c c') : Own B W0 W' A k' R ∧ Kp R W W' := by
  refine ⟨⟨c', hd, hm, h.bel.trans (hg.below (fun x hx => (h.fpb x hx).1) h.le), h.bb, fun x hx => ?_, fun x hx => ⟨(h.res x hx).1, Nat.lt_of_lt_of_le (h.res x hx).2 hg.size⟩⟩, hg.size, fun r hr => hg.block r (h.res r hr).2 (fun hx => (h.fpb r hx).2 hr)⟩
  rcases hf x hx with h1 | h1
  · exact h.fpb x h1
  · have := h.le
    exact ⟨by omega, fun hr => by have := (h.res x hr).2; omega⟩
/-- what a call that makes memory alone leaves -/
theorem OwnD.below {B : Nat} {W0 W W' : World} {A : Nat} {k : Dk} {R : List Nat} {c : Co} (h : OwnD B W0 W A k R c) (hb : Below W.heap.size W W') : OwnD B W0 W' A k R c ∧ Kp R W W' :=
  ⟨⟨h.da.below hb, h.mn, h.bel.trans (hb.mono h.le), h.bb, h.fpb, fun x hx => ⟨(h.res x hx).1, Nat.lt_of_lt_of_le (h.res x hx).2 hb.size⟩⟩, hb.size, fun r hr => hb.block r (h.res r hr).2⟩
theorem Own.below {B : Nat} {W0 W W' : World} {A : Nat} {k : Dk} {R : List Nat} (h : Own B W0 W A k R) (hb : Below W.heap.size W W') : Own B W0 W' A k R ∧ Kp R W W' := by
  obtain ⟨c, h⟩ := h
  exact ⟨⟨c, (h.below hb).1⟩, (h.below hb).2⟩
/-- new blocks are reserved -/
theorem Own.more {B : Nat} {W0 W W' : World} {A : Nat} {k : Dk} {R : List Nat} (h : Own B W0 W A k R) (hb : Below W.heap.size W W') (r : Nat) (h1 : W.heap.size ≤ r) (h2 : r < W'.heap.size) : Own B W0 W' A k (r :: R) := by
  obtain ⟨c, h⟩ := h
  have h' := (h.below hb).1
  refine ⟨c, h'.da, h'.mn, h'.bel, h'.bb, fun x hx => ⟨(h'.fpb x hx).1, fun hr => ?_⟩, fun x hx => ?_⟩
  · rcases List.mem_cons.1 hr with rfl | hr
    · have := h.da.fp_lt _ hx; omega
    · exact (h'.fpb x hx).2 hr
  · rcases List.mem_cons.1 hx with rfl | hx
    · exact ⟨by have := h.le; omega, h2⟩
    · exact h'.res x hx
/-- what is reserved may be written -/
theorem Own.wrote {B : Nat} {W0 W W' : World} {A : Nat} {k : Dk} {R : List Nat} (h : Own B W0 W A k R) (S : List Nat) (hS : ∀ x ∈ S, x ∈ R) (hg : Gr S W W') : Own B W0 W' A k R := by
  obtain ⟨c, h⟩ := h
  exact ⟨c, h.da.gr hg (fun x hx hs => (h.fpb x hx).2 (hS x hs)), h.mn, h.bel.trans (hg.below (fun x hx => (h.res x (hS x hx)).1) h.le), h.bb, h.fpb, fun x hx => ⟨(h.res x hx).1, Nat.lt_of_lt_of_le (h.res x hx).2 hg.size⟩⟩
theorem own_new (a : Option Addr) (cap : Nat) (X : List Int) (W : World) (h8 : X.length ≤ 8) (hX : ∀ i, i < X.length → good (ge X i)) (hA : Ar W a X) (B : Nat) (W0 : World) (hB : Below B W0 W) (hBB : B ≤ W0.heap.size) :
    Calls Try.prog 13 #[.slice a X.length cap] W fun e W' => ∃ A, e = .returned (.tuple #[.pointer (some ⟨A, 0, none⟩), .int .i64 0]) ∧ Hid (Own B W0 W' A (nk X) [] ∧ Below W.heap.size W W') :=
  (new_ok a cap X W h8 hX hA).mono fun e W' ⟨A, he, HH⟩ => ⟨A, he, by
    obtain ⟨c, h1, h2, h3, h4⟩ := HH.out
    have := hB.size
    exact hid ⟨⟨c, h2, by omega, hB.trans (h3.mono (by omega)), hBB, fun x hx => ⟨by have := h4 x hx; omega, by simp⟩, fun x hx => by simp at hx⟩, h3⟩⟩
/-- bounds that grow with the calls -/
def Bnd (k : Dk) (n : Nat) : Prop := 0 ≤ k.fuse ∧ k.fuse ≤ 9223372036854775807 ∧ k.F.length ≤ n ∧ 0 ≤ k.wr ∧ k.wr ≤ n
theorem own_write {B : Nat} {W0 W : World} {A : Nat} {k : Dk} {R : List Nat} (h : Own B W0 W A k R) (d t v : Int) (hb : Bnd k (2 ^ 32)) :
    Calls Try.prog 15 #[.pointer (some ⟨A, 0, none⟩), .int .i64 d, .int .i64 t, .int .u64 v] W fun e W' => e = .returned (.int .i64 (wrE k d t)) ∧ Hid (Own B W0 W' A (wrK k d t v) R ∧ Kp R W W') := by
  obtain ⟨c, h⟩ := h
  obtain ⟨b1, b2, b3, b4, b5⟩ := hb
  refine (write_ok h.da d t v b1 b2 b3 b4 (by omega)).mono fun e W' ⟨he, HH⟩ => ⟨he, ?_⟩
  obtain ⟨c', h1, h2, h3, h4⟩ := HH.out
  exact hid (h.step h1 (by rw [h4]; exact h.mn) h2 h3)
theorem own_flush {B : Nat} {W0 W : World} {A : Nat} {k : Dk} {R : List Nat} (h : Own B W0 W A k R) (d : Int) (hF : k.F.length ≤ 2 ^ 32) :
    Calls Try.prog 14 #[.pointer (some ⟨A, 0, none⟩), .int .i64 d] W fun e W' => e = .returned (.int .i64 (chk3 k d 0)) ∧ Hid (Own B W0 W' A (flK k d) R ∧ Kp R W W') := by
  obtain ⟨c, h⟩ := h
  exact (flush_ok h.da d hF).mono fun e W' ⟨he, HH⟩ => ⟨he, hid (h.step HH.out.1 h.mn HH.out.2 (Fresh.refl _ _ _))⟩
theorem own_fuse {B : Nat} {W0 W : World} {A : Nat} {k : Dk} {R : List Nat} (h : Own B W0 W A k R) (n : Int) :
    Calls Try.prog 22 #[.pointer (some ⟨A, 0, none⟩), .int .i64 n] W fun e W' => e = .returned (.tuple #[]) ∧ Hid (Own B W0 W' A { k with fuse := max n 0 } R ∧ Kp R W W') := by
  obtain ⟨c, h⟩ := h
  exact (fuse_ok h.da n).mono fun e W' ⟨he, HH⟩ => ⟨he, hid (h.step HH.out.1 h.mn HH.out.2 (Fresh.refl _ _ _))⟩
theorem own_setmis {B : Nat} {W0 W : World} {A : Nat} {k : Dk} {R : List Nat} (h : Own B W0 W A k R) (d : Nat) (b : Bool) (hd : d < k.U.length) :
    Calls Try.prog 21 #[.pointer (some ⟨A, 0, none⟩), .int .i64 (d : Int), .bool b] W fun e W' => e = .returned (.int .i64 0) ∧ Hid (Own B W0 W' A { k with U := k.U.set d { gu k.U d with mis := b } } R ∧ Kp R W W') := by
  obtain ⟨c, h⟩ := h
  exact (setmis_ok h.da d b hd).mono fun e W' ⟨he, HH⟩ => ⟨he, hid (h.step HH.out.1 h.mn HH.out.2 (Fresh.refl _ _ _))⟩
theorem own_restart {B : Nat} {W0 W : World} {A : Nat} {k : Dk} {R : List Nat} (h : Own B W0 W A k R) (ka : Option Addr) (kn kc : Nat) (kp : Nat → Bool) (hkn : kn ≤ 2 ^ 32) (hF : k.F.length ≤ 2 ^ 32)
    (hrow : kn = 0 ∨ ∃ b, ka = some ⟨b, 0, none⟩ ∧ b ∈ R ∧ ∀ i, i < kn → W.cell? ⟨b, i, none⟩ = some (.bool (kp i))) (hout : ∀ i, kn ≤ i → kp i = false) :
    Calls Try.prog 16 #[.pointer (some ⟨A, 0, none⟩), .slice ka kn kc] W fun e W' => e = .returned (.tuple #[]) ∧ Hid (Own B W0 W' A (reK k kp) R ∧ Kp R W W') := by
  obtain ⟨c, h⟩ := h
  have hK : KB W (fp A c) ka kn kp := ⟨hrow.imp id (fun ⟨b, h1, h2, h3⟩ => ⟨b, h1, (h.res b h2).2, fun hx => (h.fpb b hx).2 h2, h3⟩), hout⟩
  exact (restart_ok h.da ka kn kc kp hK hkn hF).mono fun e W' ⟨he, HH⟩ => ⟨he, hid (h.step HH.out.1 h.mn HH.out.2 (Fresh.setF (fun g hg => by cases hg)))⟩
theorem own_read {B : Nat} {W0 W : World} {A : Nat} {k : Dk} {R : List Nat} (h : Own B W0 W A k R) (d t : Int) :
    Calls Try.prog 25 #[.pointer (some ⟨A, 0, none⟩), .int .i64 d, .int .i64 t] W fun e W' => e = .returned (.tuple #[.int .u64 (rdV k d t), .int .i64 (chk4 k d t)]) ∧ Hid (Own B W0 W' A k R ∧ Kp R W W') := by
  have h' := h
  obtain ⟨c, h⟩ := h
  exact (read_ok h.da d t).mono fun e W' ⟨he, hb⟩ => ⟨he, hid (h'.below hb)⟩
theorem own_down {B : Nat} {W0 W : World} {A : Nat} {k : Dk} {R : List Nat} (h : Own B W0 W A k R) :
    Calls Try.prog 23 #[.pointer (some ⟨A, 0, none⟩)] W fun e W' => e = .returned (.bool k.down) ∧ W' = W := by
  obtain ⟨c, h⟩ := h
  exact down_ok h.da
theorem own_writes {B : Nat} {W0 W : World} {A : Nat} {k : Dk} {R : List Nat} (h : Own B W0 W A k R) :
    Calls Try.prog 24 #[.pointer (some ⟨A, 0, none⟩)] W fun e W' => e = .returned (.int .i64 k.wr) ∧ W' = W := by
  obtain ⟨c, h⟩ := h
  exact writes_ok h.da
theorem own_unfl {B : Nat} {W0 W : World} {A : Nat} {k : Dk} {R : List Nat} (h : Own B W0 W A k R) :
    Calls Try.prog 20 #[.pointer (some ⟨A, 0, none⟩)] W fun e W' => e = .returned (.int .i64 (k.F.length : Int)) ∧ W' = W := by
  obtain ⟨c, h⟩ := h
  exact unfl_ok h.da
/-- an image: a new row, reserved -/
theorem own_image {B : Nat} {W0 W : World} {A : Nat} {k : Dk} {R : List Nat} (h : Own B W0 W A k R) (d : Nat) (hd : d < k.U.length) :
    Calls Try.prog 18 #[.pointer (some ⟨A, 0, none⟩), .int .i64 (d : Int)] W fun e W' => ∃ g c, e = .returned (.tuple #[.slice (some ⟨g, 0, none⟩) (gu k.U d).now.length c, .int .i64 0]) ∧ Hid (Row W' g c (gu k.U d).now ∧ Own B W0 W' A k (g :: R) ∧ Kp R W W') := by
  have h' := h
  obtain ⟨c, h⟩ := h
  refine (image_ok h.da d hd).mono fun e W' hh => ?_
  obtain ⟨g, c', he, h1, HH⟩ := hh
  exact ⟨g, c', he, hid ⟨HH.out.1, h'.more HH.out.2 g h1 HH.out.1.lt, (h'.below HH.out.2).2⟩⟩
theorem own_keep {B : Nat} {W0 W : World} {A : Nat} {k : Dk} {R : List Nat} (h : Own B W0 W A k R) (w : Int) :
    Calls Try.prog 17 #[.int .u64 w] W fun e W' => ∃ g c, e = .returned (.slice (some ⟨g, 0, none⟩) 192 c) ∧ Hid ((∀ i, i < 192 → W'.cell? ⟨g, i, none⟩ = some (.bool (kpf w i))) ∧ Own B W0 W' A k (g :: R) ∧ Kp R W W') := by
  refine (keep_ok w W).mono fun e W' hh => ?_
  obtain ⟨g, c', he, h1, HH⟩ := hh
  exact ⟨g, c', he, hid ⟨HH.out.2.1, h.more HH.out.2.2 g h1 HH.out.1, (h.below HH.out.2.2).2⟩⟩
end Go.Proofs.Ytfaeieeokelokaa
