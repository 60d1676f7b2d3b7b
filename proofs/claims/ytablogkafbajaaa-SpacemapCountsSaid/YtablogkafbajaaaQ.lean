/- Both space maps and the reader of numbers side by side in memory. No conditions but those of each theorem. -/
import Derived.Test.YtablogkafbajaaaS
namespace Go.Proofs.Ytablogkafbajaaa
open Go.ChangeShapes Go.WideShapes Go.ChangeAt Go.RowKit
set_option linter.unusedVariables false
set_option linter.unusedSimpArgs false

/-- the blocks of both maps and of the reader: all different, none below n₀ -/
structure ST (n₀ B : Nat) (W0 W : World) (M a ca b cb R c cc d cd : Nat) (X Y U V : List Int) : Prop where
  p : SM 66 W M a ca b cb X Y
  r : SM 51 W R c cc d cd U V
  s : SrcOK n₀ B W
  bel : Below n₀ W0 W
  n0 : n₀ ≤ W.heap.size
  ne : [B, M, a, b, R].Nodup
  nc : c ∉ [B, M, a, b, R]
  nd : d ∉ [B, M, a, b, R]
  ge : ∀ q ∈ [B, M, a, b, R], n₀ ≤ q
  gc : n₀ ≤ c
  gd : n₀ ≤ d
theorem ST.lts {n₀ B : Nat} {W0 W : World} {M a ca b cb R c cc d cd : Nat} {X Y U V : List Int} (h : ST n₀ B W0 W M a ca b cb R c cc d cd X Y U V) : ∀ q ∈ [B, M, a, b, R], q < W.heap.size := by
  have h1 := h.s.lt
  have h2 := h.p.lt
  have h3 := h.p.ra.lt
  have h4 := h.p.rb.lt
  have h5 := h.r.lt
  intro q hq
  simp at hq
  rcases hq with rfl | rfl | rfl | rfl | rfl <;> assumption
/-- two different members of a list without repetition -/
theorem nd5 {B M a b R : Nat} (h : [B, M, a, b, R].Nodup) : B ≠ M ∧ B ≠ a ∧ B ≠ b ∧ B ≠ R ∧ M ≠ a ∧ M ≠ b ∧ M ≠ R ∧ a ≠ b ∧ a ≠ R ∧ b ≠ R := by
  simp at h
  exact ⟨h.1.1, h.1.2.1, h.1.2.2.1, h.1.2.2.2, h.2.1.1, h.2.1.2.1, h.2.1.2.2, h.2.2.1.1, h.2.2.1.2, h.2.2.2⟩
theorem so {x y : Nat} (h : x ≠ y) : some x ≠ some y := fun e => h (Option.some.inj e)
theorem nin {c B M a b R : Nat} (h : c ∉ [B, M, a, b, R]) : c ≠ B ∧ c ≠ M ∧ c ≠ a ∧ c ≠ b ∧ c ≠ R := by
  simp at h
  exact h
theorem ST.below {n₀ B : Nat} {W0 W W' : World} {M a ca b cb R c cc d cd : Nat} {X Y U V : List Int} (h : ST n₀ B W0 W M a ca b cb R c cc d cd X Y U V) (hb : Below W.heap.size W W') : ST n₀ B W0 W' M a ca b cb R c cc d cd X Y U V :=
  ⟨h.p.below hb, h.r.below hb, h.s.kept (grown_below hb) (by simp) h.n0 (fun k e => by cases e), h.bel.trans (hb.mono h.n0), Nat.le_trans h.n0 hb.size, h.ne, h.nc, h.nd, h.ge, h.gc, h.gd⟩
theorem ST.src {n₀ B : Nat} {W0 W W' : World} {M a ca b cb R c cc d cd : Nat} {X Y U V : List Int} (h : ST n₀ B W0 W M a ca b cb R c cc d cd X Y U V) (hg : W.grownBy W' (some B)) (hs : SrcOK n₀ B W') : ST n₀ B W0 W' M a ca b cb R c cc d cd X Y U V := by
  obtain ⟨e1, e2, e3, e4, e5, e6, e7, e8, e9, e10⟩ := nd5 h.ne
  exact ⟨h.p.kept hg (so e1.symm) (so e2.symm) (so e3.symm), h.r.kept hg (so e4.symm) (so (nin h.nc).1) (so (nin h.nd).1), hs, h.bel.grown hg h.n0 (fun k e => by cases e; exact h.ge _ (by simp)), Nat.le_trans h.n0 hg.size, h.ne, h.nc, h.nd, h.ge, h.gc, h.gd⟩
/-- the program's map turns: only one of its own blocks is written -/
theorem ST.prog {n₀ B q : Nat} {W0 W W' : World} {M a ca b cb R c cc d cd : Nat} {X Y U V X' Y' : List Int} (h : ST n₀ B W0 W M a ca b cb R c cc d cd X Y U V) (hg : W.grownBy W' (some q)) (hq : q = a ∨ q = b) (hp : SM 66 W' M a ca b cb X' Y') : ST n₀ B W0 W' M a ca b cb R c cc d cd X' Y' U V := by
  obtain ⟨e1, e2, e3, e4, e5, e6, e7, e8, e9, e10⟩ := nd5 h.ne
  have hga := h.ge a (by simp)
  have hgb := h.ge b (by simp)
  have hgq : n₀ ≤ q := by rcases hq with rfl | rfl <;> assumption
  have q1 : R ≠ q := by
    rcases hq with rfl | rfl
    · exact e9.symm
    · exact e10.symm
  have q2 : c ≠ q := by
    rcases hq with rfl | rfl
    · exact (nin h.nc).2.2.1
    · exact (nin h.nc).2.2.2.1
  have q3 : d ≠ q := by
    rcases hq with rfl | rfl
    · exact (nin h.nd).2.2.1
    · exact (nin h.nd).2.2.2.1
  have q4 : B ≠ q := by rcases hq with rfl | rfl <;> assumption
  exact ⟨hp, h.r.kept hg (so q1) (so q2) (so q3), h.s.kept hg (so q4) h.n0 (fun k e => by cases e; exact hgq), h.bel.grown hg h.n0 (fun k e => by cases e; exact hgq), Nat.le_trans h.n0 hg.size, h.ne, h.nc, h.nd, h.ge, h.gc, h.gd⟩
/-- the reference's map turns: its row is written -/
theorem ST.ref {n₀ B : Nat} {W0 W W' : World} {M a ca b cb R c cc d cd : Nat} {X Y U V U' V' : List Int} (h : ST n₀ B W0 W M a ca b cb R c cc d cd X Y U V) (hg : W.grownBy W' (some c)) (hr : SM 51 W' R c cc d cd U' V') : ST n₀ B W0 W' M a ca b cb R c cc d cd X Y U' V' := by
  obtain ⟨f1, f2, f3, f4, f5⟩ := nin h.nc
  exact ⟨h.p.kept hg (so f2.symm) (so f3.symm) (so f4.symm), hr, h.s.kept hg (so f1.symm) h.n0 (fun k e => by cases e; exact h.gc), h.bel.grown hg h.n0 (fun k e => by cases e; exact h.gc), Nat.le_trans h.n0 hg.size, h.ne, h.nc, h.nd, h.ge, h.gc, h.gd⟩
theorem ST.new_nin {n₀ B d' : Nat} {W0 W : World} {M a ca b cb R c cc d cd : Nat} {X Y U V : List Int} (h : ST n₀ B W0 W M a ca b cb R c cc d cd X Y U V) (hd : W.heap.size ≤ d') : d' ∉ [B, M, a, b, R] :=
  fun hq => by have := h.lts d' hq; omega
/-- the reference's map gets a new second row -/
theorem ST.ref1 {n₀ B : Nat} {W0 W W' : World} {M a ca b cb R c cc d cd d' cd' : Nat} {X Y U V U' V' : List Int} (h : ST n₀ B W0 W M a ca b cb R c cc d cd X Y U V) (hg : W.grownBy W' (some R)) (hd : W.heap.size ≤ d') (hr : SM 51 W' R c cc d' cd' U' V') : ST n₀ B W0 W' M a ca b cb R c cc d' cd' X Y U' V' := by
  obtain ⟨e1, e2, e3, e4, e5, e6, e7, e8, e9, e10⟩ := nd5 h.ne
  have hgR := h.ge R (by simp)
  exact ⟨h.p.kept hg (so e7) (so e9) (so e10), hr, h.s.kept hg (so e4) h.n0 (fun k e => by cases e; exact hgR), h.bel.grown hg h.n0 (fun k e => by cases e; exact hgR), Nat.le_trans h.n0 hg.size, h.ne, h.nc, h.new_nin hd, h.ge, h.gc, Nat.le_trans h.n0 hd⟩
/-- the reference's map gets a new first row -/
theorem ST.ref0 {n₀ B : Nat} {W0 W W' : World} {M a ca b cb R c cc d cd d' cd' : Nat} {X Y U V U' V' : List Int} (h : ST n₀ B W0 W M a ca b cb R c cc d cd X Y U V) (hg : W.grownBy W' (some R)) (hd : W.heap.size ≤ d') (hr : SM 51 W' R d' cd' d cd U' V') : ST n₀ B W0 W' M a ca b cb R d' cd' d cd X Y U' V' := by
  obtain ⟨e1, e2, e3, e4, e5, e6, e7, e8, e9, e10⟩ := nd5 h.ne
  have hgR := h.ge R (by simp)
  exact ⟨h.p.kept hg (so e7) (so e9) (so e10), hr, h.s.kept hg (so e4) h.n0 (fun k e => by cases e; exact hgR), h.bel.grown hg h.n0 (fun k e => by cases e; exact hgR), Nat.le_trans h.n0 hg.size, h.ne, h.new_nin hd, h.nd, h.ge, Nat.le_trans h.n0 hd, h.gd⟩
def L9 : List Int := [0, 0, 0, 1, 1, 2, 3, 65535, 65534]
theorem L9_in : ∀ j, j < 9 → 0 ≤ ge L9 j ∧ ge L9 j ≤ 65535 := by decide
theorem row9 (w : World) : Row (w.alloc (.cells #[.int .i64 0, .int .i64 0, .int .i64 0, .int .i64 1, .int .i64 1, .int .i64 2, .int .i64 3, .int .i64 65535, .int .i64 65534] 3)) w.heap.size 9 L9 := by
  have := World.ownsRow_lit (base := 0) (e := 3) (size := 1) w #[.int .i64 0, .int .i64 0, .int .i64 0, .int .i64 1, .int .i64 1, .int .i64 2, .int .i64 3, .int .i64 65535, .int .i64 65534] 9 (Nat.zero_le _) (by unfold maxLen; omega) rfl
  exact this
theorem okc_app {K : List Int} {x : Int} (h : okc K) (h0 : 0 ≤ x) (h1 : x ≤ 65535) : okc (K ++ [x]) := by
  intro j hj
  simp at hj
  unfold ge
  by_cases e : j < K.length
  · rw [List.getElem?_append_left e]; exact h j e
  · obtain rfl : j = K.length := by omega
    simp; exact ⟨h0, h1⟩
end Go.Proofs.Ytablogkafbajaaa
