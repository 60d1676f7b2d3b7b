/- Writes and flushes of one disk, one after the other, up to the first error. No conditions but those of each theorem. -/
import Derived.Test.YtbgbjgedjmhcaaaSyZ
import Derived.KernelRfl
import Derived.Test.YtbgbjgedjmhcaaaLD
import Derived.Test.YtbgbjgedjmhcaaaLF
import Derived.Test.YtbgbjgedjmhcaaaD4
import Derived.Test.YtbgbjgedjmhcaaaDK
namespace Go.Proofs.Ytbgbjgedjmhcaaa
open Go.RowKit
open OldD (Dk chk3 chk4 rdV wrE wrK flK reK)
set_option linter.unusedVariables false
set_option linter.unnecessarySimpa false
set_option linter.unusedSimpArgs false
set_option maxRecDepth 10000
/-- a write of a sector, or a flush -/
abbrev Act1 := Option (Int × Int)
def actE (k : Dk) : Act1 → Int
  | some x => wrE k 0 x.1
  | none => chk3 k 0 0
def actK (k : Dk) : Act1 → Dk
  | some x => wrK k 0 x.1 x.2
  | none => flK k 0
def seqE (k : Dk) : List Act1 → Int
  | [] => 0
  | a :: r => if actE k a = 0 then seqE (actK k a) r else actE k a
def seqK (k : Dk) : List Act1 → Dk
  | [] => k
  | a :: r => if actE k a = 0 then seqK (actK k a) r else actK k a
theorem seqE_cons (k : Dk) (a : Act1) (r : List Act1) : seqE k (a :: r) = if actE k a = 0 then seqE (actK k a) r else actE k a := rfl
theorem seqK_cons (k : Dk) (a : Act1) (r : List Act1) : seqK k (a :: r) = if actE k a = 0 then seqK (actK k a) r else actK k a := rfl
theorem seq_app : ∀ (A B : List Act1) (k : Dk), seqE k (A ++ B) = (if seqE k A = 0 then seqE (seqK k A) B else seqE k A) ∧ seqK k (A ++ B) = (if seqE k A = 0 then seqK (seqK k A) B else seqK k A)
  | [], B, k => by simp [seqE, seqK]
  | a :: r, B, k => by
    obtain ⟨h1, h2⟩ := seq_app r B (actK k a)
    by_cases h : actE k a = 0
    · simp only [List.cons_append, seqE_cons, seqK_cons, if_pos h]; exact ⟨h1, h2⟩
    · simp [List.cons_append, seqE_cons, seqK_cons, h]
/-- bounds that go on -/
def Bc (k : Dk) (c : Nat) : Prop := (0 ≤ k.fuse ∧ k.fuse ≤ 1000000) ∧ k.F.length ≤ c ∧ 0 ≤ k.wr ∧ k.wr ≤ c
theorem Bc.bd {k : Dk} {c : Nat} (h : Bc k c) (hc : c ≤ 100000) : Bd k := by
  obtain ⟨⟨h1, h2⟩, h3, h4, h5⟩ := h
  unfold Bd
  omega
theorem Bc.mono {k : Dk} {c c' : Nat} (h : Bc k c) (hc : c ≤ c') : Bc k c' := by
  obtain ⟨h1, h3, h4, h5⟩ := h
  exact ⟨h1, by omega, h4, by omega⟩
theorem Bc.act {k : Dk} {c : Nat} (h : Bc k c) (a : Act1) : Bc (actK k a) (c + 1) := by
  obtain ⟨⟨h1, h2⟩, h3, h4, h5⟩ := h
  cases a with
  | some x =>
    show Bc (wrK k 0 x.1 x.2) (c + 1)
    unfold wrK
    split
    · split
      · exact ⟨by show (0 : Int) ≤ 0 ∧ (0 : Int) ≤ 1000000; omega, by show k.F.length ≤ _; omega, h4, by show k.wr ≤ _; omega⟩
      · have e : ∀ z : Int, (OldD.wrote { k with fuse := z } (0 : Int).toNat x.1.toNat x.2).F.length = k.F.length + 1 ∧ (OldD.wrote { k with fuse := z } (0 : Int).toNat x.1.toNat x.2).wr = k.wr + 1 ∧ (OldD.wrote { k with fuse := z } (0 : Int).toNat x.1.toNat x.2).fuse = z := fun z => ⟨by simp [OldD.wrote], rfl, rfl⟩
        refine ⟨?_, ?_, ?_, ?_⟩
        · split
          · rw [(e _).2.2]; omega
          · show 0 ≤ (OldD.wrote k _ _ _).fuse ∧ _; exact ⟨h1, h2⟩
        · split
          · rw [(e _).1]; omega
          · show (OldD.wrote k _ _ _).F.length ≤ _; have := (e k.fuse).1; simp [OldD.wrote]; omega
        · split
          · rw [(e _).2.1]; omega
          · show 0 ≤ k.wr + 1; omega
        · split
          · rw [(e _).2.1]; omega
          · show k.wr + 1 ≤ _; omega
    · exact ⟨⟨h1, h2⟩, by omega, h4, by omega⟩
  | none =>
    show Bc (flK k 0) (c + 1)
    unfold flK
    split
    · exact ⟨⟨h1, h2⟩, Nat.le_trans (List.length_filter_le ..) (by omega), h4, by show k.wr ≤ _; omega⟩
    · exact ⟨⟨h1, h2⟩, by omega, h4, by omega⟩
theorem Bc.seq : ∀ (A : List Act1) {k : Dk} {c : Nat}, Bc k c → Bc (seqK k A) (c + A.length)
  | [], _, _, h => h
  | a :: r, k, c, h => by
    have h1 := h.act a
    unfold seqK
    split
    · have := Bc.seq r h1; exact this.mono (by simp only [List.length_cons]; omega)
    · exact h1.mono (by simp only [List.length_cons]; omega)
/-- one write -/
theorem sw_any (m : Nat) (k : Dk) (N : Nat) (t v : Int) {c : Nat} (hb : Bc k c) (hc : c ≤ 90000) (ht : 0 ≤ t ∧ t < N) (hN : N ≤ 1000) : CallOK Try.prog 170 [.agg [.ptr 0 0 0 0, I 0, I 0, I N], I t, .val (.int .u64 v)] [(0, .box (dbox m k))] (I (wrE k 0 t)) [(0, some (.box (dbox m (wrK k 0 t v))))] := by
  have h := spwrite_ok m k 0 0 N t v ht ⟨by omega, by omega, by omega⟩ (hb.bd (by omega))
  rw [Int.zero_add] at h
  exact h
theorem sf_any (m : Nat) (k : Dk) (N : Nat) {c : Nat} (hb : Bc k c) (hc : c ≤ 90000) : CallOK Try.prog 167 [.agg [.ptr 0 0 0 0, I 0, I 0, I N]] [(0, .box (dbox m k))] (I (chk3 k 0 0)) [(0, some (.box (dbox m (flK k 0))))] :=
  spflush_any m k 0 0 N (by have := hb.2.1; omega)
/-- words to be written, one behind the other -/
def wsA (L : List Int) (s q n : Nat) : List Act1 := (List.range n).map fun (i : Nat) => some ((s : Int) + (i : Int), L.getD (addN q i) default)
theorem wsA_drop (L : List Int) (s q n i : Nat) (h : i < n) : (wsA L s q n).drop i = some ((s : Int) + i, L.getD (addN q i) default) :: (wsA L s q n).drop (i + 1) := by
  rw [List.drop_eq_getElem_cons (by simp [wsA]; exact h)]
  simp [wsA]
set_option maxHeartbeats 4000000 in
theorem writeall_any (m : Nat) (k0 : Dk) (N s q n : Nat) (L : List Int) {c : Nat} (hb0 : Bc k0 c) (hc : c ≤ 10000) (hN : N ≤ 1000) (hs : s + n ≤ N) (hl : L.length = q + n) :
    CallOK Try.prog 67 [.ifc 170 (.agg [.ptr 0 0 0 0, I 0, I 0, I N]), I s, .sl 1 q 1 n none] [(0, .box (dbox m k0)), (1, .ro 1 L.length (rowG encU L))] (I (seqE k0 (wsA L s q n))) [(0, some (.box (dbox m (seqK k0 (wsA L s q n)))))] := by
  refine CallOK.intro Try.call67 Try.func67 rfl rfl ⟨rfl, trivial, rfl, fun _ => rfl, trivial⟩ ?_
  refine Safe.withLoop (loopAt Try.f67 0) [0, 1] 34 (fun g : Nat × Dk => [(0, .ifc 170 (.agg [.ptr 0 0 0 0, I 0, I 0, I N])), (1, I s), (17, .sl 1 q 1 n none), (18, I n), (19, I g.1)]) (fun g => [(0, .box (dbox m g.2)), (1, .ro 1 L.length (rowG encU L))]) (fun g => g.1 ≤ n ∧ Bc g.2 (c + g.1) ∧ seqE k0 (wsA L s q n) = seqE g.2 ((wsA L s q n).drop g.1) ∧ seqK k0 (wsA L s q n) = seqK g.2 ((wsA L s q n).drop g.1)) (fun g => n - g.1) ?_ ?_
  · rintro ⟨i, k⟩ ⟨hi, hb, r1, r2⟩ ih
    dsimp only at hi hb r1 r2 ih ⊢
    by_cases hlt : i < n
    · have hlt2 : (i : Int) < (n : Int) := by omega
      have hq : addN q i = q + i := addN_eq ..
      have wr := sw_any m k N ((s : Int) + i) (L.getD (addN q i) default) hb (by omega) ⟨by omega, by omega⟩ hN
      have hb2 := hb.act (some ((s : Int) + i, L.getD (addN q i) default))
      rw [wsA_drop L s q n i hlt] at r1 r2
      rw [seqE_cons] at r1
      rw [seqK_cons] at r2
      by_cases he : actE k (some ((s : Int) + i, L.getD (addN q i) default)) = 0
      · rw [if_pos he] at r1 r2
        have he : wrE k 0 ((s : Int) + i) = 0 := he
        rw [he] at wr
        have ih1 := ih (i + 1, wrK k 0 ((s : Int) + i) (L.getD (addN q i) default)) ⟨by omega, hb2.mono (by omega), r1, r2⟩ (by dsimp only; omega)
        clear r1 r2 hb hb2
        refine Safe.goto mixed 18 [⟨1100, [(0, .tt true)]⟩, ⟨1200, []⟩, ⟨1300, [(5, .inv 170 (.agg [.ptr 0 0 0 0, I 0, I 0, I ((↑N : Int))]) [0] (I 0) [(0, some (.box (dbox m (wrK k (0 : Int) ((↑s : Int) + (↑i : Int)) (L.getD (addN q i) default)))))])]⟩, ⟨1400, []⟩, ⟨1500, []⟩] [0, 1, 17, 18, 19] [0, 1] (todo' := loopAt Try.f67 0) (sl := slotsOf 34 [(0, .ifc 170 (.agg [.ptr 0 0 0 0, I 0, I 0, I ((↑N : Int))])), (1, I ((↑s : Int))), (17, .sl 1 q 1 n none), (18, I ((↑n : Int))), (19, I ((↑i : Int) + (1 : Int)))]) (hp := [(0, .box (dbox m (wrK k (0 : Int) ((↑s : Int) + (↑i : Int)) (L.getD (addN q i) default)))), (1, .ro 1 L.length (rowG encU L))]) (ob := [decide ((↑i : Int) < (↑n : Int)) = true, (0 : Int) ≤ (↑i : Int) ∧ (↑i : Int) < (↑n : Int), addN q i < L.length, inK IntKind.i64 ((↑s : Int) + (↑i : Int)), MethOK Try.prog "Write" (AV.ifc (170 : Nat) (AV.agg [AV.ptr (0 : Nat) (0 : Nat) (0 : Nat) (0 : Nat), AV.val (Value.int IntKind.i64 (0 : Int)), AV.val (Value.int IntKind.i64 (0 : Int)), AV.val (Value.int IntKind.i64 (↑N : Int))])) (170 : Nat) (AV.agg [AV.ptr (0 : Nat) (0 : Nat) (0 : Nat) (0 : Nat), AV.val (Value.int IntKind.i64 (0 : Int)), AV.val (Value.int IntKind.i64 (0 : Int)), AV.val (Value.int IntKind.i64 (↑N : Int))]), CallOK Try.prog (170 : Nat) [AV.agg [AV.ptr (0 : Nat) (0 : Nat) (0 : Nat) (0 : Nat), AV.val (Value.int IntKind.i64 (0 : Int)), AV.val (Value.int IntKind.i64 (0 : Int)), AV.val (Value.int IntKind.i64 (↑N : Int))], AV.val (Value.int IntKind.i64 ((↑s : Int) + (↑i : Int))), AV.val (Value.int IntKind.u64 (L.getD (addN q i) default))] [((0 : Nat), Ob.box (dbox m k))] (AV.val (Value.int IntKind.i64 (0 : Int))) [((0 : Nat), some (Ob.box (dbox m (wrK k (0 : Int) ((↑s : Int) + (↑i : Int)) (L.getD (addN q i) default)))))], inK IntKind.i64 ((↑i : Int) + (1 : Int))]) rfl rfl (by kernel_rfl) ⟨(decide_eq_true hlt2), (by omega), (by omega), (by simp only [inK]; omega), (MethOK.of (by kernel_rfl)), wr, (by simp only [inK]; omega), trivial⟩ rfl ⟨rfl, trivial, rfl, fun _ => rfl, trivial⟩ ?_
        all_goals exact ih1
      · rw [if_neg he] at r1 r2
        rw [r1, r2]
        have he2 : ¬ wrE k 0 ((s : Int) + i) = 0 := he
        show Safe _ _ _ (I (wrE k 0 ((s : Int) + i))) [(0, some (.box (dbox m (wrK k 0 ((s : Int) + i) (L.getD (addN q i) default)))))] _ _ _
        clear r1 r2 hb hb2 he
        refine Safe.ends mixed Try.func67 16 [⟨1100, [(0, .tt true)]⟩, ⟨1200, []⟩, ⟨1300, [(5, .inv 170 (.agg [.ptr 0 0 0 0, I 0, I 0, I ((↑N : Int))]) [0] (I (wrE k (0 : Int) ((↑s : Int) + (↑i : Int)))) [(0, some (.box (dbox m (wrK k (0 : Int) ((↑s : Int) + (↑i : Int)) (L.getD (addN q i) default)))))])]⟩, ⟨1400, [(1, .tt true)]⟩, ⟨1500, []⟩] (r := I (wrE k (0 : Int) ((↑s : Int) + (↑i : Int)))) (hp := [(0, .box (dbox m (wrK k (0 : Int) ((↑s : Int) + (↑i : Int)) (L.getD (addN q i) default)))), (1, .ro 1 L.length (rowG encU L))]) (ob := [decide ((↑i : Int) < (↑n : Int)) = true, (0 : Int) ≤ (↑i : Int) ∧ (↑i : Int) < (↑n : Int), addN q i < L.length, inK IntKind.i64 ((↑s : Int) + (↑i : Int)), MethOK Try.prog "Write" (AV.ifc (170 : Nat) (AV.agg [AV.ptr (0 : Nat) (0 : Nat) (0 : Nat) (0 : Nat), AV.val (Value.int IntKind.i64 (0 : Int)), AV.val (Value.int IntKind.i64 (0 : Int)), AV.val (Value.int IntKind.i64 (↑N : Int))])) (170 : Nat) (AV.agg [AV.ptr (0 : Nat) (0 : Nat) (0 : Nat) (0 : Nat), AV.val (Value.int IntKind.i64 (0 : Int)), AV.val (Value.int IntKind.i64 (0 : Int)), AV.val (Value.int IntKind.i64 (↑N : Int))]), CallOK Try.prog (170 : Nat) [AV.agg [AV.ptr (0 : Nat) (0 : Nat) (0 : Nat) (0 : Nat), AV.val (Value.int IntKind.i64 (0 : Int)), AV.val (Value.int IntKind.i64 (0 : Int)), AV.val (Value.int IntKind.i64 (↑N : Int))], AV.val (Value.int IntKind.i64 ((↑s : Int) + (↑i : Int))), AV.val (Value.int IntKind.u64 (L.getD (addN q i) default))] [((0 : Nat), Ob.box (dbox m k))] (AV.val (Value.int IntKind.i64 (wrE k (0 : Int) ((↑s : Int) + (↑i : Int))))) [((0 : Nat), some (Ob.box (dbox m (wrK k (0 : Int) ((↑s : Int) + (↑i : Int)) (L.getD (addN q i) default)))))], (decide ¬wrE k (0 : Int) ((↑s : Int) + (↑i : Int)) = (0 : Int)) = true]) rfl (by kernel_rfl) ⟨(decide_eq_true hlt2), (by omega), (by omega), (by simp only [inK]; omega), (MethOK.of (by kernel_rfl)), wr, (decide_eq_true he2), trivial⟩ rfl ⟨ObLe.refl _, ObLe.refl _, trivial⟩ ⟨rfl, trivial, rfl, fun _ => rfl, trivial⟩ rfl
    · have hn : ¬ ((i : Int) < (n : Int)) := by omega
      have ed : (wsA L s q n).drop i = [] := by rw [List.drop_eq_nil_iff]; simp [wsA]; omega
      rw [ed] at r1 r2
      rw [r1, r2]
      simp only [seqE, seqK]
      clear r1 r2 hb
      refine Safe.ends mixed Try.func67 7 [⟨1100, [(0, .tt false)]⟩, ⟨1200, []⟩] (r := I 0) (hp := [(0, .box (dbox m k)), (1, .ro 1 L.length (rowG encU L))]) (ob := [decide ((↑i : Int) < (↑n : Int)) = false]) rfl (by kernel_rfl) ⟨(decide_eq_false hn), trivial⟩ rfl ⟨ObLe.refl _, ObLe.refl _, trivial⟩ ⟨rfl, trivial, rfl, fun _ => rfl, trivial⟩ rfl
  · intro H
    have ft := fits_any N s n (by omega)
    rw [decide_eq_true (show 0 ≤ (s : Int) ∧ (s : Int) ≤ N ∧ 0 ≤ (n : Int) ∧ (n : Int) ≤ N - s by omega)] at ft
    have H0 := H (0, k0) ⟨Nat.zero_le _, hb0, rfl, rfl⟩
    refine Safe.goto mixed 12 [⟨1100, []⟩, ⟨1200, [(1, .inv 169 (.agg [.ptr 0 0 0 0, I 0, I 0, I ((↑N : Int))]) [0] (I ((↑N : Int))) []), (5, .call [] (B true) [])]⟩, ⟨1300, []⟩] [0, 1, 17, 18, 19] [0, 1] (todo' := loopAt Try.f67 0) (sl := slotsOf 34 [(0, .ifc 170 (.agg [.ptr 0 0 0 0, I 0, I 0, I ((↑N : Int))])), (1, I ((↑s : Int))), (17, .sl 1 q 1 n none), (18, I ((↑n : Int))), (19, I 0)]) (hp := [(0, .box (dbox m k0)), (1, .ro 1 L.length (rowG encU L))]) (ob := [MethOK Try.prog "Size" (AV.ifc (170 : Nat) (AV.agg [AV.ptr (0 : Nat) (0 : Nat) (0 : Nat) (0 : Nat), AV.val (Value.int IntKind.i64 (0 : Int)), AV.val (Value.int IntKind.i64 (0 : Int)), AV.val (Value.int IntKind.i64 (↑N : Int))])) (169 : Nat) (AV.agg [AV.ptr (0 : Nat) (0 : Nat) (0 : Nat) (0 : Nat), AV.val (Value.int IntKind.i64 (0 : Int)), AV.val (Value.int IntKind.i64 (0 : Int)), AV.val (Value.int IntKind.i64 (↑N : Int))]), CallOK Try.prog (169 : Nat) [AV.agg [AV.ptr (0 : Nat) (0 : Nat) (0 : Nat) (0 : Nat), AV.val (Value.int IntKind.i64 (0 : Int)), AV.val (Value.int IntKind.i64 (0 : Int)), AV.val (Value.int IntKind.i64 (↑N : Int))]] [((0 : Nat), Ob.box (dbox m k0))] (AV.val (Value.int IntKind.i64 (↑N : Int))) [], CallOK Try.prog (102 : Nat) ([] ++ [AV.val (Value.int IntKind.i64 (↑N : Int)), AV.val (Value.int IntKind.i64 (↑s : Int)), AV.val (Value.int IntKind.i64 (↑n : Int))] ++ []) [] (AV.val (Value.bool true)) []]) rfl rfl (by kernel_rfl) ⟨(MethOK.of (by kernel_rfl)), (spsize_any m k0 0 0 ((↑N : Int))), ft, trivial⟩ rfl ⟨rfl, trivial, rfl, fun _ => rfl, trivial⟩ ?_
    · exact H0
/-- what the first sectors hold -/
def rdP (k : Dk) (n : Nat) : List Int := (List.range n).map fun t => nw k 0 t
theorem rdP_len (k : Dk) (n : Nat) : (rdP k n).length = n := by simp [rdP]
theorem rdP_succ (k : Dk) (n : Nat) : rdP k (n + 1) = rdP k n ++ [nw k 0 n] := by simp [rdP, List.range_succ]
set_option maxHeartbeats 4000000 in
theorem readall_g (m : Nat) (k : Dk) (N n : Nat) {c : Nat} (g : Gk k 1 (fun _ => N) c) (hdn : k.down = false) (hN : N ≤ 1000) (hn : n ≤ N) :
    CallOK Try.prog 62 [.ifc 170 (.agg [.ptr 0 0 0 0, I 0, I 0, I N]), I 0, I n] [(0, .box (dbox m k))] (.tup [.sl 10 0 1 n none, I 0]) [(0, some (.box (dbox m k))), (10, some (.vec 22 1 n (rowG encU (rdP k n))))] := by
  refine CallOK.intro Try.call62 Try.func62 rfl rfl ⟨rfl, trivial, trivial⟩ ?_
  refine Safe.withLoop (loopAt Try.f62 0) [0, 20] 39 (fun i : Nat => [(0, .ifc 170 (.agg [.ptr 0 0 0 0, I 0, I 0, I N])), (1, I 0), (8, .sl 20 0 1 (rdP k i).length none), (18, I n), (19, I i)]) (fun i => [(0, .box (dbox m k)), (20, .vec 22 1 (rdP k i).length (rowG encU (rdP k i)))]) (fun i => i ≤ n) (fun i => n - i) ?_ ?_
  · intro i hi ih
    have hl := rdP_len k i
    by_cases hlt : i < n
    · have hlt2 : (i : Int) < (n : Int) := by omega
      have rd := spread_ok m k 0 0 N (0 + (i : Int)) ⟨by omega, by omega⟩ ⟨by omega, by omega, by omega⟩
      have e1 := g.rd hdn (d := 0) (t := i) (by omega) (show i < N by omega)
      have e2 := (g.chk hdn (d := 0) (t := i) (by omega) (show i < N by omega)).2
      rw [show (0 : Int) + (0 + (i : Int)) = ((i : Nat) : Int) by omega] at rd
      simp only [Int.natCast_zero] at e1 e2
      rw [e1, e2] at rd
      refine Safe.goto mixed 20 [⟨1100, [(0, .tt true)]⟩, ⟨1200, []⟩, ⟨1300, [(4, .inv 168 (.agg [.ptr 0 0 0 0, I 0, I 0, I ((↑N : Int))]) [0] (.tup [.val (Value.int IntKind.u64 (nw k (0 : Nat) i)), I 0]) [(0, some (.box (dbox m k)))])]⟩, ⟨1400, []⟩, ⟨1500, []⟩, ⟨1600, []⟩] [0, 1, 8, 18, 19] [0, 1503] (todo' := loopAt Try.f62 0) (sl := slotsOf 39 [(0, .ifc 170 (.agg [.ptr 0 0 0 0, I 0, I 0, I ((↑N : Int))])), (1, I 0), (8, .sl 1503 0 1 (addN (rdP k i).length (1 : Nat)) none), (18, I ((↑n : Int))), (19, I ((↑i : Int) + (1 : Int)))]) (hp := [(0, .box (dbox m k)), (1503, .vec 22 1 (addN (rdP k i).length (1 : Nat)) (catR (rdP k i).length (rowG encU (rdP k i)) (rowsOf [AV.val (Value.int IntKind.u64 (nw k (0 : Nat) i))] (1 : Nat))))]) (ob := [decide ((↑i : Int) < (↑n : Int)) = true, inK IntKind.i64 ((0 : Int) + (↑i : Int)), MethOK Try.prog "Read" (AV.ifc (170 : Nat) (AV.agg [AV.ptr (0 : Nat) (0 : Nat) (0 : Nat) (0 : Nat), AV.val (Value.int IntKind.i64 (0 : Int)), AV.val (Value.int IntKind.i64 (0 : Int)), AV.val (Value.int IntKind.i64 (↑N : Int))])) (168 : Nat) (AV.agg [AV.ptr (0 : Nat) (0 : Nat) (0 : Nat) (0 : Nat), AV.val (Value.int IntKind.i64 (0 : Int)), AV.val (Value.int IntKind.i64 (0 : Int)), AV.val (Value.int IntKind.i64 (↑N : Int))]), CallOK Try.prog (168 : Nat) [AV.agg [AV.ptr (0 : Nat) (0 : Nat) (0 : Nat) (0 : Nat), AV.val (Value.int IntKind.i64 (0 : Int)), AV.val (Value.int IntKind.i64 (0 : Int)), AV.val (Value.int IntKind.i64 (↑N : Int))], AV.val (Value.int IntKind.i64 ((0 : Int) + (↑i : Int)))] [((0 : Nat), Ob.box (dbox m k))] (AV.tup [AV.val (Value.int IntKind.u64 (nw k (0 : Nat) i)), AV.val (Value.int IntKind.i64 (0 : Int))]) [((0 : Nat), some (Ob.box (dbox m k)))], (0 : Nat) + (1 : Nat) ≤ (1 : Nat), (rdP k i).length = (rdP k i).length, (rdP k i).length + (1 : Nat) ≤ (1099511627776 : Nat), inK IntKind.i64 ((↑i : Int) + (1 : Int))]) rfl rfl (by kernel_rfl) ⟨(decide_eq_true hlt2), (by simp only [inK]; omega), (MethOK.of (by kernel_rfl)), rd, (by omega), (by omega), (by omega), (by simp only [inK]; omega), trivial⟩ rfl ⟨rfl, trivial, rfl, closed_cat (fun _ => rfl) (closed_rows rfl), trivial⟩ ?_
      refine Safe.ren [(1503, 20)] rfl rfl rfl rfl ⟨rfl, trivial, rfl, closed_cat (fun _ => rfl) (closed_rows rfl), trivial⟩ ?_
      · skip
        have e3 : addN (rdP k i).length 1 = (rdP k (i + 1)).length := by rw [addN_eq, rdP_len, rdP_len]
        rw [e3]
        refine Safe.leH (ih (i + 1) (by omega) (by omega)) rfl (SlLe.refl _) ⟨ObLe.refl _, ?_, trivial⟩ rfl ⟨rfl, trivial, rfl, fun _ => rfl, trivial⟩
        rw [rdP_succ]
        exact ob_ren_one encU (rdP k i) (nw k 0 i) _ (by simp) (fun _ => rfl) rfl
    · have hn : ¬ ((i : Int) < (n : Int)) := by omega
      obtain rfl : i = n := by omega
      refine Safe.gotoE mixed 7 [⟨1100, [(0, .tt false)]⟩, ⟨1200, []⟩] [6, 7] [0, 20] (sl := slotsOf 39 [(6, .sl 20 0 1 ((rdP k i).length) none), (7, I 0)]) (hp := [(0, .box (dbox m k)), (20, .vec 22 1 ((rdP k i).length) (rowG encU (rdP k i)))]) (ob := [decide ((↑i : Int) < (↑i : Int)) = false]) rfl rfl (by kernel_rfl) ⟨(decide_eq_false hn), trivial⟩ rfl ⟨rfl, trivial, rfl, fun _ => rfl, trivial⟩ fun td htd => ?_
      refine Safe.ren [(20, 10)] rfl rfl rfl rfl ⟨rfl, trivial, rfl, fun _ => rfl, trivial⟩ ?_
      refine Safe.endsT Try.func62 htd (r := .tup [.sl 10 0 1 ((rdP k i).length) none, I 0]) (hp := [(0, .box (dbox m k)), (10, .vec 22 1 ((rdP k i).length) (fun q => renL [((20 : Nat), (10 : Nat))] (rowG encU (rdP k i) q)))]) (ob := []) rfl (by kernel_rfl) trivial ?_ ⟨ObLe.refl _, ?_, trivial⟩ ⟨rfl, trivial, rfl, fun _ => rfl, trivial⟩ rfl
      · rw [rdP_len]; rfl
      · rw [rdP_len]; exact ⟨rfl, rfl, rfl, fun _ _ => rfl⟩
  · intro H
    have ft := fits_any N 0 n (by omega)
    rw [decide_eq_true (show (0 : Int) ≤ 0 ∧ (0 : Int) ≤ N ∧ 0 ≤ (n : Int) ∧ (n : Int) ≤ N - 0 by omega)] at ft
    refine Safe.goto mixed 14 [⟨1100, []⟩, ⟨1200, [(1, .inv 169 (.agg [.ptr 0 0 0 0, I 0, I 0, I ((↑N : Int))]) [0] (I ((↑N : Int))) []), (4, .call [] (B true) [])]⟩, ⟨1300, []⟩, ⟨1400, []⟩] [0, 1, 8, 18, 19] [0] (todo' := loopAt Try.f62 0) (sl := slotsOf 39 [(0, .ifc 170 (.agg [.ptr 0 0 0 0, I 0, I 0, I ((↑N : Int))])), (1, I 0), (8, .val (Value.slice none (0 : Nat) (0 : Nat))), (18, I ((↑n : Int))), (19, I 0)]) (hp := [(0, .box (dbox m k))]) (ob := [MethOK Try.prog "Size" (AV.ifc (170 : Nat) (AV.agg [AV.ptr (0 : Nat) (0 : Nat) (0 : Nat) (0 : Nat), AV.val (Value.int IntKind.i64 (0 : Int)), AV.val (Value.int IntKind.i64 (0 : Int)), AV.val (Value.int IntKind.i64 (↑N : Int))])) (169 : Nat) (AV.agg [AV.ptr (0 : Nat) (0 : Nat) (0 : Nat) (0 : Nat), AV.val (Value.int IntKind.i64 (0 : Int)), AV.val (Value.int IntKind.i64 (0 : Int)), AV.val (Value.int IntKind.i64 (↑N : Int))]), CallOK Try.prog (169 : Nat) [AV.agg [AV.ptr (0 : Nat) (0 : Nat) (0 : Nat) (0 : Nat), AV.val (Value.int IntKind.i64 (0 : Int)), AV.val (Value.int IntKind.i64 (0 : Int)), AV.val (Value.int IntKind.i64 (↑N : Int))]] [((0 : Nat), Ob.box (dbox m k))] (AV.val (Value.int IntKind.i64 (↑N : Int))) [], CallOK Try.prog (102 : Nat) ([] ++ [AV.val (Value.int IntKind.i64 (↑N : Int)), AV.val (Value.int IntKind.i64 (0 : Int)), AV.val (Value.int IntKind.i64 (↑n : Int))] ++ []) [] (AV.val (Value.bool true)) []]) rfl rfl (by kernel_rfl) ⟨(MethOK.of (by kernel_rfl)), (spsize_any m k 0 0 ((↑N : Int))), ft, trivial⟩ rfl ⟨rfl, trivial, trivial⟩ ?_
    · refine Safe.nil 8 20 22 1 (rowG encU []) rfl rfl ⟨rfl, trivial, trivial⟩ ?_ rfl
      exact Safe.leH (H 0 (Nat.zero_le _)) rfl (SlLe.refl _) ⟨ObLe.refl _, ⟨rfl, rfl, rfl, fun _ _ => rfl⟩, trivial⟩ rfl ⟨rfl, trivial, rfl, fun _ => rfl, trivial⟩
end Go.Proofs.Ytbgbjgedjmhcaaa
