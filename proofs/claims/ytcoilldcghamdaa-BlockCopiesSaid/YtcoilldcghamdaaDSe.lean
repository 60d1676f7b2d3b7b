/- ReadAll, WriteAll, copies of words, a bad sector. No conditions but those of each theorem. -/
import Derived.Test.YtcoilldcghamdaaSyZ
import Derived.KernelRfl
import Derived.Test.YtcoilldcghamdaaDSx
namespace Go.Proofs.Ytcoilldcghamdaa
open Go.RowKit
open OldD (DA Dk Co Un fp Gr Row Fresh hid hd hs gu nk good ldK ge vu Ar un stF chk3 chk4 rdV wrE wrK flK)
set_option linter.unusedVariables false
set_option linter.unnecessarySimpa false
set_option linter.unusedSimpArgs false
set_option maxRecDepth 10000
/-- words laid over a list, one behind the other -/
def ovL (P : List Int) (s : Nat) (l : List Int) : Nat → List Int
  | 0 => P
  | i + 1 => (ovL P s l i).set (s + i) (l.getD i default)
theorem ovL_len (P : List Int) (s : Nat) (l : List Int) : ∀ i, (ovL P s l i).length = P.length
  | 0 => rfl
  | i + 1 => by rw [ovL, List.length_set]; exact ovL_len P s l i
theorem ovL_at (P : List Int) (s : Nat) (l : List Int) : ∀ (i j : Nat), j < P.length → (ovL P s l i).getD j default = if s ≤ j ∧ j < s + i then l.getD (j - s) default else P.getD j default
  | 0, j, hj => by rw [if_neg (by omega)]; rfl
  | i + 1, j, hj => by
    have ih := ovL_at P s l i j hj
    rw [ovL, List.getD_eq_getElem?_getD, List.getElem?_set]
    by_cases e : s + i = j
    · subst e
      rw [if_pos rfl, if_pos (by rw [ovL_len]; exact hj), if_pos (by omega), show s + i - s = i by omega]; rfl
    · rw [if_neg e, ← List.getD_eq_getElem?_getD, ih]
      by_cases h : s ≤ j ∧ j < s + i
      · rw [if_pos h, if_pos (by omega)]
      · rw [if_neg h, if_neg (by omega)]
theorem Gd.w0 {k : Dk} {P Q : List Int} {c : Nat} (h : Gd k P Q c) {x : Int} (v : Int) (hx : 0 ≤ x ∧ x < P.length) : Gd (wrK k 0 x v) (P.set x.toNat v) Q (c + 1) := by
  obtain ⟨_, e3, _, _⟩ := h.rd (d := 0) (.inl rfl) hx
  obtain ⟨a, b, hu⟩ := h.u
  have hf := h.fuse
  have hw : wrK k 0 x v = OldD.wrote k 0 x.toNat v := by
    unfold wrK
    rw [if_pos e3, if_neg (by omega), if_neg (by omega)]
    rfl
  rw [hw]
  refine ⟨⟨a, b, ?_⟩, h.down, h.fuse, fun y z => ?_, ?_, ?_⟩
  · simp [OldD.wrote, hu, gu]
  · simp only [OldD.wrote]
    split
    · rfl
    · exact h.bad y z
  · have := h.F
    simp [OldD.wrote]; omega
  · have := h.wr
    simp [OldD.wrote]; omega
def wK (k : Dk) (s : Int) (l : List Int) : Nat → Dk
  | 0 => k
  | i + 1 => wrK (wK k s l i) 0 (s + i) (l.getD i default)
theorem wK_gd {k : Dk} {P Q : List Int} {c : Nat} (h : Gd k P Q c) (s : Nat) (l : List Int) : ∀ i, s + i ≤ P.length → Gd (wK k (s : Int) l i) (ovL P s l i) Q (c + i)
  | 0, _ => h
  | i + 1, hi => by
    have ih := wK_gd h s l i (by omega)
    have e : ((s : Int) + i).toNat = s + i := by omega
    have := ih.w0 (x := (s : Int) + i) (l.getD i default) ⟨by omega, by rw [ovL_len]; omega⟩
    rw [e] at this
    exact this
theorem wr0_c {k : Dk} {P Q : List Int} {c : Nat} (g : Gd k P Q c) (hc : c ≤ 2 ^ 32) (N : Nat) (hN : N ≤ 1000) (hP : P.length = N) (x v : Int) (hx : 0 ≤ x ∧ x < N) :
    CallOK Try.prog 88 [.agg [.ptr 0 0 0 0, I 0, I 0, I N], I x, .val (.int .u64 v)] [(0, .box (dbox 0 k))] (I 0) [(0, some (.box (dbox 0 (wrK k 0 x v))))] := by
  have h := spwrite_ok 0 k 0 0 N x v hx ⟨by omega, by omega, by omega⟩ (g.bd hc)
  obtain ⟨_, _, ew, _⟩ := g.rd (d := 0) (x := x) (.inl rfl) ⟨hx.1, by show _ < (P.length : Int); omega⟩
  rw [Int.zero_add, ew] at h
  exact h
def rdL (P : List Int) (s i : Nat) : List Int := (List.range i).map fun t => P.getD (s + t) default
theorem rdL_len (P : List Int) (s i : Nat) : (rdL P s i).length = i := by simp [rdL]
theorem rdL_succ (P : List Int) (s i : Nat) : rdL P s (i + 1) = rdL P s i ++ [P.getD (s + i) default] := by simp [rdL, List.range_succ]
theorem rdL_at (P : List Int) (s i t : Nat) (h : t < i) : (rdL P s i).getD t default = P.getD (s + t) default := by
  simp [rdL, List.getD_eq_getElem?_getD, h]
set_option maxHeartbeats 4000000 in
theorem readall_ok {k : Dk} {P Q : List Int} {c : Nat} (g : Gd k P Q c) (N s m : Nat) (hN : N ≤ 1000) (hP : P.length = N) (hQ : Q.length = N) (hs : s + m ≤ N) :
    CallOK Try.prog 27 [.ifc 100 (.agg [.ptr 0 0 0 0, I 0, I 0, I N]), I s, I m] [(0, .box (dbox 0 k))] (.tup [.sl 10 0 1 m none, I 0]) [(0, some (.box (dbox 0 k))), (10, some (.vec 36 1 m (rowG encU (rdL P s m))))] := by
  refine CallOK.intro Try.call27 Try.func27 rfl rfl ⟨rfl, trivial, trivial⟩ ?_
  refine Safe.withLoop (loopAt Try.f27 0) [0, 20] 39 (fun i : Nat => [(0, .ifc 100 (.agg [.ptr 0 0 0 0, I 0, I 0, I N])), (1, I s), (8, .sl 20 0 1 (rdL P s i).length none), (18, I m), (19, I i)]) (fun i => [(0, .box (dbox 0 k)), (20, .vec 36 1 (rdL P s i).length (rowG encU (rdL P s i)))]) (fun i => i ≤ m) (fun i => m - i) ?_ ?_
  · intro i hi ih
    have hl := rdL_len P s i
    by_cases hlt : i < m
    · have hlt2 : (i : Int) < (m : Int) := by omega
      have rd := rd_c g N hN hP hQ 0 ((s : Int) + i) (.inl rfl) ⟨by omega, by omega⟩
      rw [show ((s : Int) + i).toNat = s + i by omega, show pick P Q 0 = P from rfl] at rd
      refine Safe.goto mixed 20 [⟨1100, [(0, .tt true)]⟩, ⟨1200, []⟩, ⟨1300, [(4, .inv 86 (.agg [.ptr ((0 : Nat)) ((0 : Nat)) ((0 : Nat)) ((0 : Nat)), I ((0 : Int)), I ((0 : Int)), I ((↑N : Int))]) [0] (.tup [.val (Value.int IntKind.u64 (P.getD (s + i) default)), I ((0 : Int))]) [(0, some (.box (dbox (0 : Nat) k)))])]⟩, ⟨1400, []⟩, ⟨1500, []⟩, ⟨1600, []⟩] [0, 1, 8, 18, 19] [0, 1503] (todo' := loopAt Go.Proofs.Try.f27 0) (sl := slotsOf 39 [(0, .ifc ((100 : Nat)) (.agg [.ptr ((0 : Nat)) ((0 : Nat)) ((0 : Nat)) ((0 : Nat)), I ((0 : Int)), I ((0 : Int)), I ((↑N : Int))])), (1, I ((↑s : Int))), (8, .sl ((1503 : Nat)) ((0 : Nat)) ((1 : Nat)) (addN (rdL P s i).length (1 : Nat)) (none)), (18, I ((↑m : Int))), (19, I ((↑i : Int) + (1 : Int)))]) (hp := [(0, .box (dbox (0 : Nat) k)), (1503, .vec ((36 : Nat)) ((1 : Nat)) (addN (rdL P s i).length (1 : Nat)) (catR (rdL P s i).length (rowG encU (rdL P s i)) (rowsOf [AV.val (Value.int IntKind.u64 (P.getD (s + i) default))] (1 : Nat))))]) (ob := [decide ((↑i : Int) < (↑m : Int)) = true, inK IntKind.i64 ((↑s : Int) + (↑i : Int)), MethOK Try.prog "Read" (AV.ifc (100 : Nat) (AV.agg [AV.ptr (0 : Nat) (0 : Nat) (0 : Nat) (0 : Nat), AV.val (Value.int IntKind.i64 (0 : Int)), AV.val (Value.int IntKind.i64 (0 : Int)), AV.val (Value.int IntKind.i64 (↑N : Int))])) (86 : Nat) (AV.agg [AV.ptr (0 : Nat) (0 : Nat) (0 : Nat) (0 : Nat), AV.val (Value.int IntKind.i64 (0 : Int)), AV.val (Value.int IntKind.i64 (0 : Int)), AV.val (Value.int IntKind.i64 (↑N : Int))]), CallOK Try.prog (86 : Nat) [AV.agg [AV.ptr (0 : Nat) (0 : Nat) (0 : Nat) (0 : Nat), AV.val (Value.int IntKind.i64 (0 : Int)), AV.val (Value.int IntKind.i64 (0 : Int)), AV.val (Value.int IntKind.i64 (↑N : Int))], AV.val (Value.int IntKind.i64 ((↑s : Int) + (↑i : Int)))] [((0 : Nat), Ob.box (dbox (0 : Nat) k))] (AV.tup [AV.val (Value.int IntKind.u64 (P.getD (s + i) default)), AV.val (Value.int IntKind.i64 (0 : Int))]) [((0 : Nat), some (Ob.box (dbox (0 : Nat) k)))], (0 : Nat) + (1 : Nat) ≤ (1 : Nat), (rdL P s i).length = (rdL P s i).length, (rdL P s i).length + (1 : Nat) ≤ (1099511627776 : Nat), inK IntKind.i64 ((↑i : Int) + (1 : Int))]) rfl rfl (by kernel_rfl) ⟨(decide_eq_true hlt2), (by simp only [inK]; omega), (MethOK.of (by kernel_rfl)), rd, (by omega), (by omega), (by omega), (by simp only [inK]; omega), trivial⟩ rfl ⟨rfl, trivial, rfl, closed_cat (fun _ => rfl) (closed_rows rfl), trivial⟩ ?_
      refine Safe.ren [(1503, 20)] rfl rfl rfl rfl ⟨rfl, trivial, rfl, closed_cat (fun _ => rfl) (closed_rows rfl), trivial⟩ ?_
      · skip
        have e2 : addN (rdL P s i).length 1 = (rdL P s (i + 1)).length := by rw [addN_eq, rdL_len, rdL_len]
        rw [e2]
        refine Safe.leH (ih (i + 1) (by omega) (by omega)) rfl (SlLe.refl _) ⟨ObLe.refl _, ?_, trivial⟩ rfl ⟨rfl, trivial, rfl, fun _ => rfl, trivial⟩
        rw [rdL_succ]
        exact ob_ren_one encU (rdL P s i) (P.getD (s + i) default) _ (by simp) (fun _ => rfl) rfl
    · have hn : ¬ ((i : Int) < (m : Int)) := by omega
      obtain rfl : i = m := by omega
      refine Safe.gotoE mixed 7 [⟨1100, [(0, .tt false)]⟩, ⟨1200, []⟩] [6, 7] [0, 20] (sl := slotsOf 39 [(6, .sl ((20 : Nat)) ((0 : Nat)) ((1 : Nat)) ((rdL P s i).length) (none)), (7, I ((0 : Int)))]) (hp := [(0, .box (dbox (0 : Nat) k)), (20, .vec ((36 : Nat)) ((1 : Nat)) ((rdL P s i).length) (rowG encU (rdL P s i)))]) (ob := [decide ((↑i : Int) < (↑i : Int)) = false]) rfl rfl (by kernel_rfl) ⟨(decide_eq_false hn), trivial⟩ rfl ⟨rfl, trivial, rfl, fun _ => rfl, trivial⟩ fun td htd => ?_
      refine Safe.ren [(20, 10)] rfl rfl rfl rfl ⟨rfl, trivial, rfl, fun _ => rfl, trivial⟩ ?_
      refine Safe.endsT Go.Proofs.Try.func27 htd (r := .tup [.sl ((10 : Nat)) ((0 : Nat)) ((1 : Nat)) ((rdL P s i).length) (none), I ((0 : Int))]) (hp := [(0, .box (dbox (0 : Nat) k)), (10, .vec ((36 : Nat)) ((1 : Nat)) ((rdL P s i).length) (fun q => renL [((20 : Nat), (10 : Nat))] (rowG encU (rdL P s i) q)))]) (ob := []) rfl (by kernel_rfl) trivial ?_ ⟨ObLe.refl _, ?_, trivial⟩ ⟨rfl, trivial, rfl, fun _ => rfl, trivial⟩ rfl
      · rw [rdL_len]; rfl
      · rw [rdL_len]; exact ⟨rfl, rfl, rfl, fun _ _ => rfl⟩
  · intro H
    have ft := fits_any N s m (by omega)
    rw [decide_eq_true (show 0 ≤ (s : Int) ∧ (s : Int) ≤ N ∧ 0 ≤ (m : Int) ∧ (m : Int) ≤ N - s by omega)] at ft
    refine Safe.goto mixed 14 [⟨1100, []⟩, ⟨1200, [(1, .inv 87 (.agg [.ptr ((0 : Nat)) ((0 : Nat)) ((0 : Nat)) ((0 : Nat)), I ((0 : Int)), I ((0 : Int)), I ((↑N : Int))]) [0] (I ((↑N : Int))) []), (4, .call [] (B (true)) [])]⟩, ⟨1300, []⟩, ⟨1400, []⟩] [0, 1, 8, 18, 19] [0] (todo' := loopAt Go.Proofs.Try.f27 0) (sl := slotsOf 39 [(0, .ifc ((100 : Nat)) (.agg [.ptr ((0 : Nat)) ((0 : Nat)) ((0 : Nat)) ((0 : Nat)), I ((0 : Int)), I ((0 : Int)), I ((↑N : Int))])), (1, I ((↑s : Int))), (8, .val (Value.slice none (0 : Nat) (0 : Nat))), (18, I ((↑m : Int))), (19, I ((0 : Int)))]) (hp := [(0, .box (dbox (0 : Nat) k))]) (ob := [MethOK Try.prog "Size" (AV.ifc (100 : Nat) (AV.agg [AV.ptr (0 : Nat) (0 : Nat) (0 : Nat) (0 : Nat), AV.val (Value.int IntKind.i64 (0 : Int)), AV.val (Value.int IntKind.i64 (0 : Int)), AV.val (Value.int IntKind.i64 (↑N : Int))])) (87 : Nat) (AV.agg [AV.ptr (0 : Nat) (0 : Nat) (0 : Nat) (0 : Nat), AV.val (Value.int IntKind.i64 (0 : Int)), AV.val (Value.int IntKind.i64 (0 : Int)), AV.val (Value.int IntKind.i64 (↑N : Int))]), CallOK Try.prog (87 : Nat) [AV.agg [AV.ptr (0 : Nat) (0 : Nat) (0 : Nat) (0 : Nat), AV.val (Value.int IntKind.i64 (0 : Int)), AV.val (Value.int IntKind.i64 (0 : Int)), AV.val (Value.int IntKind.i64 (↑N : Int))]] [((0 : Nat), Ob.box (dbox (0 : Nat) k))] (AV.val (Value.int IntKind.i64 (↑N : Int))) [], CallOK Try.prog (48 : Nat) ([] ++ [AV.val (Value.int IntKind.i64 (↑N : Int)), AV.val (Value.int IntKind.i64 (↑s : Int)), AV.val (Value.int IntKind.i64 (↑m : Int))] ++ []) [] (AV.val (Value.bool true)) []]) rfl rfl (by kernel_rfl) ⟨(MethOK.of (by kernel_rfl)), (spsize_any ((0 : Nat)) (k) ((0 : Int)) ((0 : Int)) ((↑N : Int))), ft, trivial⟩ rfl ⟨rfl, trivial, trivial⟩ ?_
    · refine Safe.nil 8 20 36 1 (rowG encU []) rfl rfl ⟨rfl, trivial, trivial⟩ ?_ rfl
      exact Safe.leH (H 0 (Nat.zero_le _)) rfl (SlLe.refl _) ⟨ObLe.refl _, ⟨rfl, rfl, rfl, fun _ _ => rfl⟩, trivial⟩ rfl ⟨rfl, trivial, rfl, fun _ => rfl, trivial⟩
theorem readall_err (k : Dk) (N : Nat) (hN : N ≤ 1000) (s m : Int) (h : ¬ (0 ≤ s ∧ s ≤ N ∧ 0 ≤ m ∧ m ≤ N - s)) :
    CallOK Try.prog 27 [.ifc 100 (.agg [.ptr 0 0 0 0, I 0, I 0, I N]), I s, I m] [(0, .box (dbox 0 k))] (.tup [.val (.slice none 0 0), I 1]) [] := by
  refine CallOK.intro Try.call27 Try.func27 rfl rfl ⟨rfl, trivial, trivial⟩ ?_
  have ft := fits_any N s m (by omega)
  rw [decide_eq_false h] at ft
  refine Safe.ends mixed Go.Proofs.Try.func27 8 [⟨1100, []⟩, ⟨1200, [(1, .inv 87 (.agg [.ptr ((0 : Nat)) ((0 : Nat)) ((0 : Nat)) ((0 : Nat)), I ((0 : Int)), I ((0 : Int)), I ((↑N : Int))]) [0] (I ((↑N : Int))) []), (4, .call [] (B (false)) [])]⟩, ⟨1300, []⟩] (r := .tup [.val (Value.slice none (0 : Nat) (0 : Nat)), I ((1 : Int))]) (hp := [(0, .box (dbox (0 : Nat) k))]) (ob := [MethOK Try.prog "Size" (AV.ifc (100 : Nat) (AV.agg [AV.ptr (0 : Nat) (0 : Nat) (0 : Nat) (0 : Nat), AV.val (Value.int IntKind.i64 (0 : Int)), AV.val (Value.int IntKind.i64 (0 : Int)), AV.val (Value.int IntKind.i64 (↑N : Int))])) (87 : Nat) (AV.agg [AV.ptr (0 : Nat) (0 : Nat) (0 : Nat) (0 : Nat), AV.val (Value.int IntKind.i64 (0 : Int)), AV.val (Value.int IntKind.i64 (0 : Int)), AV.val (Value.int IntKind.i64 (↑N : Int))]), CallOK Try.prog (87 : Nat) [AV.agg [AV.ptr (0 : Nat) (0 : Nat) (0 : Nat) (0 : Nat), AV.val (Value.int IntKind.i64 (0 : Int)), AV.val (Value.int IntKind.i64 (0 : Int)), AV.val (Value.int IntKind.i64 (↑N : Int))]] [((0 : Nat), Ob.box (dbox (0 : Nat) k))] (AV.val (Value.int IntKind.i64 (↑N : Int))) [], CallOK Try.prog (48 : Nat) ([] ++ [AV.val (Value.int IntKind.i64 (↑N : Int)), AV.val (Value.int IntKind.i64 s), AV.val (Value.int IntKind.i64 m)] ++ []) [] (AV.val (Value.bool false)) []]) rfl (by kernel_rfl) ⟨(MethOK.of (by kernel_rfl)), (spsize_any ((0 : Nat)) (k) ((0 : Int)) ((0 : Int)) ((↑N : Int))), ft, trivial⟩ rfl ⟨ObLe.refl _, trivial⟩ ⟨rfl, trivial, trivial⟩ rfl
set_option maxHeartbeats 4000000 in
theorem writeall_ok {k : Dk} {P Q : List Int} {c : Nat} (g : Gd k P Q c) (hc : c ≤ 1000) (N s : Nat) (l : List Int) (hN : N ≤ 1000) (hP : P.length = N) (hs : s + l.length ≤ N) :
    CallOK Try.prog 29 [.ifc 100 (.agg [.ptr 0 0 0 0, I 0, I 0, I N]), I s, .sl 1 0 1 l.length none] [(0, .box (dbox 0 k)), (1, .ro 1 l.length (rowG encU l))] (I 0) [(0, some (.box (dbox 0 (wK k s l l.length))))] := by
  refine CallOK.intro Try.call29 Try.func29 rfl rfl ⟨rfl, trivial, rfl, fun _ => rfl, trivial⟩ ?_
  refine Safe.withLoop (loopAt Try.f29 0) [0, 1] 34 (fun i : Nat => [(0, .ifc 100 (.agg [.ptr 0 0 0 0, I 0, I 0, I N])), (1, I s), (17, .sl 1 0 1 l.length none), (18, I l.length), (19, I i)]) (fun i => [(0, .box (dbox 0 (wK k s l i))), (1, .ro 1 l.length (rowG encU l))]) (fun i => i ≤ l.length) (fun i => l.length - i) ?_ ?_
  · intro i hi ih
    by_cases hlt : i < l.length
    · have hlt2 : (i : Int) < (l.length : Int) := by omega
      have gi := wK_gd g s l i (by omega)
      have wr := wr0_c gi (by omega) N hN (by rw [ovL_len]; exact hP) ((s : Int) + i) (l.getD i default) ⟨by omega, by omega⟩
      refine Safe.goto mixed 18 [⟨1100, [(0, .tt true)]⟩, ⟨1200, []⟩, ⟨1300, [(5, .inv 88 (.agg [.ptr ((0 : Nat)) ((0 : Nat)) ((0 : Nat)) ((0 : Nat)), I ((0 : Int)), I ((0 : Int)), I ((↑N : Int))]) [0] (I ((0 : Int))) [(0, some (.box (dbox (0 : Nat) (wrK (wK k (↑s : Int) l i) (0 : Int) ((↑s : Int) + (↑i : Int)) (l.getD i default)))))])]⟩, ⟨1400, []⟩, ⟨1500, []⟩] [0, 1, 17, 18, 19] [0, 1] (todo' := loopAt Go.Proofs.Try.f29 0) (sl := slotsOf 34 [(0, .ifc ((100 : Nat)) (.agg [.ptr ((0 : Nat)) ((0 : Nat)) ((0 : Nat)) ((0 : Nat)), I ((0 : Int)), I ((0 : Int)), I ((↑N : Int))])), (1, I ((↑s : Int))), (17, .sl ((1 : Nat)) ((0 : Nat)) ((1 : Nat)) (l.length) (none)), (18, I ((↑l.length : Int))), (19, I ((↑i : Int) + (1 : Int)))]) (hp := [(0, .box (dbox (0 : Nat) (wrK (wK k (↑s : Int) l i) (0 : Int) ((↑s : Int) + (↑i : Int)) (l.getD i default)))), (1, .ro ((1 : Nat)) (l.length) (rowG encU l))]) (ob := [decide ((↑i : Int) < (↑l.length : Int)) = true, (0 : Int) ≤ (↑i : Int) ∧ (↑i : Int) < (↑l.length : Int), i < l.length, inK IntKind.i64 ((↑s : Int) + (↑i : Int)), MethOK Try.prog "Write" (AV.ifc (100 : Nat) (AV.agg [AV.ptr (0 : Nat) (0 : Nat) (0 : Nat) (0 : Nat), AV.val (Value.int IntKind.i64 (0 : Int)), AV.val (Value.int IntKind.i64 (0 : Int)), AV.val (Value.int IntKind.i64 (↑N : Int))])) (88 : Nat) (AV.agg [AV.ptr (0 : Nat) (0 : Nat) (0 : Nat) (0 : Nat), AV.val (Value.int IntKind.i64 (0 : Int)), AV.val (Value.int IntKind.i64 (0 : Int)), AV.val (Value.int IntKind.i64 (↑N : Int))]), CallOK Try.prog (88 : Nat) [AV.agg [AV.ptr (0 : Nat) (0 : Nat) (0 : Nat) (0 : Nat), AV.val (Value.int IntKind.i64 (0 : Int)), AV.val (Value.int IntKind.i64 (0 : Int)), AV.val (Value.int IntKind.i64 (↑N : Int))], AV.val (Value.int IntKind.i64 ((↑s : Int) + (↑i : Int))), AV.val (Value.int IntKind.u64 (l.getD i default))] [((0 : Nat), Ob.box (dbox (0 : Nat) (wK k (↑s : Int) l i)))] (AV.val (Value.int IntKind.i64 (0 : Int))) [((0 : Nat), some (Ob.box (dbox (0 : Nat) (wrK (wK k (↑s : Int) l i) (0 : Int) ((↑s : Int) + (↑i : Int)) (l.getD i default)))))], inK IntKind.i64 ((↑i : Int) + (1 : Int))]) rfl rfl (by kernel_rfl) ⟨(decide_eq_true hlt2), (by omega), (by omega), (by simp only [inK]; omega), (MethOK.of (by kernel_rfl)), wr, (by simp only [inK]; omega), trivial⟩ rfl ⟨rfl, trivial, rfl, fun _ => rfl, trivial⟩ ?_
      · exact ih (i + 1) (by omega) (by omega)
    · have hn : ¬ ((i : Int) < (l.length : Int)) := by omega
      obtain rfl : i = l.length := by omega
      refine Safe.ends mixed Go.Proofs.Try.func29 7 [⟨1100, [(0, .tt false)]⟩, ⟨1200, []⟩] (r := I ((0 : Int))) (hp := [(0, .box (dbox (0 : Nat) (wK k (↑s : Int) l l.length))), (1, .ro ((1 : Nat)) (l.length) (rowG encU l))]) (ob := [decide ((↑l.length : Int) < (↑l.length : Int)) = false]) rfl (by kernel_rfl) ⟨(decide_eq_false hn), trivial⟩ rfl ⟨ObLe.refl _, ObLe.refl _, trivial⟩ ⟨rfl, trivial, rfl, fun _ => rfl, trivial⟩ rfl
  · intro H
    have ft := fits_any N s l.length (by omega)
    rw [decide_eq_true (show 0 ≤ (s : Int) ∧ (s : Int) ≤ N ∧ 0 ≤ (l.length : Int) ∧ (l.length : Int) ≤ N - s by omega)] at ft
    refine Safe.goto mixed 12 [⟨1100, []⟩, ⟨1200, [(1, .inv 87 (.agg [.ptr ((0 : Nat)) ((0 : Nat)) ((0 : Nat)) ((0 : Nat)), I ((0 : Int)), I ((0 : Int)), I ((↑N : Int))]) [0] (I ((↑N : Int))) []), (5, .call [] (B (true)) [])]⟩, ⟨1300, []⟩] [0, 1, 17, 18, 19] [0, 1] (todo' := loopAt Go.Proofs.Try.f29 0) (sl := slotsOf 34 [(0, .ifc ((100 : Nat)) (.agg [.ptr ((0 : Nat)) ((0 : Nat)) ((0 : Nat)) ((0 : Nat)), I ((0 : Int)), I ((0 : Int)), I ((↑N : Int))])), (1, I ((↑s : Int))), (17, .sl ((1 : Nat)) ((0 : Nat)) ((1 : Nat)) (l.length) (none)), (18, I ((↑l.length : Int))), (19, I ((0 : Int)))]) (hp := [(0, .box (dbox (0 : Nat) k)), (1, .ro ((1 : Nat)) (l.length) (rowG encU l))]) (ob := [MethOK Try.prog "Size" (AV.ifc (100 : Nat) (AV.agg [AV.ptr (0 : Nat) (0 : Nat) (0 : Nat) (0 : Nat), AV.val (Value.int IntKind.i64 (0 : Int)), AV.val (Value.int IntKind.i64 (0 : Int)), AV.val (Value.int IntKind.i64 (↑N : Int))])) (87 : Nat) (AV.agg [AV.ptr (0 : Nat) (0 : Nat) (0 : Nat) (0 : Nat), AV.val (Value.int IntKind.i64 (0 : Int)), AV.val (Value.int IntKind.i64 (0 : Int)), AV.val (Value.int IntKind.i64 (↑N : Int))]), CallOK Try.prog (87 : Nat) [AV.agg [AV.ptr (0 : Nat) (0 : Nat) (0 : Nat) (0 : Nat), AV.val (Value.int IntKind.i64 (0 : Int)), AV.val (Value.int IntKind.i64 (0 : Int)), AV.val (Value.int IntKind.i64 (↑N : Int))]] [((0 : Nat), Ob.box (dbox (0 : Nat) k))] (AV.val (Value.int IntKind.i64 (↑N : Int))) [], CallOK Try.prog (48 : Nat) ([] ++ [AV.val (Value.int IntKind.i64 (↑N : Int)), AV.val (Value.int IntKind.i64 (↑s : Int)), AV.val (Value.int IntKind.i64 (↑l.length : Int))] ++ []) [] (AV.val (Value.bool true)) []]) rfl rfl (by kernel_rfl) ⟨(MethOK.of (by kernel_rfl)), (spsize_any ((0 : Nat)) (k) ((0 : Int)) ((0 : Int)) ((↑N : Int))), ft, trivial⟩ rfl ⟨rfl, trivial, rfl, fun _ => rfl, trivial⟩ ?_
    · exact H 0 (Nat.zero_le _)
theorem writeall_err (k : Dk) (N : Nat) (hN : N ≤ 1000) (s : Int) (l : List Int) (h : ¬ (0 ≤ s ∧ s ≤ N ∧ 0 ≤ (l.length : Int) ∧ (l.length : Int) ≤ N - s)) :
    CallOK Try.prog 29 [.ifc 100 (.agg [.ptr 0 0 0 0, I 0, I 0, I N]), I s, .sl 1 0 1 l.length none] [(0, .box (dbox 0 k)), (1, .ro 1 l.length (rowG encU l))] (I 1) [] := by
  refine CallOK.intro Try.call29 Try.func29 rfl rfl ⟨rfl, trivial, rfl, fun _ => rfl, trivial⟩ ?_
  have ft := fits_any N s l.length (by omega)
  rw [decide_eq_false h] at ft
  refine Safe.ends mixed Go.Proofs.Try.func29 8 [⟨1100, []⟩, ⟨1200, [(1, .inv 87 (.agg [.ptr ((0 : Nat)) ((0 : Nat)) ((0 : Nat)) ((0 : Nat)), I ((0 : Int)), I ((0 : Int)), I ((↑N : Int))]) [0] (I ((↑N : Int))) []), (5, .call [] (B (false)) [])]⟩, ⟨1300, []⟩] (r := I ((1 : Int))) (hp := [(0, .box (dbox (0 : Nat) k)), (1, .ro ((1 : Nat)) (l.length) (rowG encU l))]) (ob := [MethOK Try.prog "Size" (AV.ifc (100 : Nat) (AV.agg [AV.ptr (0 : Nat) (0 : Nat) (0 : Nat) (0 : Nat), AV.val (Value.int IntKind.i64 (0 : Int)), AV.val (Value.int IntKind.i64 (0 : Int)), AV.val (Value.int IntKind.i64 (↑N : Int))])) (87 : Nat) (AV.agg [AV.ptr (0 : Nat) (0 : Nat) (0 : Nat) (0 : Nat), AV.val (Value.int IntKind.i64 (0 : Int)), AV.val (Value.int IntKind.i64 (0 : Int)), AV.val (Value.int IntKind.i64 (↑N : Int))]), CallOK Try.prog (87 : Nat) [AV.agg [AV.ptr (0 : Nat) (0 : Nat) (0 : Nat) (0 : Nat), AV.val (Value.int IntKind.i64 (0 : Int)), AV.val (Value.int IntKind.i64 (0 : Int)), AV.val (Value.int IntKind.i64 (↑N : Int))]] [((0 : Nat), Ob.box (dbox (0 : Nat) k))] (AV.val (Value.int IntKind.i64 (↑N : Int))) [], CallOK Try.prog (48 : Nat) ([] ++ [AV.val (Value.int IntKind.i64 (↑N : Int)), AV.val (Value.int IntKind.i64 s), AV.val (Value.int IntKind.i64 (↑l.length : Int))] ++ []) [] (AV.val (Value.bool false)) []]) rfl (by kernel_rfl) ⟨(MethOK.of (by kernel_rfl)), (spsize_any ((0 : Nat)) (k) ((0 : Int)) ((0 : Int)) ((↑N : Int))), ft, trivial⟩ rfl ⟨ObLe.refl _, ObLe.refl _, trivial⟩ ⟨rfl, trivial, rfl, fun _ => rfl, trivial⟩ rfl
theorem copy_err (k : Dk) (N : Nat) (hN : N ≤ 1000) (s m : Int) (h : ¬ (0 ≤ s ∧ s ≤ N ∧ 0 ≤ m ∧ m ≤ N - s)) :
    CallOK Try.prog 30 [.ifc 100 (.agg [.ptr 0 0 0 0, I 0, I 0, I N]), .ifc 100 (.agg [.ptr 0 0 0 0, I 1, I 0, I N]), I s, I m] [(0, .box (dbox 0 k))] (I 1) [] := by
  refine CallOK.intro Try.call30 Try.func30 rfl rfl ⟨rfl, trivial, trivial⟩ ?_
  have ft := fits_any N s m (by omega)
  rw [decide_eq_false h] at ft
  refine Safe.ends mixed Go.Proofs.Try.func30 8 [⟨1100, []⟩, ⟨1200, [(1, .inv 87 (.agg [.ptr ((0 : Nat)) ((0 : Nat)) ((0 : Nat)) ((0 : Nat)), I ((0 : Int)), I ((0 : Int)), I ((↑N : Int))]) [0] (I ((↑N : Int))) []), (4, .call [] (B (false)) [])]⟩, ⟨1300, []⟩] (r := I ((1 : Int))) (hp := [(0, .box (dbox (0 : Nat) k))]) (ob := [MethOK Try.prog "Size" (AV.ifc (100 : Nat) (AV.agg [AV.ptr (0 : Nat) (0 : Nat) (0 : Nat) (0 : Nat), AV.val (Value.int IntKind.i64 (0 : Int)), AV.val (Value.int IntKind.i64 (0 : Int)), AV.val (Value.int IntKind.i64 (↑N : Int))])) (87 : Nat) (AV.agg [AV.ptr (0 : Nat) (0 : Nat) (0 : Nat) (0 : Nat), AV.val (Value.int IntKind.i64 (0 : Int)), AV.val (Value.int IntKind.i64 (0 : Int)), AV.val (Value.int IntKind.i64 (↑N : Int))]), CallOK Try.prog (87 : Nat) [AV.agg [AV.ptr (0 : Nat) (0 : Nat) (0 : Nat) (0 : Nat), AV.val (Value.int IntKind.i64 (0 : Int)), AV.val (Value.int IntKind.i64 (0 : Int)), AV.val (Value.int IntKind.i64 (↑N : Int))]] [((0 : Nat), Ob.box (dbox (0 : Nat) k))] (AV.val (Value.int IntKind.i64 (↑N : Int))) [], CallOK Try.prog (48 : Nat) ([] ++ [AV.val (Value.int IntKind.i64 (↑N : Int)), AV.val (Value.int IntKind.i64 s), AV.val (Value.int IntKind.i64 m)] ++ []) [] (AV.val (Value.bool false)) []]) rfl (by kernel_rfl) ⟨(MethOK.of (by kernel_rfl)), (spsize_any ((0 : Nat)) (k) ((0 : Int)) ((0 : Int)) ((↑N : Int))), ft, trivial⟩ rfl ⟨ObLe.refl _, trivial⟩ ⟨rfl, trivial, trivial⟩ rfl
theorem equal_err (k : Dk) (N : Nat) (hN : N ≤ 1000) (s m : Int) (h : ¬ (0 ≤ s ∧ s ≤ N ∧ 0 ≤ m ∧ m ≤ N - s)) :
    CallOK Try.prog 31 [.ifc 100 (.agg [.ptr 0 0 0 0, I 0, I 0, I N]), .ifc 100 (.agg [.ptr 0 0 0 0, I 1, I 0, I N]), I s, I m] [(0, .box (dbox 0 k))] (.tup [B false, I 1]) [] := by
  refine CallOK.intro Try.call31 Try.func31 rfl rfl ⟨rfl, trivial, trivial⟩ ?_
  have ft := fits_any N s m (by omega)
  rw [decide_eq_false h] at ft
  refine Safe.ends mixed Go.Proofs.Try.func31 8 [⟨1100, []⟩, ⟨1200, [(1, .inv 87 (.agg [.ptr ((0 : Nat)) ((0 : Nat)) ((0 : Nat)) ((0 : Nat)), I ((0 : Int)), I ((0 : Int)), I ((↑N : Int))]) [0] (I ((↑N : Int))) []), (4, .call [] (B (false)) [])]⟩, ⟨1300, []⟩] (r := .tup [B (false), I ((1 : Int))]) (hp := [(0, .box (dbox (0 : Nat) k))]) (ob := [MethOK Try.prog "Size" (AV.ifc (100 : Nat) (AV.agg [AV.ptr (0 : Nat) (0 : Nat) (0 : Nat) (0 : Nat), AV.val (Value.int IntKind.i64 (0 : Int)), AV.val (Value.int IntKind.i64 (0 : Int)), AV.val (Value.int IntKind.i64 (↑N : Int))])) (87 : Nat) (AV.agg [AV.ptr (0 : Nat) (0 : Nat) (0 : Nat) (0 : Nat), AV.val (Value.int IntKind.i64 (0 : Int)), AV.val (Value.int IntKind.i64 (0 : Int)), AV.val (Value.int IntKind.i64 (↑N : Int))]), CallOK Try.prog (87 : Nat) [AV.agg [AV.ptr (0 : Nat) (0 : Nat) (0 : Nat) (0 : Nat), AV.val (Value.int IntKind.i64 (0 : Int)), AV.val (Value.int IntKind.i64 (0 : Int)), AV.val (Value.int IntKind.i64 (↑N : Int))]] [((0 : Nat), Ob.box (dbox (0 : Nat) k))] (AV.val (Value.int IntKind.i64 (↑N : Int))) [], CallOK Try.prog (48 : Nat) ([] ++ [AV.val (Value.int IntKind.i64 (↑N : Int)), AV.val (Value.int IntKind.i64 s), AV.val (Value.int IntKind.i64 m)] ++ []) [] (AV.val (Value.bool false)) []]) rfl (by kernel_rfl) ⟨(MethOK.of (by kernel_rfl)), (spsize_any ((0 : Nat)) (k) ((0 : Int)) ((0 : Int)) ((↑N : Int))), ft, trivial⟩ rfl ⟨ObLe.refl _, trivial⟩ ⟨rfl, trivial, trivial⟩ rfl
set_option maxHeartbeats 4000000 in
theorem same_off (L M : List Int) (n q : Nat) (hL : L.length = n) (hn : n ≤ 1000000) (hq : q + n ≤ M.length) (h : ∀ t, t < n → L.getD t default = M.getD (q + t) default) : CallOK Try.prog 28 [.sl 0 0 1 n none, .sl 1 q 1 n none] [(0, .ro 1 n (rowG encU L)), (1, .ro 1 M.length (rowG encU M))] (B true) [] := by
  refine CallOK.intro Try.call28 Try.func28 rfl rfl ⟨rfl, fun _ => rfl, rfl, fun _ => rfl, trivial⟩ ?_
  refine Safe.withLoop (loopAt Try.f28 0) [0, 1] 26 (fun k : Nat => [(0, .sl 0 0 1 n none), (1, .sl 1 q 1 n none), (5, I k)]) (fun k => [(0, .ro 1 n (rowG encU L)), (1, .ro 1 M.length (rowG encU M))]) (fun k => k ≤ n) (fun k => n - k) ?_ ?_
  · intro k hk ih
    by_cases hlt : k < n
    · have hlt2 : (k : Int) < (n : Int) := by omega
      have ha : addN q k = q + k := addN_eq q k
      have he : L.getD k default = M.getD (addN q k) default := by rw [ha]; exact h k hlt
      refine Safe.goto mixed 14 [⟨1100, [(3, .tt true)]⟩, ⟨1200, [(8, .tt false)]⟩, ⟨1300, []⟩] [0, 1, 5] [0, 1] (todo' := loopAt Go.Proofs.Try.f28 0) (sl := slotsOf 26 [(0, .sl ((0 : Nat)) ((0 : Nat)) ((1 : Nat)) (n) (none)), (1, .sl ((1 : Nat)) (q) ((1 : Nat)) (n) (none)), (5, I ((↑k : Int) + (1 : Int)))]) (hp := [(0, .ro ((1 : Nat)) (n) (rowG encU L)), (1, .ro ((1 : Nat)) (M.length) (rowG encU M))]) (ob := [decide ((↑k : Int) < (↑n : Int)) = true, (0 : Int) ≤ (↑k : Int) ∧ (↑k : Int) < (↑n : Int), k < n, (0 : Int) ≤ (↑k : Int) ∧ (↑k : Int) < (↑n : Int), addN q k < M.length, (decide ¬L.getD k default = M.getD (addN q k) default) = false, inK IntKind.i64 ((↑k : Int) + (1 : Int))]) rfl rfl (by kernel_rfl) ⟨(decide_eq_true hlt2), (by omega), (by omega), (by omega), (by omega), (decide_eq_false (fun hn => hn he)), (by simp only [inK]; omega), trivial⟩ rfl ⟨rfl, fun _ => rfl, rfl, fun _ => rfl, trivial⟩ ?_
      · exact ih (k + 1) (by omega) (by omega)
    · have hn : ¬ ((k : Int) < (n : Int)) := by omega
      refine Safe.ends mixed Go.Proofs.Try.func28 7 [⟨1100, [(3, .tt false)]⟩, ⟨1200, []⟩] (r := B (true)) (hp := [(0, .ro ((1 : Nat)) (n) (rowG encU L)), (1, .ro ((1 : Nat)) (M.length) (rowG encU M))]) (ob := [decide ((↑k : Int) < (↑n : Int)) = false]) rfl (by kernel_rfl) ⟨(decide_eq_false hn), trivial⟩ rfl ⟨ObLe.refl _, ObLe.refl _, trivial⟩ ⟨rfl, fun _ => rfl, rfl, fun _ => rfl, trivial⟩ rfl
  · intro H
    have hnn : (n : Int) = n := rfl
    refine Safe.goto mixed 12 [⟨1100, []⟩, ⟨1200, [(4, .tt false)]⟩, ⟨1300, []⟩] [0, 1, 5] [0, 1] (todo' := loopAt Go.Proofs.Try.f28 0) (sl := slotsOf 26 [(0, .sl ((0 : Nat)) ((0 : Nat)) ((1 : Nat)) (n) (none)), (1, .sl ((1 : Nat)) (q) ((1 : Nat)) (n) (none)), (5, I ((0 : Int)))]) (hp := [(0, .ro ((1 : Nat)) (n) (rowG encU L)), (1, .ro ((1 : Nat)) (M.length) (rowG encU M))]) (ob := [(decide ¬(↑n : Int) = (↑n : Int)) = false]) rfl rfl (by kernel_rfl) ⟨(decide_eq_false (fun hn => hn hnn)), trivial⟩ rfl ⟨rfl, fun _ => rfl, rfl, fun _ => rfl, trivial⟩ ?_
    · exact H 0 (Nat.zero_le _)
theorem same_off2 (L M : List Int) (n q q' n' : Nat) (hq' : q' = q) (hn' : n' = n) (hL : L.length = n) (hn : n ≤ 1000000) (hq : q + n ≤ M.length) (h : ∀ t, t < n → L.getD t default = M.getD (q + t) default) : CallOK Try.prog 28 [.sl 0 0 1 n none, .sl 1 q' 1 n' none] [(0, .ro 1 n (rowG encU L)), (1, .ro 1 M.length (rowG encU M))] (B true) [] := by
  subst hq' hn'
  exact same_off L M _ _ hL hn hq h
end Go.Proofs.Ytcoilldcghamdaa
