/- Labels: the sanity check. No conditions but those of each theorem. -/
import Derived.Test.YtbgbjgedjmhcaaaSyZ
import Derived.KernelRfl
import Derived.Test.YtbgbjgedjmhcaaaLJ
import Derived.Test.YtbgbjgedjmhcaaaDSp
import Derived.Test.YtbgbjgedjmhcaaaDCb1
namespace Go.Proofs.Ytbgbjgedjmhcaaa
open Go.RowKit
open OldD (Dk chk3 chk4 rdV wrE wrK flK reK)
set_option linter.unusedVariables false
set_option linter.unnecessarySimpa false
set_option linter.unusedSimpArgs false
set_option maxRecDepth 10000
theorem Gk.szc {k : Dk} {n c : Nat} {sz sz' : Nat → Nat} (h : Gk k n sz c) (e : ∀ d, d < n → sz d = sz' d) : Gk k n sz' c :=
  ⟨h.ul, fun d hd => by rw [← e d hd]; exact h.ln d hd, h.ms, h.bd, h.fz, fun w hw => by have := h.FI w hw; exact ⟨this.1, by rw [← e _ this.1]; exact this.2⟩, h.fl, h.wr, fun d t hd ht => h.ap d t hd (by rw [e d hd]; exact ht)⟩
theorem dk1_q (X : List Int) : Q1 (dkN [X]) X.length 0 (fun t => X.getD t default) (fun t => X.getD t default) 0 (fun _ => False) := by
  obtain ⟨g, key⟩ := dkN_gk [X]
  obtain ⟨a1, a2, a3, a4, a5, a6, a7⟩ := dkN_all [X]
  have g1 : Gk (dkN [X]) 1 (fun _ => X.length) 0 := g.szc (fun d hd => by
    have : d = 0 := by simp at hd; omega
    subst this; rfl)
  exact ⟨g1, a5, a4, fun t ht => (key 0 t (by simp)).1, fun t ht => (key 0 t (by simp)).2, fun x hx => by rw [a2] at hx; cases hx⟩
theorem rdP_eq {k : Dk} {N c : Nat} {v w : Nat → Int} {f : Int} {T : Nat → Prop} (h : Q1 k N c v w f T) (hN : 8 ≤ N) : rdP k 8 = [v 0, v 1, v 2, v 3, v 4, v 5, v 6, v 7] := by
  show [nw k 0 0, nw k 0 1, nw k 0 2, nw k 0 3, nw k 0 4, nw k 0 5, nw k 0 6, nw k 0 7] = _
  rw [h.nv 0 (by omega), h.nv 1 (by omega), h.nv 2 (by omega), h.nv 3 (by omega), h.nv 4 (by omega), h.nv 5 (by omega), h.nv 6 (by omega), h.nv 7 (by omega)]
theorem sample_any (i : Int) : CallOK Try.prog 28 [U i] [] (.agg [U i, I 20, I 8, I 12, U 3]) [] := by
  refine CallOK.intro Try.call28 Try.func28 rfl rfl trivial ?_
  refine Safe.ends mixed Try.func28 4 [⟨100, []⟩, ⟨200, []⟩] (r := .agg [.val (Value.int IntKind.u64 i), I 20, I 8, I 12, .val (Value.int IntKind.u64 (3 : Int))]) (hp := []) (ob := []) rfl (by kernel_rfl) trivial rfl trivial trivial rfl
/-- an array with one disk of zeros, as a fresh slice of words is told -/
theorem ldz (n : Nat) (hn : 1 ≤ n ∧ n ≤ 1000) : CallOK Try.prog 21 [.sl 1 0 1 1 none] [(1, .ro 1 1 (rowsOf [.sl 2 0 1 n none] 1)), (2, .vec 22 1 n (fun _ => List.map AV.val (Value.cells (.int .u64 0)).toList))] (.ptr 10 0 0 0) [(10, some (.box (dbox 0 (dkN [List.replicate n 0]))))] := by
  have ld := loadedN1 (List.replicate n 0) (by rw [List.length_replicate]; exact hn)
  rw [List.length_replicate] at ld
  have hr : ∀ q, q < n → rowG encU (List.replicate n 0) q = List.map AV.val (Value.cells (.int .u64 0)).toList := fun q hq => by
    show [U ((List.replicate n 0).getD q default)] = [U 0]
    rw [List.getD_eq_getElem?_getD, List.getElem?_replicate, if_pos hq]; rfl
  refine ld.sim fun id => ?_
  simp only [find]
  split
  · exact OSim.refl _
  · split
    · exact ⟨⟨rfl, rfl, rfl, fun q hq => hr q hq⟩, ⟨rfl, rfl, rfl, fun q hq => (hr q hq).symm⟩⟩
    · exact OSim.refl _
theorem wd_lit (z : Int) (h : 0 ≤ z ∧ z ≤ 1000000) : Wd z := ⟨h.1, by omega⟩
/-- reading what Write has left -/
theorem lread_wr (m : Nat) (k : Dk) (N : Nat) {c : Nat} {v w : Nat → Int} {f : Int} {T : Nat → Prop} (hN : 8 ≤ N ∧ N ≤ 1000) (i s t a g : Int) (hi : Wd i) (hg : Wd g) (hk : lbOK s t a) (hs : s ≤ N) (h : Q1 k N c (wrV i s t a g (sumL i s t a g) v) w f T) :
    CallOK Try.prog 23 [.ifc 170 (.agg [.ptr 0 0 0 0, I 0, I 0, I N])] [(0, .box (dbox m k))] (.tup [.agg [U i, I s, I t, I a, U g], I 0]) [(0, some (.box (dbox m k)))] := by
  have hk2 := hk
  unfold lbOK at hk2
  have fw := fw_tail i s t a g hi ⟨by omega, by omega⟩ ⟨by omega, by omega⟩ ⟨by omega, by omega⟩ hg
  rw [if_pos hk] at fw
  have := lread_lab m k N h.g h.dn hN _ (rdP_eq h hN.1) i s t a g fw
  rw [if_pos hs] at this
  exact this
/-- reading a disk whose first sector is 0 -/
theorem lread_0 (m : Nat) (k : Dk) (N : Nat) {c : Nat} (g : Gk k 1 (fun _ => N) c) (hdn : k.down = false) (hN : 8 ≤ N ∧ N ≤ 1000) (h0 : nw k 0 0 ≠ mgc) :
    CallOK Try.prog 23 [.ifc 170 (.agg [.ptr 0 0 0 0, I 0, I 0, I N])] [(0, .box (dbox m k))] (.tup [noL, I 2]) [(0, some (.box (dbox m k)))] :=
  lread_err m k N g hdn hN [nw k 0 0, nw k 0 1, nw k 0 2, nw k 0 3, nw k 0 4, nw k 0 5, nw k 0 6, nw k 0 7] rfl 2 (by decide) (fw_form _ _ _ _ _ _ _ _ (.inl h0))
theorem spans1 (m : Nat) (k : Dk) (N : Nat) {c : Nat} (g : Gk k 1 (fun _ => N) c) (hN : 1 ≤ N ∧ N ≤ 1000) : CallOK Try.prog 22 [.ptr 0 0 0 0] [(0, .box (dbox m k))] (.sl 10 0 1 1 none) [(0, some (.box (dbox m k))), (10, some (.vec 43 1 1 (rowsOf [.ifc 170 (.agg [.ptr 0 0 0 0, I 0, I 0, I N])] 1)))] := by
  have sp := spansG m 1 (fun _ => N) k (by omega) g.ul (fun i hi => ⟨g.sz hi, hN⟩)
  refine sp.simO (OutSim.cons (OSim.refl _) (OutSim.cons ⟨⟨rfl, rfl, rfl, fun q hq => match q, hq with | 0, _ => rfl⟩, ⟨rfl, rfl, rfl, fun q hq => match q, hq with | 0, _ => rfl⟩⟩ OutSim.nil))
set_option maxHeartbeats 2000000 in
theorem lawake_any : CallOK Try.prog 13 [] [] (B true) [] := by
  have sm := sample_any 7
  have ld := ldz 20 (by omega)
  have q0 := dk1_q (List.replicate 20 0)
  rw [List.length_replicate] at q0
  generalize dkN [List.replicate 20 0] = k0 at ld q0
  have sp := spans1 0 k0 20 q0.g (by omega)
  obtain ⟨S, eS⟩ : ∃ S, sumL 7 20 8 12 3 = S := ⟨_, rfl⟩
  have hk : lbOK 20 8 12 := by unfold lbOK; omega
  have lw := lwrite_ok 0 k0 20 7 20 8 12 3 q0.bc (by omega) (by omega) (wd_lit 7 (by omega)) (wd_lit 3 (by omega)) hk (by omega) S eS
  rcases lw_run q0 (by omega) 7 20 8 12 3 S with ⟨e, f', q1, _⟩ | ⟨e, _⟩
  · rw [e] at lw
    generalize seqK k0 (lwA 7 20 8 12 3 S) = k1 at lw q1
    have lr := lread_wr 0 k1 20 (by omega) 7 20 8 12 3 (wd_lit 7 (by omega)) (wd_lit 3 (by omega)) hk (by omega) (by rw [eS]; exact q1)
    clear q0 q1 e eS
    refine CallOK.intro Try.call13 Try.func13 rfl rfl trivial ?_
    refine Safe.ends mixed Try.func13 20 [⟨100, []⟩, ⟨200, [(2, .call [201, 200] (.ptr 260 0 0 0) [(260, some (.box (dbox (0 : Nat) k0)))])]⟩, ⟨300, []⟩, ⟨400, [(1, .call [260] (.sl 455 0 1 1 none) [(260, some (.box (dbox (0 : Nat) k0))), (455, some (.vec 43 1 1 (rowsOf [AV.ifc (170 : Nat) (AV.agg [AV.ptr (260 : Nat) (0 : Nat) (0 : Nat) (0 : Nat), AV.val (Value.int IntKind.i64 (0 : Int)), AV.val (Value.int IntKind.i64 (0 : Int)), AV.val (Value.int IntKind.i64 (↑(20 : Nat) : Int))])] (1 : Nat))))])]⟩, ⟨500, [(7, .call [] (.agg [.val (Value.int IntKind.u64 (7 : Int)), I 20, I 8, I 12, .val (Value.int IntKind.u64 (3 : Int))]) []), (8, .call [260] (I 0) [(260, some (.box (dbox (0 : Nat) k1)))])]⟩, ⟨600, [(3, .call [260] (.tup [.agg [.val (Value.int IntKind.u64 (7 : Int)), I 20, I 8, I 12, .val (Value.int IntKind.u64 (3 : Int))], I 0]) [(260, some (.box (dbox (0 : Nat) k1)))])]⟩, ⟨700, [(4, .call [] (.agg [.val (Value.int IntKind.u64 (7 : Int)), I 20, I 8, I 12, .val (Value.int IntKind.u64 (3 : Int))]) [])]⟩] (r := B true) (hp := []) (ob := [(0 : Int) ≤ (20 : Int) ∧ (20 : Int) ≤ (20 : Int) ∧ (20 : Int) ≤ (1099511627776 : Int), CallOK Try.prog (21 : Nat) ([] ++ [AV.sl (201 : Nat) (0 : Nat) (1 : Nat) (1 : Nat) none] ++ []) [((201 : Nat), Ob.vec (25 : Nat) (1 : Nat) (1 : Nat) (rowsOf [AV.sl (200 : Nat) (0 : Nat) (1 : Nat) (20 : Nat) none] (1 : Nat))), ((200 : Nat), Ob.vec (22 : Nat) (1 : Nat) (20 : Nat) fun x => List.map AV.val (Value.int IntKind.u64 (0 : Int)).cells.toList)] (AV.ptr (260 : Nat) (0 : Nat) (0 : Nat) (0 : Nat)) [((260 : Nat), some (Ob.box (dbox (0 : Nat) k0)))], CallOK Try.prog (22 : Nat) ([] ++ [AV.ptr (260 : Nat) (0 : Nat) (0 : Nat) (0 : Nat)] ++ []) [((260 : Nat), Ob.box (dbox (0 : Nat) k0))] (AV.sl (455 : Nat) (0 : Nat) (1 : Nat) (1 : Nat) none) [((260 : Nat), some (Ob.box (dbox (0 : Nat) k0))), ((455 : Nat), some (Ob.vec (43 : Nat) (1 : Nat) (1 : Nat) (rowsOf [AV.ifc (170 : Nat) (AV.agg [AV.ptr (260 : Nat) (0 : Nat) (0 : Nat) (0 : Nat), AV.val (Value.int IntKind.i64 (0 : Int)), AV.val (Value.int IntKind.i64 (0 : Int)), AV.val (Value.int IntKind.i64 (↑(20 : Nat) : Int))])] (1 : Nat))))], (0 : Int) ≤ (0 : Int) ∧ (0 : Int) < (↑(1 : Nat) : Int), (0 : Nat) < (1 : Nat), CallOK Try.prog (28 : Nat) ([] ++ [ofV (Value.int IntKind.u64 (7 : Int))] ++ []) [] (AV.agg [AV.val (Value.int IntKind.u64 (7 : Int)), AV.val (Value.int IntKind.i64 (20 : Int)), AV.val (Value.int IntKind.i64 (8 : Int)), AV.val (Value.int IntKind.i64 (12 : Int)), AV.val (Value.int IntKind.u64 (3 : Int))]) [], CallOK Try.prog (25 : Nat) ([] ++ [AV.ifc (170 : Nat) (AV.agg [AV.ptr (260 : Nat) (0 : Nat) (0 : Nat) (0 : Nat), AV.val (Value.int IntKind.i64 (0 : Int)), AV.val (Value.int IntKind.i64 (0 : Int)), AV.val (Value.int IntKind.i64 (↑(20 : Nat) : Int))]), AV.agg [AV.val (Value.int IntKind.u64 (7 : Int)), AV.val (Value.int IntKind.i64 (20 : Int)), AV.val (Value.int IntKind.i64 (8 : Int)), AV.val (Value.int IntKind.i64 (12 : Int)), AV.val (Value.int IntKind.u64 (3 : Int))]] ++ []) [((260 : Nat), Ob.box (dbox (0 : Nat) k0))] (AV.val (Value.int IntKind.i64 (0 : Int))) [((260 : Nat), some (Ob.box (dbox (0 : Nat) k1)))], (0 : Int) ≤ (0 : Int) ∧ (0 : Int) < (↑(1 : Nat) : Int), (0 : Nat) < (1 : Nat), CallOK Try.prog (23 : Nat) ([] ++ [AV.ifc (170 : Nat) (AV.agg [AV.ptr (260 : Nat) (0 : Nat) (0 : Nat) (0 : Nat), AV.val (Value.int IntKind.i64 (0 : Int)), AV.val (Value.int IntKind.i64 (0 : Int)), AV.val (Value.int IntKind.i64 (↑(20 : Nat) : Int))])] ++ []) [((260 : Nat), Ob.box (dbox (0 : Nat) k1))] (AV.tup [AV.agg [AV.val (Value.int IntKind.u64 (7 : Int)), AV.val (Value.int IntKind.i64 (20 : Int)), AV.val (Value.int IntKind.i64 (8 : Int)), AV.val (Value.int IntKind.i64 (12 : Int)), AV.val (Value.int IntKind.u64 (3 : Int))], AV.val (Value.int IntKind.i64 (0 : Int))]) [((260 : Nat), some (Ob.box (dbox (0 : Nat) k1)))], CallOK Try.prog (28 : Nat) ([] ++ [ofV (Value.int IntKind.u64 (7 : Int))] ++ []) [] (AV.agg [AV.val (Value.int IntKind.u64 (7 : Int)), AV.val (Value.int IntKind.i64 (20 : Int)), AV.val (Value.int IntKind.i64 (8 : Int)), AV.val (Value.int IntKind.i64 (12 : Int)), AV.val (Value.int IntKind.u64 (3 : Int))]) []]) rfl (by kernel_rfl) ⟨(by omega), (CallOK.simR (CallOK.ren (CallOK.own 25 1 (es := (1 : Nat)) (n := (1 : Nat)) (row := rowsOf [AV.sl (2 : Nat) (0 : Nat) (1 : Nat) (20 : Nat) none] (1 : Nat)) rfl rfl rfl ld) [(1, 201), (2, 200), (10, 260)] [1, 2, 10] rfl rfl rfl rfl ⟨rfl, closed_rows rfl, rfl, fun _ => rfl, trivial⟩ rfl ⟨rfl, closed_rows rfl, rfl, fun _ => rfl, rfl, trivial, trivial⟩) (HpSim.cons rfl (OSim.rowsV rfl) (HpSim.cons rfl (OSim.refl _) HpSim.nil))), (CallOK.simO (CallOK.ren sp [(0, 260), (10, 455)] [0, 10] rfl rfl rfl rfl ⟨rfl, trivial, trivial⟩ rfl ⟨rfl, trivial, rfl, closed_rows rfl, trivial⟩) (OutSim.cons (OSim.refl _) (OutSim.cons (OSim.rowsV rfl) OutSim.nil))), (by omega), (by omega), sm, (CallOK.ren lw [(0, 260)] [0] rfl rfl rfl rfl ⟨rfl, trivial, trivial⟩ rfl ⟨rfl, trivial, trivial⟩), (by omega), (by omega), (CallOK.ren lr [(0, 260)] [0] rfl rfl rfl rfl ⟨rfl, trivial, trivial⟩ rfl ⟨rfl, trivial, trivial⟩), sm, trivial⟩ rfl trivial trivial rfl
    all_goals skip
  · exact absurd rfl e
end Go.Proofs.Ytbgbjgedjmhcaaa
