/- The spans of all disks of an array. No conditions but those of each theorem. -/
import Derived.Test.YtbgbjgedjmhcaaaSyZ
import Derived.KernelRfl
import Derived.Test.YtbgbjgedjmhcaaaDFl
import Derived.Test.YtbgbjgedjmhcaaaD4
import Derived.Test.YtbgbjgedjmhcaaaD5
namespace Go.Proofs.Ytbgbjgedjmhcaaa
open Go.RowKit
open OldD (DA Dk Co fp Gr Row Fresh hid hd hs gu nk good ldK ge vu Ar un stF chk3 chk4 rdV wrE wrK flK)
set_option linter.unusedVariables false
set_option linter.unnecessarySimpa false
set_option linter.unusedSimpArgs false
set_option maxRecDepth 10000
set_option maxHeartbeats 2000000 in
theorem spansG (m n : Nat) (sz : Nat → Nat) (k : Dk) (hn : n ≤ 8) (hU : k.U.length = n) (hz : ∀ i, i < n → szV k (i : Int) = (sz i : Int) ∧ 1 ≤ sz i ∧ sz i ≤ 1000) :
    CallOK Try.prog 22 [.ptr 0 0 0 0] [(0, .box (dbox m k))] (.sl 10 0 1 n none) [(0, some (.box (dbox m k))), (10, some (.vec 43 1 n (rowN encSp 0 (spL sz n))))] := by
  refine CallOK.intro Try.call22 Try.func22 rfl rfl ⟨rfl, trivial, trivial⟩ ?_
  have cc := count_c m k
  rw [hU] at cc
  refine Safe.withLoop (loopAt Try.f22 0) [0, 20] 33 (fun i : Nat => [(0, .ptr 0 0 0 0), (3, .sl 20 0 1 (spL sz i).length none), (4, I i)]) (fun i => [(0, .box (dbox m k)), (20, .vec 43 1 (spL sz i).length (rowN encSp 0 (spL sz i)))]) (fun i => i ≤ n) (fun i => n - i) ?_ ?_
  · intro i hi ih
    have hl := spL_len sz i
    by_cases hlt : i < n
    · have hlt2 : (i : Int) < (n : Int) := by omega
      obtain ⟨z1, z2, z3⟩ := hz i hlt
      have sc := size_c m k i
      rw [z1] at sc
      have sp := span_ok m k i 0 (sz i) (by omega) (by unfold spFit; omega)
      refine Safe.goto mixed 18 [⟨1100, [(2, .call [0] (I ((↑n : Int))) [(0, some (.box (dbox m k)))]), (3, .tt true)]⟩, ⟨1200, [(4, .call [0] (I ((↑(sz i) : Int))) [(0, some (.box (dbox m k)))]), (5, .call [0] (.tup [.ifc 170 (.agg [.ptr 0 0 0 0, I ((↑i : Int)), I 0, I ((↑(sz i) : Int))]), I 0]) [(0, some (.box (dbox m k)))])]⟩, ⟨1300, []⟩, ⟨1400, []⟩, ⟨1500, []⟩] [0, 3, 4] [0, 1403] (todo' := loopAt Try.f22 0) (sl := slotsOf 33 [(0, .ptr 0 0 0 0), (3, .sl 1403 0 1 (addN (spL sz i).length (1 : Nat)) none), (4, I ((↑i : Int) + (1 : Int)))]) (hp := [(0, .box (dbox m k)), (1403, .vec 43 1 (addN (spL sz i).length (1 : Nat)) (catR (spL sz i).length (rowN encSp (0 : Nat) (spL sz i)) (rowsOf [AV.ifc (170 : Nat) (AV.agg [AV.ptr (0 : Nat) (0 : Nat) (0 : Nat) (0 : Nat), AV.val (Value.int IntKind.i64 (↑i : Int)), AV.val (Value.int IntKind.i64 (0 : Int)), AV.val (Value.int IntKind.i64 (↑(sz i) : Int))])] (1 : Nat))))]) (ob := [CallOK Try.prog (59 : Nat) ([] ++ [AV.ptr (0 : Nat) (0 : Nat) (0 : Nat) (0 : Nat)] ++ []) [((0 : Nat), Ob.box (dbox m k))] (AV.val (Value.int IntKind.i64 (↑n : Int))) [((0 : Nat), some (Ob.box (dbox m k)))], decide ((↑i : Int) < (↑n : Int)) = true, CallOK Try.prog (61 : Nat) ([] ++ [AV.ptr (0 : Nat) (0 : Nat) (0 : Nat) (0 : Nat), AV.val (Value.int IntKind.i64 (↑i : Int))] ++ []) [((0 : Nat), Ob.box (dbox m k))] (AV.val (Value.int IntKind.i64 (↑(sz i) : Int))) [((0 : Nat), some (Ob.box (dbox m k)))], CallOK Try.prog (60 : Nat) ([] ++ [AV.ptr (0 : Nat) (0 : Nat) (0 : Nat) (0 : Nat), AV.val (Value.int IntKind.i64 (↑i : Int)), ofV (Value.int IntKind.i64 (0 : Int)), AV.val (Value.int IntKind.i64 (↑(sz i) : Int))] ++ []) [((0 : Nat), Ob.box (dbox m k))] (AV.tup [AV.ifc (170 : Nat) (AV.agg [AV.ptr (0 : Nat) (0 : Nat) (0 : Nat) (0 : Nat), AV.val (Value.int IntKind.i64 (↑i : Int)), AV.val (Value.int IntKind.i64 (0 : Int)), AV.val (Value.int IntKind.i64 (↑(sz i) : Int))]), AV.val (Value.int IntKind.i64 (0 : Int))]) [((0 : Nat), some (Ob.box (dbox m k)))], (0 : Nat) + (1 : Nat) ≤ (1 : Nat), (spL sz i).length = (spL sz i).length, (spL sz i).length + (1 : Nat) ≤ (1099511627776 : Nat), inK IntKind.i64 ((↑i : Int) + (1 : Int))]) rfl rfl (by kernel_rfl) ⟨cc, (decide_eq_true hlt2), sc, sp, (by omega), (by omega), (by omega), (by simp only [inK]; omega), trivial⟩ rfl ⟨rfl, trivial, rfl, closed_cat (fun _ => rfl) (closed_rows rfl), trivial⟩ ?_
      refine Safe.ren [(1403, 20)] rfl rfl rfl rfl ⟨rfl, trivial, rfl, closed_cat (fun _ => rfl) (closed_rows rfl), trivial⟩ ?_
      · skip
        have e2 : addN (spL sz i).length 1 = (spL sz (i + 1)).length := by rw [addN_eq, spL_len, spL_len]
        rw [e2]
        refine Safe.leH (ih (i + 1) (by omega) (by omega)) rfl (SlLe.refl _) ⟨ObLe.refl _, ?_, trivial⟩ rfl ⟨rfl, trivial, rfl, fun _ => rfl, trivial⟩
        rw [spL_succ]
        exact ob_ren_one (encSp 0) (spL sz i) ⟨(i : Int), 0, (sz i : Int)⟩ _ (by simp) (fun _ => rfl) rfl
    · have hn2 : ¬ ((i : Int) < (n : Int)) := by omega
      obtain rfl : i = n := by omega
      refine Safe.gotoE mixed 7 [⟨1100, [(2, .call [0] (I ((↑i : Int))) [(0, some (.box (dbox m k)))]), (3, .tt false)]⟩, ⟨1200, []⟩] [2] [0, 20] (sl := slotsOf 33 [(2, .sl 20 0 1 ((spL sz i).length) none)]) (hp := [(0, .box (dbox m k)), (20, .vec 43 1 ((spL sz i).length) (rowN encSp (0 : Nat) (spL sz i)))]) (ob := [CallOK Try.prog (59 : Nat) ([] ++ [AV.ptr (0 : Nat) (0 : Nat) (0 : Nat) (0 : Nat)] ++ []) [((0 : Nat), Ob.box (dbox m k))] (AV.val (Value.int IntKind.i64 (↑i : Int))) [((0 : Nat), some (Ob.box (dbox m k)))], decide ((↑i : Int) < (↑i : Int)) = false]) rfl rfl (by kernel_rfl) ⟨cc, (decide_eq_false hn2), trivial⟩ rfl ⟨rfl, trivial, rfl, fun _ => rfl, trivial⟩ fun td htd => ?_
      refine Safe.ren [(20, 10)] rfl rfl rfl rfl ⟨rfl, trivial, rfl, fun _ => rfl, trivial⟩ ?_
      refine Safe.endsT Try.func22 htd (r := .sl 10 0 1 ((spL sz i).length) none) (hp := [(0, .box (dbox m k)), (10, .vec 43 1 ((spL sz i).length) (rowN encSp (0 : Nat) (spL sz i)))]) (ob := []) rfl (by kernel_rfl) trivial ?_ ⟨ObLe.refl _, ?_, trivial⟩ ⟨rfl, trivial, rfl, fun _ => rfl, trivial⟩ rfl
      · rw [spL_len]; rfl
      · rw [spL_len]; exact ⟨rfl, rfl, rfl, fun _ _ => rfl⟩
  · intro H
    refine Safe.goto mixed 9 [⟨1100, []⟩, ⟨1200, []⟩, ⟨1300, []⟩] [0, 3, 4] [0] (todo' := loopAt Try.f22 0) (sl := slotsOf 33 [(0, .ptr 0 0 0 0), (3, .val (Value.slice none (0 : Nat) (0 : Nat))), (4, I 0)]) (hp := [(0, .box (dbox m k))]) (ob := []) rfl rfl (by kernel_rfl) trivial rfl ⟨rfl, trivial, trivial⟩ ?_
    · refine Safe.nil 3 20 43 1 (rowN encSp 0 []) rfl rfl ⟨rfl, trivial, trivial⟩ ?_ rfl
      exact Safe.leH (H 0 (Nat.zero_le _)) rfl (SlLe.refl _) ⟨ObLe.refl _, ⟨rfl, rfl, rfl, fun _ _ => rfl⟩, trivial⟩ rfl ⟨rfl, trivial, rfl, fun _ => rfl, trivial⟩
/-- a restart that keeps nothing -/
theorem restart_nil (m : Nat) (k : Dk) (hF : k.F.length ≤ 2 ^ 32) : CallOK Try.prog 31 [.ptr 0 0 0 0, .val (.slice none 0 0)] [(0, .box (dbox m k))] (.tup []) [(0, some (.box (dbox m (OldD.reK k (fun _ => false)))))] :=
  dk_call (cargs := [.slice none 0 0]) (cret := .tuple #[]) Try.call31 (fun E cs h => by
      simp only [RVs, RV] at h
      obtain ⟨_, _, rfl, rfl, rfl⟩ := h
      rfl) (fun E => by simp [RV, RVs]) fun W A c h hm =>
    (OldD.restart_ok h none 0 0 (fun _ => false) ⟨.inl rfl, fun _ _ => rfl⟩ (by omega) hF).mono fun e W' ⟨he, HH⟩ => ⟨he, _, HH.out.1, hm, HH.out.2, Fresh.setF (fun g hg => by cases hg)⟩
end Go.Proofs.Ytbgbjgedjmhcaaa
