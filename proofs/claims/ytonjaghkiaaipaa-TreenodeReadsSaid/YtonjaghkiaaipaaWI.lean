/- TreenodeReads: what it calls. No conditions but those of each theorem. -/
import Derived.Test.YtonjaghkiaaipaaSyZ
import Derived.KernelRfl
import Derived.Test.YtonjaghkiaaipaaWD
import Derived.Test.YtonjaghkiaaipaaWE
import Derived.Test.YtonjaghkiaaipaaW8
namespace Go.Proofs.Ytonjaghkiaaipaa
open Go.RowKit
set_option linter.unusedVariables false
set_option linter.unnecessarySimpa false
set_option linter.unusedSimpArgs false
set_option maxRecDepth 10000 in
set_option maxHeartbeats 4000000 in
theorem rseal_sub (L : List Int) (n k : Nat) (hn : L.length = n) (hk : k ≤ n) (hw : Wf L) (hl : n ≤ 1000000) : CallOK Try.prog 21 [.sl 0 0 1 k none] [(0, .ro 1 n (rowG encU L))] (.sl 10 0 1 16 none) [(10, some (.vec 38 1 16 (rowG encU (sealF (L.take k)))))] := by
  refine CallOK.intro Try.call21 Try.func21 rfl rfl ⟨rfl, fun _ => rfl, trivial⟩ ?_
  have hwt : Wf (L.take k) := fun x hx => hw x (List.mem_of_mem_take hx)
  have h0 := (padF_wf hwt).at 0
  have hs := sumF_bd (padF (L.take k))
  have hh := hole _ h0
  have hf := fill _ (sumF (padF (L.take k))) h0 (by omega)
  have q1 := rsum_any (padF (L.take k)) (padF_wf hwt) (padF_len (L.take k))
  rw [padF_len] at q1
  refine Safe.gotoS mixed 7 [⟨1100, []⟩, ⟨1200, []⟩, ⟨1300, []⟩] [0, 2, 3, 4, 5, 6, 7] [0, 1200] (sl := slotsOf 19 [(0, .sl ((0 : Nat)) ((0 : Nat)) ((1 : Nat)) (k) (none)), (2, .val (Value.slice none (0 : Nat) (0 : Nat))), (3, .sl ((1200 : Nat)) ((0 : Nat)) ((1 : Nat)) ((16 : Nat)) (none)), (4, .sl ((1200 : Nat)) ((0 : Nat)) ((1 : Nat)) ((16 : Nat)) (none)), (5, .sl ((1200 : Nat)) ((0 : Nat)) ((1 : Nat)) ((16 : Nat)) (none)), (6, .sl ((0 : Nat)) ((0 : Nat)) ((1 : Nat)) (k) (none)), (7, I ((↑(min (16 : Nat) k) : Int)))]) (hp := [(0, .ro ((1 : Nat)) (n) (rowG encU L)), (1200, .vec ((38 : Nat)) ((1 : Nat)) ((16 : Nat)) (copyRow (fun x => List.map AV.val (Value.int IntKind.u64 (0 : Int)).cells.toList) (0 : Nat) (min (16 : Nat) k) (rowG encU L)))]) (ob := [(0 : Int) ≤ (16 : Int) ∧ (16 : Int) ≤ (16 : Int) ∧ (16 : Int) ≤ (1099511627776 : Int), (0 : Nat) + k ≤ n, (0 : Nat) + min (16 : Nat) k ≤ (16 : Nat)]) rfl rfl (by kernel_rfl) ⟨(by omega), (by omega), (by omega), trivial⟩ rfl ⟨rfl, fun _ => rfl, rfl, closed_copy (fun _ => rfl) (fun _ => rfl), trivial⟩ ?_
  refine Safe.leH (?_ : Safe _ _ _ _ _ _ ⟨slotsOf 19 [(3, .sl 1200 0 1 16 none)], [(0, .ro 1 n (rowG encU L)), (1200, .vec 38 1 16 (rowG encU (padF (L.take k))))]⟩ [0, 1200]) rfl ?_ ⟨ObLe.refl _, ⟨rfl, rfl, rfl, fun q hq => ?_⟩, trivial⟩ rfl ⟨rfl, fun _ => rfl, rfl, fun _ => rfl, trivial⟩
  · skip
    refine Safe.gotoE mixed 3 [⟨2100, [(6, .call [1200] (.val (Value.int IntKind.u64 (sumF (padF (List.take k L))))) [])]⟩, ⟨2200, []⟩] [2] [0, 1200] (sl := slotsOf 19 [(2, .sl ((1200 : Nat)) ((0 : Nat)) ((1 : Nat)) ((16 : Nat)) (none))]) (hp := [(0, .ro ((1 : Nat)) (n) (rowG encU L)), (1200, .vec ((38 : Nat)) ((1 : Nat)) ((16 : Nat)) (setRow (rowG encU (padF (List.take k L))) (0 : Nat) [AV.val (Value.int IntKind.u64 (bitsV BinOp.or IntKind.u64 (bitsV BinOp.andNot IntKind.u64 ((padF (List.take k L)).getD (0 : Nat) default) (281470681743360 : Int)) (sumF (padF (List.take k L)) * (4294967296 : Int))))]))]) (ob := [(0 : Int) ≤ (0 : Int) ∧ (0 : Int) < (↑(16 : Nat) : Int), (0 : Nat) < (16 : Nat), inK IntKind.u64 (bitsV BinOp.andNot IntKind.u64 ((padF (List.take k L)).getD (0 : Nat) default) (281470681743360 : Int)), CallOK Try.prog (39 : Nat) ([] ++ [AV.sl (1200 : Nat) (0 : Nat) (1 : Nat) (16 : Nat) none] ++ []) [((1200 : Nat), Ob.vec (38 : Nat) (1 : Nat) (16 : Nat) (rowG encU (padF (List.take k L))))] (AV.val (Value.int IntKind.u64 (sumF (padF (List.take k L))))) [], (0 : Int) ≤ (32 : Int) ∧ (32 : Int) ≤ (↑IntKind.u64.bits : Int), inK IntKind.u64 (sumF (padF (List.take k L)) * (4294967296 : Int)), inK IntKind.u64 (bitsV BinOp.or IntKind.u64 (bitsV BinOp.andNot IntKind.u64 ((padF (List.take k L)).getD (0 : Nat) default) (281470681743360 : Int)) (sumF (padF (List.take k L)) * (4294967296 : Int))), (0 : Int) ≤ (0 : Int) ∧ (0 : Int) < (↑(16 : Nat) : Int), (0 : Nat) < (16 : Nat)]) rfl rfl (by kernel_rfl) ⟨(by first | omega | exact bits_bd _ _ _), (by first | omega | exact bits_bd _ _ _), (by simp only [inK]; first | omega | exact bits_bd _ _ _), (CallOK.ren (CallOK.own 38 0 rfl rfl rfl q1) [(0, 1200)] [0] rfl rfl rfl rfl ⟨rfl, fun _ => rfl, trivial⟩ rfl ⟨rfl, fun _ => rfl, trivial⟩), (by first | decide | (simp only [Go.IntKind.bits]; first | omega | exact bits_bd _ _ _)), (by simp only [inK]; first | omega | exact bits_bd _ _ _), (by simp only [inK]; first | omega | exact bits_bd _ _ _), (by first | omega | exact bits_bd _ _ _), (by first | omega | exact bits_bd _ _ _), trivial⟩ rfl ⟨rfl, fun _ => rfl, rfl, closed_set (fun _ => rfl) rfl, trivial⟩ fun td htd => ?_
    refine Safe.ren [(1200, 10)] rfl rfl rfl rfl ⟨rfl, fun _ => rfl, rfl, closed_set (fun _ => rfl) rfl, trivial⟩ ?_
    refine Safe.endsT Go.Proofs.Try.func21 htd (r := .sl ((10 : Nat)) ((0 : Nat)) ((1 : Nat)) ((16 : Nat)) (none)) (hp := [(0, .ro ((1 : Nat)) (n) (fun q => renL [((1200 : Nat), (10 : Nat))] (rowG encU L q))), (10, .vec ((38 : Nat)) ((1 : Nat)) ((16 : Nat)) (fun q => renL [((1200 : Nat), (10 : Nat))] (setRow (rowG encU (padF (List.take k L))) (0 : Nat) [AV.val (Value.int IntKind.u64 (bitsV BinOp.or IntKind.u64 (bitsV BinOp.andNot IntKind.u64 ((padF (List.take k L)).getD (0 : Nat) default) (281470681743360 : Int)) (sumF (padF (List.take k L)) * (4294967296 : Int))))] q)))]) (ob := []) rfl (by kernel_rfl) trivial rfl ⟨⟨rfl, rfl, fun _ _ => rfl⟩, ?_, trivial⟩ ⟨rfl, fun _ => rfl, rfl, fun _ => rfl, trivial⟩ rfl
    · refine ⟨rfl, rfl, rfl, fun q hq => ?_⟩
      have hq : q < 16 := hq
      show renL _ (setRow _ 0 _ q) = encU ((sealF (L.take k)).getD q default)
      rw [sealF, getD_set _ _ _ _ (by rw [padF_len]; exact hq)]
      unfold setRow
      split
      · show [U _] = [U _]
        refine congrArg (fun x => [U x]) ?_
        rw [← hf, ← hh]
      · rfl
  · repeat (first | exact ⟨rfl, trivial⟩ | refine ⟨rfl, ?_⟩ | refine ⟨trivial, ?_⟩ | exact trivial)
  · show copyRow _ _ _ _ q = encU _
    rw [padF_at (L.take k) q hq]
    have hlk : (L.take k).length = k := by rw [List.length_take]; omega
    rw [hlk]
    unfold copyRow
    by_cases h : q < k
    · rw [if_pos ⟨Nat.zero_le _, by omega⟩, if_pos h, List.getD_eq_getElem?_getD, List.getElem?_take_of_lt h, ← List.getD_eq_getElem?_getD]
      rfl
    · rw [if_neg (by omega), if_neg h]
      rfl
/-- words that numbers make -/
def mkW (seed : Int) (n : Nat) : List Int := (List.range n).map fun (i : Nat) => IntKind.u64.wrap (seed + IntKind.u64.wrap ((i : Int) * 11400714819323198485))
theorem mkW_len (seed : Int) (n : Nat) : (mkW seed n).length = n := by simp [mkW]
theorem mkW_succ (seed : Int) (n : Nat) : mkW seed (n + 1) = mkW seed n ++ [IntKind.u64.wrap (seed + IntKind.u64.wrap ((n : Int) * 11400714819323198485))] := by simp [mkW, List.range_succ]
theorem mkW_wf (seed : Int) (n : Nat) : Wf (mkW seed n) := by
  intro x hx
  obtain ⟨i, _, rfl⟩ := List.mem_map.1 hx
  exact wrap_bd _
set_option maxRecDepth 10000 in
set_option maxHeartbeats 4000000 in
theorem mk_any (seed : Int) (n : Nat) (hn : n ≤ 100) : CallOK Try.prog 18 [I n, U seed] [] (.sl 10 0 1 n none) [(10, some (.vec 38 1 n (rowG encU (mkW seed n))))] := by
  refine CallOK.intro Try.call18 Try.func18 rfl rfl trivial ?_
  refine Safe.withLoop (loopAt Try.f18 0) [20] 21 (fun k : Nat => [(0, I n), (1, U seed), (5, .sl 20 0 1 (mkW seed k).length none), (6, I k)]) (fun k => [(20, .vec 38 1 (mkW seed k).length (rowG encU (mkW seed k)))]) (fun k => k ≤ n) (fun k => n - k) ?_ ?_
  · rintro k hk ih
    have hlen := mkW_len seed k
    by_cases hlt : (k : Int) < (n : Int)
    · skip
      refine Safe.goto mixed 11 [⟨1100, [(2, .tt true)]⟩, ⟨1200, [(4, .wrap), (5, .wrap)]⟩, ⟨1300, []⟩] [0, 1, 5, 6] [1207] (todo' := loopAt Go.Proofs.Try.f18 0) (sl := slotsOf 21 [(0, I ((↑n : Int))), (1, .val (Value.int IntKind.u64 seed)), (5, .sl ((1207 : Nat)) ((0 : Nat)) ((1 : Nat)) (addN (mkW seed k).length (1 : Nat)) (none)), (6, I ((↑k : Int) + (1 : Int)))]) (hp := [(1207, .vec ((38 : Nat)) ((1 : Nat)) (addN (mkW seed k).length (1 : Nat)) (catR (mkW seed k).length (rowG encU (mkW seed k)) (rowsOf [AV.val (Value.int IntKind.u64 (IntKind.u64.wrap (seed + IntKind.u64.wrap ((↑k : Int) * (11400714819323198485 : Int)))))] (1 : Nat))))]) (ob := [decide ((↑k : Int) < (↑n : Int)) = true, inK IntKind.u64 (↑k : Int), (0 : Nat) + (1 : Nat) ≤ (1 : Nat), (mkW seed k).length = (mkW seed k).length, (mkW seed k).length + (1 : Nat) ≤ (1099511627776 : Nat), inK IntKind.i64 ((↑k : Int) + (1 : Int))]) rfl rfl (by kernel_rfl) ⟨(decide_eq_true hlt), (by simp only [inK]; omega), (by omega), (by omega), (by omega), (by simp only [inK]; omega), trivial⟩ rfl ⟨rfl, closed_cat (fun _ => rfl) (closed_rows rfl), trivial⟩ ?_
      refine Safe.ren [(1207, 20)] rfl rfl rfl rfl ⟨rfl, closed_cat (fun _ => rfl) (closed_rows rfl), trivial⟩ ?_
      have a1 : addN (mkW seed k).length 1 = (mkW seed (k + 1)).length := by rw [addN_eq, mkW_len, mkW_len]
      rw [a1]
      refine Safe.leH (ih (k + 1) (by omega) (by omega)) rfl (SlLe.refl _) ⟨?_, trivial⟩ rfl ⟨rfl, fun _ => rfl, trivial⟩
      rw [mkW_succ]
      exact ob_ren_one encU _ _ _ (by simp) (fun _ => rfl) rfl
    · obtain rfl : k = n := by omega
      refine Safe.gotoE mixed 7 [⟨1100, [(2, .tt false)]⟩, ⟨1200, []⟩] [4] [20] (sl := slotsOf 21 [(4, .sl ((20 : Nat)) ((0 : Nat)) ((1 : Nat)) ((mkW seed k).length) (none))]) (hp := [(20, .vec ((38 : Nat)) ((1 : Nat)) ((mkW seed k).length) (rowG encU (mkW seed k)))]) (ob := [decide ((↑k : Int) < (↑k : Int)) = false]) rfl rfl (by kernel_rfl) ⟨(decide_eq_false hlt), trivial⟩ rfl ⟨rfl, fun _ => rfl, trivial⟩ fun td htd => ?_
      refine Safe.ren [(20, 10)] rfl rfl rfl rfl ⟨rfl, fun _ => rfl, trivial⟩ ?_
      refine Safe.endsT Go.Proofs.Try.func18 htd (r := .sl ((10 : Nat)) ((0 : Nat)) ((1 : Nat)) ((mkW seed k).length) (none)) (hp := [(10, .vec ((38 : Nat)) ((1 : Nat)) ((mkW seed k).length) (fun q => renL [((20 : Nat), (10 : Nat))] (rowG encU (mkW seed k) q)))]) (ob := []) rfl (by kernel_rfl) trivial ?_ ⟨?_, trivial⟩ ⟨rfl, fun _ => rfl, trivial⟩ rfl
      · show AV.sl _ _ _ _ _ = _
        rw [mkW_len]
      · exact ⟨rfl, rfl, mkW_len seed k, fun _ _ => rfl⟩
  · intro H
    refine Safe.goto mixed 9 [⟨100, []⟩, ⟨200, []⟩, ⟨300, []⟩] [0, 1, 5, 6] [] (todo' := loopAt Go.Proofs.Try.f18 0) (sl := slotsOf 21 [(0, I ((↑n : Int))), (1, .val (Value.int IntKind.u64 seed)), (5, .val (Value.slice none (0 : Nat) (0 : Nat))), (6, I ((0 : Int)))]) (hp := []) (ob := []) rfl rfl (by kernel_rfl) trivial rfl trivial ?_
    refine Safe.nil 5 20 38 1 (rowG encU []) rfl rfl trivial ?_ rfl
    exact Safe.leH (H 0 (Nat.zero_le _)) rfl (SlLe.refl _) ⟨⟨rfl, rfl, rfl, fun _ _ => rfl⟩, trivial⟩ rfl ⟨rfl, fun _ => rfl, trivial⟩
end Go.Proofs.Ytonjaghkiaaipaa
