/- Labels: the lists of their words. No conditions but those of each theorem. -/
import Derived.Test.YtbgbjgedjmhcaaaSyZ
import Derived.KernelRfl
import Derived.Test.YtbgbjgedjmhcaaaLI
namespace Go.Proofs.Ytbgbjgedjmhcaaa
open Go.RowKit
set_option linter.unusedVariables false
set_option linter.unnecessarySimpa false
set_option linter.unusedSimpArgs false
set_option maxRecDepth 10000
theorem pwords_err (i s t a g : Int) (hk : ¬ lbOK s t a) : CallOK Try.prog 14 [.agg [U i, I s, I t, I a, U g]] [] (.tup [.val (.slice none 0 0), I 1]) [] := by
  have ck := chk_any i s t a g
  rw [chkF, if_neg hk] at ck
  refine CallOK.intro Try.call14 Try.func14 rfl rfl trivial ?_
  refine Safe.ends mixed Try.func14 10 [⟨100, []⟩, ⟨200, [(1, .call [] (I 1) [])]⟩, ⟨300, []⟩, ⟨400, []⟩] (r := .tup [.val (Value.slice none (0 : Nat) (0 : Nat)), I 1]) (hp := []) (ob := [CallOK Try.prog (17 : Nat) ([] ++ [AV.agg [AV.val (Value.int IntKind.u64 i), AV.val (Value.int IntKind.i64 s), AV.val (Value.int IntKind.i64 t), AV.val (Value.int IntKind.i64 a), AV.val (Value.int IntKind.u64 g)]] ++ []) [] (AV.val (Value.int IntKind.i64 (1 : Int))) []]) rfl (by kernel_rfl) ⟨ck, trivial⟩ rfl trivial trivial rfl
theorem pwords_ok (i s t a g : Int) (hi : Wd i) (hg : Wd g) (hk : lbOK s t a) : CallOK Try.prog 14 [.agg [U i, I s, I t, I a, U g]] [] (.tup [.sl 10 0 1 8 none, I 0]) [(10, some (.ro 1 8 (rowG encU (wdL i s t a g))))] := by
  have ck := chk_any i s t a g
  rw [chkF, if_pos hk] at ck
  have hk2 := hk
  unfold lbOK at hk2
  have lw := lwords_any i s t a g hi hg
  rw [w64_id s ⟨by omega, by omega⟩, w64_id t ⟨by omega, by omega⟩, w64_id a ⟨by omega, by omega⟩] at lw
  unfold wdL
  generalize sumL i s t a g = S at lw ⊢
  refine CallOK.intro Try.call14 Try.func14 rfl rfl trivial ?_
  refine Safe.gotoE mixed 13 [⟨100, []⟩, ⟨200, [(1, .call [] (I 0) [])]⟩, ⟨300, []⟩, ⟨400, [(1, .call [] (.agg [.val (Value.int IntKind.u64 mgc), .val (Value.int IntKind.u64 i), .val (Value.int IntKind.u64 s), .val (Value.int IntKind.u64 t), .val (Value.int IntKind.u64 a), .val (Value.int IntKind.u64 g), .val (Value.int IntKind.u64 S), .val (Value.int IntKind.u64 (0 : Int))]) [])]⟩, ⟨500, []⟩] [2, 3] [500] (sl := slotsOf 14 [(2, .sl 500 0 1 8 none), (3, I 0)]) (hp := [(500, .ro 1 8 (rowsOf [AV.val (Value.int IntKind.u64 mgc), AV.val (Value.int IntKind.u64 i), AV.val (Value.int IntKind.u64 s), AV.val (Value.int IntKind.u64 t), AV.val (Value.int IntKind.u64 a), AV.val (Value.int IntKind.u64 g), AV.val (Value.int IntKind.u64 S), AV.val (Value.int IntKind.u64 (0 : Int))] (1 : Nat)))]) (ob := [CallOK Try.prog (17 : Nat) ([] ++ [AV.agg [AV.val (Value.int IntKind.u64 i), AV.val (Value.int IntKind.i64 s), AV.val (Value.int IntKind.i64 t), AV.val (Value.int IntKind.i64 a), AV.val (Value.int IntKind.u64 g)]] ++ []) [] (AV.val (Value.int IntKind.i64 (0 : Int))) [], CallOK Try.prog (55 : Nat) ([] ++ [AV.agg [AV.val (Value.int IntKind.u64 i), AV.val (Value.int IntKind.i64 s), AV.val (Value.int IntKind.i64 t), AV.val (Value.int IntKind.i64 a), AV.val (Value.int IntKind.u64 g)]] ++ []) [] (AV.agg [AV.val (Value.int IntKind.u64 mgc), AV.val (Value.int IntKind.u64 i), AV.val (Value.int IntKind.u64 s), AV.val (Value.int IntKind.u64 t), AV.val (Value.int IntKind.u64 a), AV.val (Value.int IntKind.u64 g), AV.val (Value.int IntKind.u64 S), AV.val (Value.int IntKind.u64 (0 : Int))]) []]) rfl rfl (by kernel_rfl) ⟨ck, lw, trivial⟩ rfl ⟨rfl, closed_rows rfl, trivial⟩ fun td htd => ?_
  refine Safe.ren [(500, 10)] rfl rfl rfl rfl ⟨rfl, closed_rows rfl, trivial⟩ ?_
  refine Safe.endsT Try.func14 htd (r := .tup [.sl 10 0 1 8 none, I 0]) (hp := [(10, .ro 1 8 (fun q => renL [((500 : Nat), (10 : Nat))] (rowsOf [AV.val (Value.int IntKind.u64 mgc), AV.val (Value.int IntKind.u64 i), AV.val (Value.int IntKind.u64 s), AV.val (Value.int IntKind.u64 t), AV.val (Value.int IntKind.u64 a), AV.val (Value.int IntKind.u64 g), AV.val (Value.int IntKind.u64 S), AV.val (Value.int IntKind.u64 (0 : Int))] (1 : Nat) q)))]) (ob := []) rfl (by kernel_rfl) trivial rfl ⟨?_, trivial⟩ ⟨rfl, fun _ => rfl, trivial⟩ rfl
  all_goals exact ⟨rfl, rfl, fun q hq => match q, hq with | 0, _ | 1, _ | 2, _ | 3, _ | 4, _ | 5, _ | 6, _ | 7, _ => rfl⟩
theorem rwords_err (i s t a g : Int) (hk : ¬ lbOK s t a) : CallOK Try.prog 15 [.agg [U i, I s, I t, I a, U g]] [] (.tup [.val (.slice none 0 0), I 1]) [] := by
  have ck := rchk_any i s t a g
  rw [chkF, if_neg hk] at ck
  refine CallOK.intro Try.call15 Try.func15 rfl rfl trivial ?_
  refine Safe.ends mixed Try.func15 10 [⟨100, []⟩, ⟨200, [(1, .call [] (I 1) [])]⟩, ⟨300, []⟩, ⟨400, []⟩] (r := .tup [.val (Value.slice none (0 : Nat) (0 : Nat)), I 1]) (hp := []) (ob := [CallOK Try.prog (18 : Nat) ([] ++ [AV.agg [AV.val (Value.int IntKind.u64 i), AV.val (Value.int IntKind.i64 s), AV.val (Value.int IntKind.i64 t), AV.val (Value.int IntKind.i64 a), AV.val (Value.int IntKind.u64 g)]] ++ []) [] (AV.val (Value.int IntKind.i64 (1 : Int))) []]) rfl (by kernel_rfl) ⟨ck, trivial⟩ rfl trivial trivial rfl
theorem rwords_ok (i s t a g : Int) (hi : Wd i) (hg : Wd g) (hk : lbOK s t a) : CallOK Try.prog 15 [.agg [U i, I s, I t, I a, U g]] [] (.tup [.sl 10 0 1 8 none, I 0]) [(10, some (.vec 22 1 8 (rowG encU (wdL i s t a g))))] := by
  have ck := rchk_any i s t a g
  rw [chkF, if_pos hk] at ck
  have hk2 := hk
  unfold lbOK at hk2
  have su := rsum_any mgc i s t a g 0 0 (wf7 hi ⟨by omega, by omega⟩ ⟨by omega, by omega⟩ ⟨by omega, by omega⟩ hg)
  have su : CallOK Try.prog 56 [.sl 1 0 1 8 none] [(1, .ro 1 8 (rowG encU [mgc, i, s, t, a, g, 0, 0]))] (U (sumL i s t a g)) [] := su
  have m8 : ∀ q, q < 8 → rowG encU [mgc, i, s, t, a, g, 0, 0] q = rowsOf [U mgc, U i, U s, U t, U a, U g, U 0, U 0] 1 q := fun q hq => match q, hq with | 0, _ | 1, _ | 2, _ | 3, _ | 4, _ | 5, _ | 6, _ | 7, _ => rfl
  have su : CallOK Try.prog 56 [.sl 1 0 1 8 none] [(1, .ro 1 8 (rowsOf [U mgc, U i, U s, U t, U a, U g, U 0, U 0] 1))] (U (sumL i s t a g)) [] := su.sim fun id => by
    simp only [find]
    split
    · exact ⟨⟨rfl, rfl, m8⟩, ⟨rfl, rfl, fun q hq => (m8 q hq).symm⟩⟩
    · exact OSim.refl _
  unfold wdL
  generalize sumL i s t a g = S at su ⊢
  refine CallOK.intro Try.call15 Try.func15 rfl rfl trivial ?_
  refine Safe.gotoE mixed 15 [⟨100, []⟩, ⟨200, [(1, .call [] (I 0) [])]⟩, ⟨300, []⟩, ⟨400, []⟩, ⟨500, [(2, .call [413] (.val (Value.int IntKind.u64 S)) [])]⟩, ⟨600, []⟩] [2, 3] [413] (sl := slotsOf 30 [(2, .sl 413 0 1 8 none), (3, I 0)]) (hp := [(413, .vec 22 1 8 (setRow (rowsOf [AV.val (Value.int IntKind.u64 (5494745885936405590 : Int)), AV.val (Value.int IntKind.u64 i), AV.val (Value.int IntKind.u64 s), AV.val (Value.int IntKind.u64 t), AV.val (Value.int IntKind.u64 a), AV.val (Value.int IntKind.u64 g), AV.val (Value.int IntKind.u64 (0 : Int)), AV.val (Value.int IntKind.u64 (0 : Int))] (1 : Nat)) (6 : Nat) [AV.val (Value.int IntKind.u64 S)]))]) (ob := [CallOK Try.prog (18 : Nat) ([] ++ [AV.agg [AV.val (Value.int IntKind.u64 i), AV.val (Value.int IntKind.i64 s), AV.val (Value.int IntKind.i64 t), AV.val (Value.int IntKind.i64 a), AV.val (Value.int IntKind.u64 g)]] ++ []) [] (AV.val (Value.int IntKind.i64 (0 : Int))) [], inK IntKind.u64 s, inK IntKind.u64 t, inK IntKind.u64 a, CallOK Try.prog (56 : Nat) ([] ++ [AV.sl (413 : Nat) (0 : Nat) (1 : Nat) (8 : Nat) none] ++ []) [((413 : Nat), Ob.vec (22 : Nat) (1 : Nat) (8 : Nat) (rowsOf [AV.val (Value.int IntKind.u64 (5494745885936405590 : Int)), AV.val (Value.int IntKind.u64 i), AV.val (Value.int IntKind.u64 s), AV.val (Value.int IntKind.u64 t), AV.val (Value.int IntKind.u64 a), AV.val (Value.int IntKind.u64 g), AV.val (Value.int IntKind.u64 (0 : Int)), AV.val (Value.int IntKind.u64 (0 : Int))] (1 : Nat)))] (AV.val (Value.int IntKind.u64 S)) [], (0 : Int) ≤ (6 : Int) ∧ (6 : Int) < (↑(8 : Nat) : Int), (6 : Nat) < (8 : Nat)]) rfl rfl (by kernel_rfl) ⟨ck, (by simp only [inK]; omega), (by simp only [inK]; omega), (by simp only [inK]; omega), (CallOK.simR (CallOK.ren (CallOK.own 22 1 (es := (1 : Nat)) (n := (8 : Nat)) (row := rowsOf [U mgc, U i, U s, U t, U a, U g, U (0 : Int), U (0 : Int)] (1 : Nat)) rfl rfl rfl su) [(1, 413)] [1] rfl rfl rfl rfl ⟨rfl, closed_rows rfl, trivial⟩ rfl ⟨rfl, closed_rows rfl, trivial⟩) (HpSim.cons rfl (OSim.rowsV rfl) HpSim.nil)), (by omega), (by omega), trivial⟩ rfl ⟨rfl, closed_set (closed_rows rfl) rfl, trivial⟩ fun td htd => ?_
  refine Safe.ren [(413, 10)] rfl rfl rfl rfl ⟨rfl, closed_set (closed_rows rfl) rfl, trivial⟩ ?_
  refine Safe.endsT Try.func15 htd (r := .tup [.sl 10 0 1 8 none, I 0]) (hp := [(10, .vec 22 1 8 (fun q => renL [((413 : Nat), (10 : Nat))] (setRow (rowsOf [AV.val (Value.int IntKind.u64 (5494745885936405590 : Int)), AV.val (Value.int IntKind.u64 i), AV.val (Value.int IntKind.u64 s), AV.val (Value.int IntKind.u64 t), AV.val (Value.int IntKind.u64 a), AV.val (Value.int IntKind.u64 g), AV.val (Value.int IntKind.u64 (0 : Int)), AV.val (Value.int IntKind.u64 (0 : Int))] (1 : Nat)) (6 : Nat) [AV.val (Value.int IntKind.u64 S)] q)))]) (ob := []) rfl (by kernel_rfl) trivial rfl ⟨?_, trivial⟩ ⟨rfl, fun _ => rfl, trivial⟩ rfl
  all_goals exact ⟨rfl, rfl, rfl, fun q hq => match q, hq with | 0, _ | 1, _ | 2, _ | 3, _ | 4, _ | 5, _ | 6, _ | 7, _ => rfl⟩
end Go.Proofs.Ytbgbjgedjmhcaaa
