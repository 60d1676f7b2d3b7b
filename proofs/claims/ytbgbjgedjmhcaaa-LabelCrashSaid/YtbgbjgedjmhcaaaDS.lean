/- Keep: what survives a power failure, as a contract. No conditions but those of each theorem. -/
import Derived.Test.YtbgbjgedjmhcaaaSyZ
import Derived.KernelRfl
import Derived.Test.YtbgbjgedjmhcaaaDM
namespace Go.Proofs.Ytbgbjgedjmhcaaa
open Go.RowKit
set_option linter.unusedVariables false
set_option linter.unnecessarySimpa false
set_option linter.unusedSimpArgs false
set_option maxRecDepth 10000
def kpB (w : Int) (i : Nat) : Bool := decide (bitsV .and .u64 (w / 2 ^ ((i : Int) % 64).toNat) 1 = 1)
theorem bits0 (x : Int) : 0 ≤ bitsV .and .u64 x 1 ∧ bitsV .and .u64 x 1 < 18446744073709551616 := by
  show 0 ≤ (((BitVec.ofInt 64 x &&& BitVec.ofInt 64 1).toNat : Nat) : Int) ∧ (((BitVec.ofInt 64 x &&& BitVec.ofInt 64 1).toNat : Nat) : Int) < 18446744073709551616
  have := (BitVec.ofInt 64 x &&& BitVec.ofInt 64 1).isLt
  omega
def kpL (w : Int) (i : Nat) : List Bool := (List.range i).map (kpB w)
theorem kpL_len (w : Int) (i : Nat) : (kpL w i).length = i := by simp [kpL]
theorem kpL_succ (w : Int) (i : Nat) : kpL w (i + 1) = kpL w i ++ [kpB w i] := by simp [kpL, List.range_succ]
theorem keep_any (w : Int) : CallOK Try.prog 32 [U w] [] (.sl 10 0 1 192 none) [(10, some (.vec 4 1 192 (rowG encB (kpL w 192))))] := by
  refine CallOK.intro Try.call32 Try.func32 rfl rfl trivial ?_
  refine Safe.withLoop (loopAt Try.f32 0) [20] 19 (fun i : Nat => [(0, U w), (3, .sl 20 0 1 (kpL w i).length none), (4, I i)]) (fun i => [(20, .vec 4 1 (kpL w i).length (rowG encB (kpL w i)))]) (fun i => i ≤ 192) (fun i => 192 - i) ?_ ?_
  · intro i hi ih
    have hl := kpL_len w i
    by_cases hlt : i < 192
    · have hlt2 : (i : Int) < 192 := by omega
      have hm : 0 ≤ (i : Int).tmod 64 ∧ (i : Int).tmod 64 < 64 := ⟨Int.tmod_nonneg _ (by omega), Int.tmod_lt_of_pos _ (by omega)⟩
      have hb0 := bits0 (w / 2 ^ ((i : Int) % 64).toNat)
      refine Safe.goto mixed 11 [⟨1100, [(1, .tt true)]⟩, ⟨1200, []⟩, ⟨1300, []⟩] [0, 3, 4] [1208] (todo' := loopAt Try.f32 0) (sl := slotsOf 19 [(0, .val (Value.int IntKind.u64 w)), (3, .sl 1208 0 1 (addN (kpL w i).length (1 : Nat)) none), (4, I ((↑i : Int) + (1 : Int)))]) (hp := [(1208, .vec 4 1 (addN (kpL w i).length (1 : Nat)) (catR (kpL w i).length (rowG encB (kpL w i)) (rowsOf [AV.val (Value.bool (decide (bitsV BinOp.and IntKind.u64 (w / (2 : Int) ^ ((↑i : Int) % (64 : Int)).toNat) (1 : Int) = (1 : Int))))] (1 : Nat))))]) (ob := [decide ((↑i : Int) < (192 : Int)) = true, (0 : Int) ≤ (↑i : Int) ∧ (0 : Int) < (64 : Int), (0 : Int) ≤ (↑i : Int) % (64 : Int) ∧ (↑i : Int) % (64 : Int) ≤ (↑IntKind.u64.bits : Int), inK IntKind.u64 (bitsV BinOp.and IntKind.u64 (w / (2 : Int) ^ ((↑i : Int) % (64 : Int)).toNat) (1 : Int)), (0 : Nat) + (1 : Nat) ≤ (1 : Nat), (kpL w i).length = (kpL w i).length, (kpL w i).length + (1 : Nat) ≤ (1099511627776 : Nat), inK IntKind.i64 ((↑i : Int) + (1 : Int))]) rfl rfl (by kernel_rfl) ⟨(decide_eq_true hlt2), (by omega), (by first | decide | (simp only [Go.IntKind.bits]; omega)), (by simp only [inK]; omega), (by omega), (by omega), (by omega), (by simp only [inK]; omega), trivial⟩ rfl ⟨rfl, (fun q => by first | exact closed_cat (fun _ => rfl) (closed_rows rfl) q | (split <;> rfl)), trivial⟩ ?_
      refine Safe.ren [(1208, 20)] rfl rfl rfl rfl ⟨rfl, (fun q => by first | exact closed_cat (fun _ => rfl) (closed_rows rfl) q | (split <;> rfl)), trivial⟩ ?_
      · skip
        have e2 : addN (kpL w i).length 1 = (kpL w (i + 1)).length := by rw [addN_eq, kpL_len, kpL_len]
        rw [e2]
        refine Safe.leH (ih (i + 1) (by omega) (by omega)) rfl (SlLe.refl _) ⟨?_, trivial⟩ rfl ⟨rfl, fun _ => rfl, trivial⟩
        rw [kpL_succ]
        exact ob_ren_one encB (kpL w i) (kpB w i) _ (by simp) (fun _ => rfl) rfl
    · have hn : ¬ (i : Int) < 192 := by omega
      obtain rfl : i = 192 := by omega
      refine Safe.gotoE mixed 7 [⟨1100, []⟩, ⟨1200, []⟩] [2] [20] (sl := slotsOf 19 [(2, .sl 20 0 1 ((kpL w (192 : Nat)).length) none)]) (hp := [(20, .vec 4 1 ((kpL w (192 : Nat)).length) (rowG encB (kpL w (192 : Nat))))]) (ob := []) rfl rfl (by kernel_rfl) trivial rfl ⟨rfl, fun _ => rfl, trivial⟩ fun td htd => ?_
      refine Safe.ren [(20, 10)] rfl rfl rfl rfl ⟨rfl, fun _ => rfl, trivial⟩ ?_
      refine Safe.endsT Try.func32 htd (r := .sl 10 0 1 ((kpL w (192 : Nat)).length) none) (hp := [(10, .vec 4 1 ((kpL w (192 : Nat)).length) (fun q => renL [((20 : Nat), (10 : Nat))] (rowG encB (kpL w (192 : Nat)) q)))]) (ob := []) rfl (by kernel_rfl) trivial ?_ ⟨?_, trivial⟩ ⟨rfl, fun _ => rfl, trivial⟩ rfl
      · rw [kpL_len]; rfl
      · rw [kpL_len]; exact ⟨rfl, rfl, rfl, fun _ _ => rfl⟩
  · intro H
    refine Safe.goto mixed 9 [⟨100, []⟩, ⟨200, []⟩, ⟨300, []⟩] [0, 3, 4] [] (todo' := loopAt Try.f32 0) (sl := slotsOf 19 [(0, .val (Value.int IntKind.u64 w)), (3, .val (Value.slice none (0 : Nat) (0 : Nat))), (4, I 0)]) (hp := []) (ob := []) rfl rfl (by kernel_rfl) trivial rfl trivial ?_
    · refine Safe.nil 3 20 4 1 (rowG encB []) rfl rfl trivial ?_ rfl
      exact Safe.leH (H 0 (Nat.zero_le _)) rfl (SlLe.refl _) ⟨⟨rfl, rfl, rfl, fun _ _ => rfl⟩, trivial⟩ rfl ⟨rfl, fun _ => rfl, trivial⟩
end Go.Proofs.Ytbgbjgedjmhcaaa
