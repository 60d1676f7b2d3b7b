/- Labels: their words, and back. No conditions but those of each theorem. -/
import Derived.Test.YtbgbjgedjmhcaaaSyZ
import Derived.KernelRfl
import Derived.Test.YtbgbjgedjmhcaaaLA
import Derived.Test.YtbgbjgedjmhcaaaLB
namespace Go.Proofs.Ytbgbjgedjmhcaaa
open Go.RowKit
set_option linter.unusedVariables false
set_option linter.unnecessarySimpa false
set_option linter.unusedSimpArgs false
set_option maxRecDepth 10000
abbrev mgc : Int := 5494745885936405590
abbrev w64 (z : Int) : Int := IntKind.u64.wrap z
theorem w64_bd (z : Int) : 0 ≤ w64 z ∧ w64 z ≤ 18446744073709551615 := by
  have e : w64 z = z % 18446744073709551616 := by simp [w64, IntKind.wrap, IntKind.signed, IntKind.bits]
  rw [e]
  have := Int.emod_nonneg z (show (18446744073709551616 : Int) ≠ 0 by decide)
  have := Int.emod_lt_of_pos z (show (0 : Int) < 18446744073709551616 by decide)
  omega
/-- the checksum of a label's words -/
def sumL (i s t a g : Int) : Int := sumW [mgc, i, s, t, a, g, 0]
theorem sumL_bd (i s t a g : Int) : 0 ≤ sumL i s t a g ∧ sumL i s t a g ≤ 4294967295 := sumW_bd _
/-- the words of a label -/
def wdL (i s t a g : Int) : List Int := [mgc, i, s, t, a, g, sumL i s t a g, 0]
def Wd (x : Int) : Prop := 0 ≤ x ∧ x ≤ 18446744073709551615
theorem wf6 {i s t a g : Int} (hi : Wd i) (hs : Wd s) (ht : Wd t) (ha : Wd a) (hg : Wd g) : Wf [mgc, i, s, t, a, g] := by
  intro x hx
  simp only [List.mem_cons, List.not_mem_nil, or_false] at hx
  rcases hx with rfl | rfl | rfl | rfl | rfl | rfl
  · decide
  · exact hi
  · exact hs
  · exact ht
  · exact ha
  · exact hg
set_option maxHeartbeats 2000000 in
theorem lwords_any (i zs zt za g : Int) (hi : Wd i) (hg : Wd g) : CallOK Try.prog 55 [.agg [U i, I zs, I zt, I za, U g]] [] (.agg [U mgc, U i, U (w64 zs), U (w64 zt), U (w64 za), U g, U (sumL i (w64 zs) (w64 zt) (w64 za) g), U 0]) [] := by
  refine CallOK.intro Try.call55 Try.func55 rfl rfl trivial ?_
  have h6 := wf6 hi (w64_bd zs) (w64_bd zt) (w64_bd za) hg
  have sm := sums_blk 97 0 6 [U mgc, U i, U (w64 zs), U (w64 zt), U (w64 za), U g, U 0, U 0] [mgc, i, w64 zs, w64 zt, w64 za, g] h6 rfl (by omega) (fun j hj => match j, hj with | 0, _ | 1, _ | 2, _ | 3, _ | 4, _ | 5, _ => rfl)
  have ex := exts_blk (sumW [mgc, i, w64 zs, w64 zt, w64 za, g]) (sumW_bd _) 97 7 1 [U mgc, U i, U (w64 zs), U (w64 zt), U (w64 za), U g, U 0, U 0] [0] (fun x hx => by simp at hx; omega) rfl (by omega) (fun j hj => match j, hj with | 0, _ => rfl)
  rw [show extW (sumW [mgc, i, w64 zs, w64 zt, w64 za, g]) [0] = sumL i (w64 zs) (w64 zt) (w64 za) g from extW_app 0 [mgc, i, w64 zs, w64 zt, w64 za, g] 0] at ex
  have bd := sumL_bd i (w64 zs) (w64 zt) (w64 za) g
  generalize sumL i (w64 zs) (w64 zt) (w64 za) g = S at ex bd
  generalize sumW [mgc, i, w64 zs, w64 zt, w64 za, g] = S6 at sm ex
  refine Safe.ends mixed Try.func55 10 [⟨100, []⟩, ⟨200, [(4, .wrap), (7, .wrap), (10, .wrap)]⟩, ⟨300, [(1, .call [214] (.val (Value.int IntKind.u32 S6)) [])]⟩, ⟨400, [(2, .call [214] (.val (Value.int IntKind.u32 S)) [])]⟩, ⟨500, []⟩] (r := .agg [.val (Value.int IntKind.u64 (5494745885936405590 : Int)), .val (Value.int IntKind.u64 i), .val (Value.int IntKind.u64 (IntKind.u64.wrap zs)), .val (Value.int IntKind.u64 (IntKind.u64.wrap zt)), .val (Value.int IntKind.u64 (IntKind.u64.wrap za)), .val (Value.int IntKind.u64 g), .val (Value.int IntKind.u64 S), .val (Value.int IntKind.u64 (0 : Int))]) (hp := []) (ob := [(0 : Int) ≤ (6 : Int) ∧ (6 : Int) ≤ (↑(8 : Nat) : Int), CallOK Try.prog (95 : Nat) ([] ++ [AV.sl (214 : Nat) (0 : Nat) (1 : Nat) (6 : Nat) none] ++ []) [((214 : Nat), Ob.blk (97 : Nat) [AV.val (Value.int IntKind.u64 (5494745885936405590 : Int)), AV.val (Value.int IntKind.u64 i), AV.val (Value.int IntKind.u64 (IntKind.u64.wrap zs)), AV.val (Value.int IntKind.u64 (IntKind.u64.wrap zt)), AV.val (Value.int IntKind.u64 (IntKind.u64.wrap za)), AV.val (Value.int IntKind.u64 g), AV.val (Value.int IntKind.u64 (0 : Int)), AV.val (Value.int IntKind.u64 (0 : Int))])] (AV.val (Value.int IntKind.u32 S6)) [], (0 : Int) ≤ (7 : Int) ∧ (7 : Int) ≤ (↑(8 : Nat) : Int), CallOK Try.prog (96 : Nat) ([] ++ [AV.val (Value.int IntKind.u32 S6), AV.sl (214 : Nat) (7 : Nat) (1 : Nat) (1 : Nat) none] ++ []) [((214 : Nat), Ob.blk (97 : Nat) [AV.val (Value.int IntKind.u64 (5494745885936405590 : Int)), AV.val (Value.int IntKind.u64 i), AV.val (Value.int IntKind.u64 (IntKind.u64.wrap zs)), AV.val (Value.int IntKind.u64 (IntKind.u64.wrap zt)), AV.val (Value.int IntKind.u64 (IntKind.u64.wrap za)), AV.val (Value.int IntKind.u64 g), AV.val (Value.int IntKind.u64 (0 : Int)), AV.val (Value.int IntKind.u64 (0 : Int))])] (AV.val (Value.int IntKind.u32 S)) [], inK IntKind.u64 S, (0 : Int) ≤ (6 : Int) ∧ (6 : Int) < (↑(8 : Nat) : Int)]) rfl (by kernel_rfl) ⟨(by omega), (CallOK.ren sm [(0, 214)] [0] rfl rfl rfl rfl ⟨rfl, rfl, trivial⟩ rfl ⟨rfl, rfl, trivial⟩), (by omega), (CallOK.ren ex [(0, 214)] [0] rfl rfl rfl rfl ⟨rfl, rfl, trivial⟩ rfl ⟨rfl, rfl, trivial⟩), (by simp only [inK]; omega), (by omega), trivial⟩ rfl trivial trivial rfl
end Go.Proofs.Ytbgbjgedjmhcaaa
