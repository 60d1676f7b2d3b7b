/- Spans; what flushing the first parts leaves. No conditions but those of each theorem. -/
import Derived.Test.YtbgbjgedjmhcaaaD2
namespace Go.Proofs.Ytbgbjgedjmhcaaa
open OldD (Dk chk3 flK)
set_option linter.unusedVariables false
/-- a span: its disk, where it starts, how many sectors it has -/
structure Spn where
  d : Int
  s : Int
  n : Int
instance : Inhabited Spn := ⟨⟨0, 0, 0⟩⟩
def encSp (a : Nat) (x : Spn) : List AV := [.ifc 170 (.agg [.ptr a 0 0 0, I x.d, I x.s, I x.n])]
/-- what flushing the first parts leaves; the first error -/
def flL (k : Dk) (L : List Spn) : Nat → Dk
  | 0 => k
  | i + 1 => flK (flL k L i) (L.getD i default).d
def feL (k : Dk) (L : List Spn) : Nat → Int
  | 0 => 0
  | i + 1 => if feL k L i = 0 then chk3 (flL k L i) (L.getD i default).d 0 else feL k L i
theorem flL_F (k : Dk) (L : List Spn) : ∀ i, (flL k L i).F.length ≤ k.F.length
  | 0 => Nat.le_refl _
  | i + 1 => by
    have := flL_F k L i
    simp only [flL, flK]
    split
    · exact Nat.le_trans (List.length_filter_le ..) this
    · exact this
/-- the whole disks, as spans -/
def spL (sz : Nat → Nat) (n : Nat) : List Spn := (List.range n).map fun (i : Nat) => (⟨(i : Int), 0, (sz i : Int)⟩ : Spn)
theorem spL_len (sz : Nat → Nat) (n : Nat) : (spL sz n).length = n := by simp [spL]
theorem spL_succ (sz : Nat → Nat) (n : Nat) : spL sz (n + 1) = spL sz n ++ [⟨(n : Int), 0, (sz n : Int)⟩] := by simp [spL, List.range_succ]
theorem spL_at (sz : Nat → Nat) (n i : Nat) (h : i < n) : (spL sz n).getD i default = ⟨(i : Int), 0, (sz i : Int)⟩ := by
  simp [spL, List.getD_eq_getElem?_getD, h]
end Go.Proofs.Ytbgbjgedjmhcaaa
