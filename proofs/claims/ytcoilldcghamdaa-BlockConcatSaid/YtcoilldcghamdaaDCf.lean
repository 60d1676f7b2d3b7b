/- BlockConcat: the calls of a concatenation over an array. No conditions but those of each theorem. -/
import Derived.Test.YtcoilldcghamdaaSyZ
import Derived.KernelRfl
import Derived.Test.YtcoilldcghamdaaDCe
import Derived.Test.YtcoilldcghamdaaDC
namespace Go.Proofs.Ytcoilldcghamdaa
open Go.RowKit
open OldD (DA Dk Co fp Gr Row Fresh hid hd hs gu nk good ldK ge vu Ar un stF chk3 chk4 rdV wrE wrK flK reK)
set_option linter.unusedVariables false
set_option linter.unnecessarySimpa false
set_option linter.unusedSimpArgs false
set_option maxRecDepth 10000
def encLn (X : List Int) : List AV := [.len X.length]
theorem spansA {LL : List (List Int)} (h : LB LL) : CallOK Try.prog 22 [.ptr 0 0 0 0] [(0, .box (dbox 0 (dkN LL)))] (.sl 10 0 1 LL.length none) [(0, some (.box (dbox 0 (dkN LL)))), (10, some (.vec 41 1 LL.length (rowN encSp 0 (spA LL))))] := by
  have g := (dkN_gk LL).1
  exact spansG 0 LL.length (szL LL) (dkN LL) (by have := h.1; omega) g.ul fun i hi => ⟨g.sz hi, h.2 i hi⟩
theorem concatA {LL : List (List Int)} (h : LB LL) (k : Dk) : CallOK Try.prog 23 [.sl 1 0 1 LL.length none] [(0, .box (dbox 0 k)), (1, .ro 1 LL.length (rowN encSp 0 (spA LL)))] (.ifc 120 (.agg [.sl 10 0 1 LL.length none, .sl 11 0 1 LL.length none]))
      [(10, some (.vec 41 1 LL.length (rowN encSp 0 (spA LL)))), (11, some (.vec 3 1 LL.length (rowG encI (endsL (spA LL) LL.length))))] := by
  have := concat_any 0 k (spA LL) (spA_b h)
  rwa [spA_len] at this
theorem sizeA {LL : List (List Int)} (h : LB LL) (k : Dk) : CallOK Try.prog 99 [.agg [.sl 1 0 1 LL.length none, .sl 2 0 1 LL.length none]] [(0, .box (dbox 0 k)), (1, .ro 1 LL.length (rowN encSp 0 (spA LL))), (2, .ro 1 LL.length (rowG encI (endsL (spA LL) LL.length)))] (I LL.flatten.length) [] := by
  have := csize_any 0 k (spA LL) (spA_b h)
  rwa [spA_len, spA_up LL _ (Nat.le_refl _), offs_all] at this
theorem readA {LL : List (List Int)} (h : LB LL) {xr : Int → Int} {i : Nat} {k : Dk} (J : Jn LL xr i k) (hi : i < LL.flatten.length) : CallOK Try.prog 98 [.agg [.sl 1 0 1 LL.length none, .sl 2 0 1 LL.length none], I i] [(0, .box (dbox 0 k)), (1, .ro 1 LL.length (rowN encSp 0 (spA LL))), (2, .ro 1 LL.length (rowG encI (endsL (spA LL) LL.length)))] (.tup [.val (.int .u64 (LL.flatten.getD i default)), I 0]) [(0, some (.box (dbox 0 k)))] := by
  obtain ⟨K, t, h1, h2, h3, h4, h5⟩ := pl_at h i hi
  have s := J.step h1 h2 h3
  have := cread_any 0 k (spA LL) (spA_b h) (by rw [spA_len]; omega) (i : Int) K h4
  rw [spA_len, spA_at LL K h1, spA_up LL K (by omega)] at this
  dsimp only at this
  rw [show (0 : Int) + ((i : Int) - (offs LL K : Int)) = (t : Int) by omega, s.1, s.2.1, ← h5] at this
  have e : LL.flatten.getD i default = ge LL.flatten i := by rw [List.getD_eq_getElem?_getD]; rfl
  rw [e]
  exact this
theorem writeA {LL : List (List Int)} (h : LB LL) {xr : Int → Int} {i : Nat} {k : Dk} (J : Jn LL xr i k) (hi : i < LL.flatten.length) (hN : LL.flatten.length ≤ 100000) : ∃ k', Jn LL xr (i + 1) k' ∧ CallOK Try.prog 100 [.agg [.sl 1 0 1 LL.length none, .sl 2 0 1 LL.length none], I i, .val (.int .u64 (xr (LL.flatten.getD i default)))] [(0, .box (dbox 0 k)), (1, .ro 1 LL.length (rowN encSp 0 (spA LL))), (2, .ro 1 LL.length (rowG encI (endsL (spA LL) LL.length)))] (I 0) [(0, some (.box (dbox 0 k')))] := by
  obtain ⟨K, t, h1, h2, h3, h4, h5⟩ := pl_at h i hi
  have s := J.step h1 h2 h3
  have := cwrite_any 0 k (spA LL) (spA_b h) (by rw [spA_len]; omega) (i : Int) (xr (ge (LL.getD K []) t)) K h4 (J.g.bdd (by omega))
  rw [spA_len, spA_at LL K h1, spA_up LL K (by omega)] at this
  dsimp only at this
  rw [show (0 : Int) + ((i : Int) - (offs LL K : Int)) = (t : Int) by omega, s.2.2.1] at this
  have e : LL.flatten.getD i default = ge (LL.getD K []) t := by rw [← h5, List.getD_eq_getElem?_getD]; rfl
  rw [e]
  exact ⟨_, s.2.2.2, this⟩
end Go.Proofs.Ytcoilldcghamdaa
