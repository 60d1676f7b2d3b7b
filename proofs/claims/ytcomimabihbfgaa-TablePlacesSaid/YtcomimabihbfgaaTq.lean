/- Src: Pick, Word. -/
import Derived.Test.YtcomimabihbfgaaSyV
import Derived.KernelRfl
import Derived.Test.YtcomimabihbfgaaSyV
import Derived.Test.YtcomimabihbfgaaTp
namespace Go.Proofs.Ytcomimabihbfgaa
open Go.RowKit
set_option linter.unusedVariables false
set_option linter.unnecessarySimpa false
set_option maxRecDepth 10000 in
set_option maxHeartbeats 4000000 in
theorem pick_any (z : List Int) (m p : Nat) (L : List Int) (hm : m ≤ 1000) (hz : m ≤ z.length) (hp : p ≤ m) (hL : 1 ≤ L.length ∧ L.length ≤ 1000) : CallOK Try.prog 35 [.ptr 0 0 0 0, .sl 2 0 1 L.length none] [(0, .blk 57 [.sl 1 0 1 m none, I p]), (1, .ro 1 z.length (rowG encI z)), (2, .ro 1 L.length (rowG encI L))] (I (L.getD (nV z m p L.length).toNat default)) [(0, some (.blk 57 [.sl 1 0 1 m none, I (nA m p L.length)]))] := by
  refine CallOK.intro Try.call35 Try.func35 rfl rfl ⟨rfl, rfl, rfl, fun _ => rfl, rfl, fun _ => rfl, trivial⟩ ?_
  have h1 := nV_bd z m p L.length (by omega)
  refine Safe.ends mixed Go.Proofs.Try.func35 4 [⟨1100, []⟩, ⟨1200, [(4, .call [0, 1] (I (nV z m p (↑L.length : Int))) [(0, some (.blk ((57 : Nat)) [.sl ((1 : Nat)) ((0 : Nat)) ((1 : Nat)) (m) (none), I ((↑(nA m p (↑L.length : Int)) : Int))]))])]⟩] (r := I (L.getD (nV z m p (↑L.length : Int)).toNat default)) (hp := [(0, .blk ((57 : Nat)) [.sl ((1 : Nat)) ((0 : Nat)) ((1 : Nat)) (m) (none), I ((↑(nA m p (↑L.length : Int)) : Int))]), (1, .ro ((1 : Nat)) (z.length) (rowG encI z)), (2, .ro ((1 : Nat)) (L.length) (rowG encI L))]) (ob := [CallOK Try.prog (16 : Nat) ([] ++ [AV.ptr (0 : Nat) (0 : Nat) (0 : Nat) (0 : Nat), AV.val (Value.int IntKind.i64 (↑L.length : Int))] ++ []) [((0 : Nat), Ob.blk (57 : Nat) [AV.sl (1 : Nat) (0 : Nat) (1 : Nat) m none, AV.val (Value.int IntKind.i64 (↑p : Int))]), ((1 : Nat), Ob.ro (1 : Nat) z.length (rowG encI z))] (AV.val (Value.int IntKind.i64 (nV z m p (↑L.length : Int)))) [((0 : Nat), some (Ob.blk (57 : Nat) [AV.sl (1 : Nat) (0 : Nat) (1 : Nat) m none, AV.val (Value.int IntKind.i64 (↑(nA m p (↑L.length : Int)) : Int))]))], (0 : Int) ≤ nV z m p (↑L.length : Int) ∧ nV z m p (↑L.length : Int) < (↑L.length : Int), (nV z m p (↑L.length : Int)).toNat < L.length]) rfl (by kernel_rfl) ⟨(CallOK.ren (n_any (z) (m) (p) ((↑L.length : Int)) (by omega) (by omega) (by omega) (by omega)) [(0, 0), (1, 1)] [0, 1] rfl rfl rfl rfl ⟨rfl, rfl, rfl, fun _ => rfl, trivial⟩ rfl ⟨rfl, rfl, rfl, fun _ => rfl, trivial⟩), (by omega), (by omega), trivial⟩ rfl ⟨ObLe.refl _, ObLe.refl _, ObLe.refl _, trivial⟩ ⟨rfl, rfl, rfl, fun _ => rfl, rfl, fun _ => rfl, trivial⟩ rfl
set_option maxRecDepth 10000 in
set_option maxHeartbeats 4000000 in
theorem word_any (z : List Int) (m p : Nat) (L : List ByteArray) (hm : m ≤ 1000) (hz : m ≤ z.length) (hp : p ≤ m) (hL : 1 ≤ L.length ∧ L.length ≤ 1000) : CallOK Try.prog 34 [.ptr 0 0 0 0, .sl 2 0 1 L.length none] [(0, .blk 57 [.sl 1 0 1 m none, I p]), (1, .ro 1 z.length (rowG encI z)), (2, .ro 1 L.length (rowG encS L))] (S (L.getD (nV z m p L.length).toNat default)) [(0, some (.blk 57 [.sl 1 0 1 m none, I (nA m p L.length)]))] := by
  refine CallOK.intro Try.call34 Try.func34 rfl rfl ⟨rfl, rfl, rfl, fun _ => rfl, rfl, fun _ => rfl, trivial⟩ ?_
  have h1 := nV_bd z m p L.length (by omega)
  refine Safe.ends mixed Go.Proofs.Try.func34 4 [⟨1100, []⟩, ⟨1200, [(4, .call [0, 1] (I (nV z m p (↑L.length : Int))) [(0, some (.blk ((57 : Nat)) [.sl ((1 : Nat)) ((0 : Nat)) ((1 : Nat)) (m) (none), I ((↑(nA m p (↑L.length : Int)) : Int))]))])]⟩] (r := S (L.getD (nV z m p (↑L.length : Int)).toNat default)) (hp := [(0, .blk ((57 : Nat)) [.sl ((1 : Nat)) ((0 : Nat)) ((1 : Nat)) (m) (none), I ((↑(nA m p (↑L.length : Int)) : Int))]), (1, .ro ((1 : Nat)) (z.length) (rowG encI z)), (2, .ro ((1 : Nat)) (L.length) (rowG encS L))]) (ob := [CallOK Try.prog (16 : Nat) ([] ++ [AV.ptr (0 : Nat) (0 : Nat) (0 : Nat) (0 : Nat), AV.val (Value.int IntKind.i64 (↑L.length : Int))] ++ []) [((0 : Nat), Ob.blk (57 : Nat) [AV.sl (1 : Nat) (0 : Nat) (1 : Nat) m none, AV.val (Value.int IntKind.i64 (↑p : Int))]), ((1 : Nat), Ob.ro (1 : Nat) z.length (rowG encI z))] (AV.val (Value.int IntKind.i64 (nV z m p (↑L.length : Int)))) [((0 : Nat), some (Ob.blk (57 : Nat) [AV.sl (1 : Nat) (0 : Nat) (1 : Nat) m none, AV.val (Value.int IntKind.i64 (↑(nA m p (↑L.length : Int)) : Int))]))], (0 : Int) ≤ nV z m p (↑L.length : Int) ∧ nV z m p (↑L.length : Int) < (↑L.length : Int), (nV z m p (↑L.length : Int)).toNat < L.length]) rfl (by kernel_rfl) ⟨(CallOK.ren (n_any (z) (m) (p) ((↑L.length : Int)) (by omega) (by omega) (by omega) (by omega)) [(0, 0), (1, 1)] [0, 1] rfl rfl rfl rfl ⟨rfl, rfl, rfl, fun _ => rfl, trivial⟩ rfl ⟨rfl, rfl, rfl, fun _ => rfl, trivial⟩), (by omega), (by omega), trivial⟩ rfl ⟨ObLe.refl _, ObLe.refl _, ObLe.refl _, trivial⟩ ⟨rfl, rfl, rfl, fun _ => rfl, rfl, fun _ => rfl, trivial⟩ rfl
theorem ob_lit {α : Type} [Inhabited α] (enc : α → AV) (L : List α) : ObLe (.ro 1 L.length (rowG (fun x => [enc x]) L)) (.ro 1 L.length (rowsOf (L.map enc) 1)) ∧ ObLe (.ro 1 L.length (rowsOf (L.map enc) 1)) (.ro 1 L.length (rowG (fun x => [enc x]) L)) := by
  have key : ∀ q, q < L.length → rowG (fun x => [enc x]) L q = rowsOf (L.map enc) 1 q := fun q hq => by
    unfold rowG rowsOf
    rw [Nat.mul_one, List.drop_eq_getElem_cons (by simpa using hq)]
    simp [List.getD_eq_getElem?_getD, List.getElem?_eq_getElem hq]
  exact ⟨⟨rfl, rfl, key⟩, ⟨rfl, rfl, fun q hq => (key q hq).symm⟩⟩
end Go.Proofs.Ytcomimabihbfgaa
