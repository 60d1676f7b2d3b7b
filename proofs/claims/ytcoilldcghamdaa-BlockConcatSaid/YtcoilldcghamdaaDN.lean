/- Concatenations of spans. No conditions but those of each theorem. -/
import Derived.Test.YtcoilldcghamdaaSyZ
import Derived.KernelRfl
import Derived.Test.YtcoilldcghamdaaDB
namespace Go.Proofs.Ytcoilldcghamdaa
open Go.RowKit
open OldD (DA Dk Co fp Gr Row Fresh hid hd hs gu nk good ldK ge vu Ar un stF chk3 chk4 rdV wrE wrK flK)
set_option linter.unusedVariables false
set_option linter.unnecessarySimpa false
set_option linter.unusedSimpArgs false
set_option maxRecDepth 10000
/-- a span: its disk, where it starts, how many sectors it has -/
structure Spn where
  d : Int
  s : Int
  n : Int
instance : Inhabited Spn := ⟨⟨0, 0, 0⟩⟩
def encSp (a : Nat) (x : Spn) : List AV := [.ifc 100 (.agg [.ptr a 0 0 0, I x.d, I x.s, I x.n])]
def upS (L : List Spn) : Nat → Int
  | 0 => 0
  | k + 1 => upS L k + (L.getD k default).n
def endsL (L : List Spn) (k : Nat) : List Int := (List.range k).map fun i => upS L (i + 1)
theorem endsL_len (L : List Spn) (k : Nat) : (endsL L k).length = k := by simp [endsL]
theorem endsL_succ (L : List Spn) (k : Nat) : endsL L (k + 1) = endsL L k ++ [upS L (k + 1)] := by simp [endsL, List.range_succ]
theorem endsL_at (L : List Spn) (k i : Nat) (h : i < k) : (endsL L k).getD i default = upS L (i + 1) := by
  simp [endsL, List.getD_eq_getElem?_getD, h]
/-- spans within bounds -/
def SpB (L : List Spn) : Prop := L.length ≤ 100 ∧ ∀ i, i < L.length → (1 ≤ (L.getD i default).n ∧ (L.getD i default).n ≤ 1000) ∧ 0 ≤ (L.getD i default).s ∧ (L.getD i default).s ≤ 100000
theorem upS_bd {L : List Spn} (h : SpB L) : ∀ k, k ≤ L.length → (k : Int) ≤ upS L k ∧ upS L k ≤ 1000 * k
  | 0, _ => by simp [upS]
  | k + 1, hk => by
    have := upS_bd h k (by omega)
    have := (h.2 k (by omega)).1
    simp only [upS]
    omega
theorem upS_mono {L : List Spn} (h : SpB L) (i : Nat) : ∀ k, i + k ≤ L.length → upS L i + k ≤ upS L (i + k)
  | 0, _ => by simp
  | k + 1, hk => by
    have := upS_mono h i k (by omega)
    have := (h.2 (i + k) (by omega)).1
    rw [show i + (k + 1) = (i + k) + 1 by omega, upS]
    omega
theorem concat_any (m : Nat) (k : Dk) (L : List Spn) (hL : SpB L) :
    CallOK Try.prog 23 [.sl 1 0 1 L.length none] [(0, .box (dbox m k)), (1, .ro 1 L.length (rowN encSp 0 L))] (.ifc 120 (.agg [.sl 10 0 1 L.length none, .sl 11 0 1 L.length none]))
      [(10, some (.vec 41 1 L.length (rowN encSp 0 L))), (11, some (.vec 3 1 L.length (rowG encI (endsL L L.length))))] := by
  refine CallOK.intro Try.call23 Try.func23 rfl rfl ⟨rfl, trivial, rfl, fun _ => rfl, trivial⟩ ?_
  refine Safe.withLoop (loopAt Try.f23 0) [0, 1, 20, 21, 22] 29 (fun i : Nat => [(3, .ptr 20 0 0 0), (4, I (upS L i)), (10, .sl 1 0 1 L.length none), (11, I L.length), (12, I i)]) (fun i => [(0, .box (dbox m k)), (1, .ro 1 L.length (rowN encSp 0 L)), (20, .blk 120 [.sl 21 0 1 L.length none, .sl 22 0 1 (endsL L i).length none]), (21, .vec 41 1 L.length (rowN encSp 0 L)), (22, .vec 3 1 (endsL L i).length (rowG encI (endsL L i)))]) (fun i => i ≤ L.length) (fun i => L.length - i) ?_ ?_
  · rintro i hi ih
    have hb := upS_bd hL i hi
    have hl := endsL_len L i
    have hll := hL.1
    by_cases hlt : i < L.length
    · have hn := (hL.2 i hlt).1
      have hlt2 : (i : Int) < (L.length : Int) := by omega
      refine Safe.goto mixed 15 [⟨1100, [(0, .tt true)]⟩, ⟨1200, []⟩, ⟨1300, [(2, .inv 87 (.agg [.ptr ((0 : Nat)) ((0 : Nat)) ((0 : Nat)) ((0 : Nat)), I ((L.getD i default).d), I ((L.getD i default).s), I ((L.getD i default).n)]) [0] (I ((L.getD i default).n)) [])]⟩, ⟨1400, []⟩, ⟨1500, []⟩] [3, 4, 10, 11, 12] [0, 1, 20, 21, 1404] (todo' := loopAt Go.Proofs.Try.f23 0) (sl := slotsOf 29 [(3, .ptr ((20 : Nat)) ((0 : Nat)) ((0 : Nat)) ((0 : Nat))), (4, I (upS L i + (L.getD i default).n)), (10, .sl ((1 : Nat)) ((0 : Nat)) ((1 : Nat)) (L.length) (none)), (11, I ((↑L.length : Int))), (12, I ((↑i : Int) + (1 : Int)))]) (hp := [(0, .box (dbox m k)), (1, .ro ((1 : Nat)) (L.length) (rowN encSp (0 : Nat) L)), (20, .blk ((120 : Nat)) [.sl ((21 : Nat)) ((0 : Nat)) ((1 : Nat)) (L.length) (none), .sl ((1404 : Nat)) ((0 : Nat)) ((1 : Nat)) (addN (endsL L i).length (1 : Nat)) (none)]), (21, .vec ((41 : Nat)) ((1 : Nat)) (L.length) (rowN encSp (0 : Nat) L)), (1404, .vec ((3 : Nat)) ((1 : Nat)) (addN (endsL L i).length (1 : Nat)) (catR (endsL L i).length (rowG encI (endsL L i)) (rowsOf [AV.val (Value.int IntKind.i64 (upS L i + (L.getD i default).n))] (1 : Nat))))]) (ob := [decide ((↑i : Int) < (↑L.length : Int)) = true, (0 : Int) ≤ (↑i : Int) ∧ (↑i : Int) < (↑L.length : Int), i < L.length, MethOK Try.prog "Size" (AV.ifc (100 : Nat) (AV.agg [AV.ptr (0 : Nat) (0 : Nat) (0 : Nat) (0 : Nat), AV.val (Value.int IntKind.i64 (L.getD i default).d), AV.val (Value.int IntKind.i64 (L.getD i default).s), AV.val (Value.int IntKind.i64 (L.getD i default).n)])) (87 : Nat) (AV.agg [AV.ptr (0 : Nat) (0 : Nat) (0 : Nat) (0 : Nat), AV.val (Value.int IntKind.i64 (L.getD i default).d), AV.val (Value.int IntKind.i64 (L.getD i default).s), AV.val (Value.int IntKind.i64 (L.getD i default).n)]), CallOK Try.prog (87 : Nat) [AV.agg [AV.ptr (0 : Nat) (0 : Nat) (0 : Nat) (0 : Nat), AV.val (Value.int IntKind.i64 (L.getD i default).d), AV.val (Value.int IntKind.i64 (L.getD i default).s), AV.val (Value.int IntKind.i64 (L.getD i default).n)]] [((0 : Nat), Ob.box (dbox m k))] (AV.val (Value.int IntKind.i64 (L.getD i default).n)) [], inK IntKind.i64 (upS L i + (L.getD i default).n), (0 : Nat) + (1 : Nat) ≤ (1 : Nat), (endsL L i).length = (endsL L i).length, (endsL L i).length + (1 : Nat) ≤ (1099511627776 : Nat), inK IntKind.i64 ((↑i : Int) + (1 : Int))]) rfl rfl (by kernel_rfl) ⟨(decide_eq_true hlt2), (by omega), (by omega), (MethOK.of (by kernel_rfl)), (spsize_any (m) (k) ((L.getD i default).d) ((L.getD i default).s) ((L.getD i default).n)), (by simp only [inK]; omega), (by omega), (by omega), (by omega), (by simp only [inK]; omega), trivial⟩ rfl ⟨rfl, trivial, rfl, fun _ => rfl, rfl, rfl, rfl, fun _ => rfl, rfl, closed_cat (fun _ => rfl) (closed_rows rfl), trivial⟩ ?_
      refine Safe.ren [(1404, 22)] rfl rfl rfl rfl ⟨rfl, trivial, rfl, fun _ => rfl, rfl, rfl, rfl, fun _ => rfl, rfl, closed_cat (fun _ => rfl) (closed_rows rfl), trivial⟩ ?_
      · skip
        have e2 : addN (endsL L i).length 1 = (endsL L (i + 1)).length := by rw [addN_eq, endsL_len, endsL_len]
        rw [e2]
        refine Safe.leH (ih (i + 1) (by omega) (by omega)) rfl (SlLe.refl _) ⟨ObLe.refl _, ObLe.refl _, ObLe.refl _, ObLe.refl _, ?_, trivial⟩ rfl ⟨rfl, trivial, rfl, fun _ => rfl, rfl, rfl, rfl, fun _ => rfl, rfl, fun _ => rfl, trivial⟩
        rw [endsL_succ]
        exact ob_ren_one encI (endsL L i) (upS L (i + 1)) _ (by simp) (fun _ => rfl) rfl
    · have hn : ¬ ((i : Int) < (L.length : Int)) := by omega
      obtain rfl : i = L.length := by omega
      refine Safe.gotoE mixed 7 [⟨1100, [(0, .tt false)]⟩, ⟨1200, []⟩] [2] [0, 1, 21, 22] (sl := slotsOf 29 [(2, .ifc ((120 : Nat)) (.agg [.sl ((21 : Nat)) ((0 : Nat)) ((1 : Nat)) (L.length) (none), .sl ((22 : Nat)) ((0 : Nat)) ((1 : Nat)) ((endsL L L.length).length) (none)]))]) (hp := [(0, .box (dbox m k)), (1, .ro ((1 : Nat)) (L.length) (rowN encSp (0 : Nat) L)), (21, .vec ((41 : Nat)) ((1 : Nat)) (L.length) (rowN encSp (0 : Nat) L)), (22, .vec ((3 : Nat)) ((1 : Nat)) ((endsL L L.length).length) (rowG encI (endsL L L.length)))]) (ob := [decide ((↑L.length : Int) < (↑L.length : Int)) = false]) rfl rfl (by kernel_rfl) ⟨(decide_eq_false hn), trivial⟩ rfl ⟨rfl, trivial, rfl, fun _ => rfl, rfl, fun _ => rfl, rfl, fun _ => rfl, trivial⟩ fun td htd => ?_
      refine Safe.ren [(21, 10), (22, 11)] rfl rfl rfl rfl ⟨rfl, trivial, rfl, fun _ => rfl, rfl, fun _ => rfl, rfl, fun _ => rfl, trivial⟩ ?_
      refine Safe.endsT Go.Proofs.Try.func23 htd (r := .ifc ((120 : Nat)) (.agg [.sl ((10 : Nat)) ((0 : Nat)) ((1 : Nat)) (L.length) (none), .sl ((11 : Nat)) ((0 : Nat)) ((1 : Nat)) ((endsL L L.length).length) (none)])) (hp := [(0, .box (dbox m k)), (1, .ro ((1 : Nat)) (L.length) (rowN encSp (0 : Nat) L)), (10, .vec ((41 : Nat)) ((1 : Nat)) (L.length) (rowN encSp (0 : Nat) L)), (11, .vec ((3 : Nat)) ((1 : Nat)) ((endsL L L.length).length) (fun q => renL [((21 : Nat), (10 : Nat)), ((22 : Nat), (11 : Nat))] (rowG encI (endsL L L.length) q)))]) (ob := []) rfl (by kernel_rfl) trivial ?_ ⟨ObLe.refl _, ObLe.refl _, ObLe.refl _, ?_, trivial⟩ ⟨rfl, trivial, rfl, fun _ => rfl, rfl, fun _ => rfl, rfl, fun _ => rfl, trivial⟩ rfl
      · rw [endsL_len]; rfl
      · rw [endsL_len]; exact ⟨rfl, rfl, rfl, fun _ _ => rfl⟩
  · intro H
    have hll := hL.1
    refine Safe.goto mixed 11 [⟨1100, []⟩, ⟨1200, []⟩, ⟨1300, []⟩, ⟨1400, []⟩] [3, 4, 10, 11, 12] [0, 1, 1203, 1201] (todo' := loopAt Go.Proofs.Try.f23 0) (sl := slotsOf 29 [(3, .ptr ((1203 : Nat)) ((0 : Nat)) ((0 : Nat)) ((0 : Nat))), (4, I ((0 : Int))), (10, .sl ((1 : Nat)) ((0 : Nat)) ((1 : Nat)) (L.length) (none)), (11, I ((↑L.length : Int))), (12, I ((0 : Int)))]) (hp := [(0, .box (dbox m k)), (1, .ro ((1 : Nat)) (L.length) (rowN encSp (0 : Nat) L)), (1203, .blk ((120 : Nat)) [.sl ((1201 : Nat)) ((0 : Nat)) ((1 : Nat)) (L.length) (none), .val (Value.slice none (0 : Nat) (0 : Nat))]), (1201, .vec ((41 : Nat)) ((1 : Nat)) (L.length) (rowN encSp (0 : Nat) L))]) (ob := [(0 : Nat) + L.length ≤ L.length, L.length ≤ (1099511627776 : Nat)]) rfl rfl (by kernel_rfl) ⟨(by omega), (by omega), trivial⟩ rfl ⟨rfl, trivial, rfl, fun _ => rfl, rfl, rfl, rfl, fun _ => rfl, trivial⟩ ?_
    refine Safe.ren [(1203, 20), (1201, 21)] rfl rfl rfl rfl ⟨rfl, trivial, rfl, fun _ => rfl, rfl, rfl, rfl, fun _ => rfl, trivial⟩ ?_
    · refine Safe.leH (sl' := slotsOf 29 [(3, .ptr 20 0 0 0), (4, I 0), (10, .sl 1 0 1 L.length none), (11, I L.length), (12, I 0)]) (hp' := [(0, .box (dbox m k)), (1, .ro 1 L.length (rowN encSp 0 L)), (20, .blk 120 [.sl 21 0 1 L.length none, .val (.slice none 0 0)]), (21, .vec 41 1 L.length (rowN encSp 0 L))]) (dom' := [0, 1, 20, 21]) ?_ rfl (SlLe.refl _) ⟨ObLe.refl _, ObLe.refl _, ObLe.refl _, ObLe.refl _, trivial⟩ rfl ⟨rfl, trivial, rfl, fun _ => rfl, rfl, rfl, rfl, fun _ => rfl, trivial⟩
      refine Safe.nilCell 20 1 22 3 1 (rowG encI []) (bty := 120) (cs := [.sl 21 0 1 L.length none, .val (.slice none 0 0)]) rfl rfl rfl ⟨rfl, trivial, rfl, fun _ => rfl, rfl, rfl, rfl, fun _ => rfl, trivial⟩ ?_ rfl
      exact Safe.leH (H 0 (Nat.zero_le _)) rfl (SlLe.refl _) ⟨ObLe.refl _, ObLe.refl _, ObLe.refl _, ObLe.refl _, ⟨rfl, rfl, rfl, fun _ _ => rfl⟩, trivial⟩ rfl ⟨rfl, trivial, rfl, fun _ => rfl, rfl, rfl, rfl, fun _ => rfl, rfl, fun _ => rfl, trivial⟩
end Go.Proofs.Ytcoilldcghamdaa
