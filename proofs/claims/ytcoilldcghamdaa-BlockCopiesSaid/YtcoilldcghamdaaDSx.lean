/- Two disks and their spans; masks (cut out of the texts of BlockEquals and BlockReader). No conditions but those of each theorem. -/
import Derived.Test.YtcoilldcghamdaaSyZ
import Derived.KernelRfl
import Derived.Test.YtcoilldcghamdaaDG
namespace Go.Proofs.Ytcoilldcghamdaa
open Go.RowKit
open OldD (DA Dk Co Un fp Gr Row Fresh hid hd hs gu nk good ldK ge vu Ar un stF chk3 chk4 rdV wrE wrK flK)
set_option linter.unusedVariables false
set_option linter.unusedSimpArgs false
set_option maxRecDepth 10000
theorem disk2_gd (X Y : List Int) : Gd (disk2 X Y) X Y 0 := by
  refine ⟨⟨X, Y, ?_⟩, rfl, rfl, fun _ _ => rfl, ?_, ⟨Int.le_refl 0, Int.le_refl 0⟩⟩
  · simp [disk2, ldK, nk, gu, un]
  · simp [disk2, ldK, nk, stF]
theorem disk2_sz (X Y : List Int) : szV (disk2 X Y) 0 = (X.length : Int) ∧ szV (disk2 X Y) 1 = (Y.length : Int) := by
  obtain ⟨a, b, hu⟩ := (disk2_gd X Y).u
  constructor <;> simp [szV, hd, hu, gu]
theorem spans2 (X Y : List Int) (h1 : 1 ≤ X.length ∧ X.length ≤ 1000) (h2 : 1 ≤ Y.length ∧ Y.length ≤ 1000) :
    CallOK Try.prog 22 [.ptr 0 0 0 0] [(0, .box (dbox 0 (disk2 X Y)))] (.sl 10 0 1 2 none) [(0, some (.box (dbox 0 (disk2 X Y)))), (10, some (.vec 41 1 2 (rowsOf [.ifc 100 (.agg [.ptr 0 0 0 0, I 0, I 0, I X.length]), .ifc 100 (.agg [.ptr 0 0 0 0, I 1, I 0, I Y.length])] 1)))] := by
  refine CallOK.intro Try.call22 Try.func22 rfl rfl ⟨rfl, trivial, trivial⟩ ?_
  obtain ⟨z0, z1⟩ := disk2_sz X Y
  have f0 : spFit (disk2 X Y) 0 0 X.length := by unfold spFit; rw [z0]; omega
  have f1 : spFit (disk2 X Y) 1 0 Y.length := by unfold spFit; rw [z1]; omega
  have e4 : ((disk2 X Y).U.length : Int) = 2 := by simp [disk2, ldK, nk]
  have c1 := count_c 0 (disk2 X Y)
  have s0 := size_c 0 (disk2 X Y) 0
  have s1 := size_c 0 (disk2 X Y) 1
  have p0 := span_ok 0 (disk2 X Y) 0 0 X.length (by rw [z0]; omega) f0
  have p1 := span_ok 0 (disk2 X Y) 1 0 Y.length (by rw [z1]; omega) f1
  rw [e4] at c1
  rw [z0] at s0
  rw [z1] at s1
  refine Safe.gotoE mixed 52 [⟨1100, []⟩, ⟨1200, []⟩, ⟨1300, []⟩, ⟨1400, [(2, .call [0] (I ((2 : Int))) [(0, some (.box (dbox (0 : Nat) (disk2 X Y))))])]⟩, ⟨1500, [(4, .call [0] (I ((↑X.length : Int))) [(0, some (.box (dbox (0 : Nat) (disk2 X Y))))]), (5, .call [0] (.tup [.ifc ((100 : Nat)) (.agg [.ptr ((0 : Nat)) ((0 : Nat)) ((0 : Nat)) ((0 : Nat)), I ((0 : Int)), I ((0 : Int)), I ((↑X.length : Int))]), I ((0 : Int))]) [(0, some (.box (dbox (0 : Nat) (disk2 X Y))))])]⟩, ⟨1600, []⟩, ⟨1700, []⟩, ⟨1800, []⟩, ⟨1900, [(2, .call [0] (I ((2 : Int))) [(0, some (.box (dbox (0 : Nat) (disk2 X Y))))])]⟩, ⟨2000, [(4, .call [0] (I ((↑Y.length : Int))) [(0, some (.box (dbox (0 : Nat) (disk2 X Y))))]), (5, .call [0] (.tup [.ifc ((100 : Nat)) (.agg [.ptr ((0 : Nat)) ((0 : Nat)) ((0 : Nat)) ((0 : Nat)), I ((1 : Int)), I ((0 : Int)), I ((↑Y.length : Int))]), I ((0 : Int))]) [(0, some (.box (dbox (0 : Nat) (disk2 X Y))))])]⟩, ⟨2100, []⟩, ⟨2200, []⟩, ⟨2300, []⟩, ⟨2400, [(2, .call [0] (I ((2 : Int))) [(0, some (.box (dbox (0 : Nat) (disk2 X Y))))])]⟩, ⟨2500, []⟩] [2] [0, 2203] (sl := slotsOf 33 [(2, .sl ((2203 : Nat)) ((0 : Nat)) ((1 : Nat)) ((2 : Nat)) (none))]) (hp := [(0, .box (dbox (0 : Nat) (disk2 X Y))), (2203, .vec ((41 : Nat)) ((1 : Nat)) ((2 : Nat)) (catR (1 : Nat) (rowsOf [AV.ifc (100 : Nat) (AV.agg [AV.ptr (0 : Nat) (0 : Nat) (0 : Nat) (0 : Nat), AV.val (Value.int IntKind.i64 (0 : Int)), AV.val (Value.int IntKind.i64 (0 : Int)), AV.val (Value.int IntKind.i64 (↑X.length : Int))])] (1 : Nat)) (rowsOf [AV.ifc (100 : Nat) (AV.agg [AV.ptr (0 : Nat) (0 : Nat) (0 : Nat) (0 : Nat), AV.val (Value.int IntKind.i64 (1 : Int)), AV.val (Value.int IntKind.i64 (0 : Int)), AV.val (Value.int IntKind.i64 (↑Y.length : Int))])] (1 : Nat))))]) (ob := [CallOK Try.prog (57 : Nat) ([] ++ [AV.ptr (0 : Nat) (0 : Nat) (0 : Nat) (0 : Nat)] ++ []) [((0 : Nat), Ob.box (dbox (0 : Nat) (disk2 X Y)))] (AV.val (Value.int IntKind.i64 (2 : Int))) [((0 : Nat), some (Ob.box (dbox (0 : Nat) (disk2 X Y))))], CallOK Try.prog (17 : Nat) ([] ++ [AV.ptr (0 : Nat) (0 : Nat) (0 : Nat) (0 : Nat), AV.val (Value.int IntKind.i64 (0 : Int))] ++ []) [((0 : Nat), Ob.box (dbox (0 : Nat) (disk2 X Y)))] (AV.val (Value.int IntKind.i64 (↑X.length : Int))) [((0 : Nat), some (Ob.box (dbox (0 : Nat) (disk2 X Y))))], CallOK Try.prog (16 : Nat) ([] ++ [AV.ptr (0 : Nat) (0 : Nat) (0 : Nat) (0 : Nat), AV.val (Value.int IntKind.i64 (0 : Int)), ofV (Value.int IntKind.i64 (0 : Int)), AV.val (Value.int IntKind.i64 (↑X.length : Int))] ++ []) [((0 : Nat), Ob.box (dbox (0 : Nat) (disk2 X Y)))] (AV.tup [AV.ifc (100 : Nat) (AV.agg [AV.ptr (0 : Nat) (0 : Nat) (0 : Nat) (0 : Nat), AV.val (Value.int IntKind.i64 (0 : Int)), AV.val (Value.int IntKind.i64 (0 : Int)), AV.val (Value.int IntKind.i64 (↑X.length : Int))]), AV.val (Value.int IntKind.i64 (0 : Int))]) [((0 : Nat), some (Ob.box (dbox (0 : Nat) (disk2 X Y))))], (0 : Nat) + (1 : Nat) ≤ (1 : Nat), (1 : Nat) ≤ (1099511627776 : Nat), inK IntKind.i64 ((0 : Int) + (1 : Int)), CallOK Try.prog (57 : Nat) ([] ++ [AV.ptr (0 : Nat) (0 : Nat) (0 : Nat) (0 : Nat)] ++ []) [((0 : Nat), Ob.box (dbox (0 : Nat) (disk2 X Y)))] (AV.val (Value.int IntKind.i64 (2 : Int))) [((0 : Nat), some (Ob.box (dbox (0 : Nat) (disk2 X Y))))], CallOK Try.prog (17 : Nat) ([] ++ [AV.ptr (0 : Nat) (0 : Nat) (0 : Nat) (0 : Nat), AV.val (Value.int IntKind.i64 ((0 : Int) + (1 : Int)))] ++ []) [((0 : Nat), Ob.box (dbox (0 : Nat) (disk2 X Y)))] (AV.val (Value.int IntKind.i64 (↑Y.length : Int))) [((0 : Nat), some (Ob.box (dbox (0 : Nat) (disk2 X Y))))], CallOK Try.prog (16 : Nat) ([] ++ [AV.ptr (0 : Nat) (0 : Nat) (0 : Nat) (0 : Nat), AV.val (Value.int IntKind.i64 ((0 : Int) + (1 : Int))), ofV (Value.int IntKind.i64 (0 : Int)), AV.val (Value.int IntKind.i64 (↑Y.length : Int))] ++ []) [((0 : Nat), Ob.box (dbox (0 : Nat) (disk2 X Y)))] (AV.tup [AV.ifc (100 : Nat) (AV.agg [AV.ptr (0 : Nat) (0 : Nat) (0 : Nat) (0 : Nat), AV.val (Value.int IntKind.i64 (1 : Int)), AV.val (Value.int IntKind.i64 (0 : Int)), AV.val (Value.int IntKind.i64 (↑Y.length : Int))]), AV.val (Value.int IntKind.i64 (0 : Int))]) [((0 : Nat), some (Ob.box (dbox (0 : Nat) (disk2 X Y))))], (0 : Nat) + (1 : Nat) ≤ (1 : Nat), (1 : Nat) = (1 : Nat), (1 : Nat) + (1 : Nat) ≤ (1099511627776 : Nat), inK IntKind.i64 ((0 : Int) + (1 : Int) + (1 : Int)), CallOK Try.prog (57 : Nat) ([] ++ [AV.ptr (0 : Nat) (0 : Nat) (0 : Nat) (0 : Nat)] ++ []) [((0 : Nat), Ob.box (dbox (0 : Nat) (disk2 X Y)))] (AV.val (Value.int IntKind.i64 (2 : Int))) [((0 : Nat), some (Ob.box (dbox (0 : Nat) (disk2 X Y))))]]) rfl rfl (by kernel_rfl) ⟨c1, s0, p0, (by first | omega | assumption), (by first | omega | assumption), (by simp only [inK]; first | omega | assumption), c1, s1, p1, (by first | omega | assumption), (by first | omega | assumption), (by first | omega | assumption), (by simp only [inK]; first | omega | assumption), c1, trivial⟩ rfl ⟨rfl, trivial, rfl, closed_cat (n := 1) (closed_rows rfl) (closed_rows rfl), trivial⟩ fun td htd => ?_
  refine Safe.ren [(2203, 10)] rfl rfl rfl rfl ⟨rfl, trivial, rfl, closed_cat (n := 1) (closed_rows rfl) (closed_rows rfl), trivial⟩ ?_
  refine Safe.endsT Go.Proofs.Try.func22 htd (r := .sl ((10 : Nat)) ((0 : Nat)) ((1 : Nat)) ((2 : Nat)) (none)) (hp := [(0, .box (dbox (0 : Nat) (disk2 X Y))), (10, .vec ((41 : Nat)) ((1 : Nat)) ((2 : Nat)) (fun q => renL [((2203 : Nat), (10 : Nat))] (if q < (0 : Nat) + (1 : Nat) then rowsOf [AV.ifc (100 : Nat) (AV.agg [AV.ptr (0 : Nat) (0 : Nat) (0 : Nat) (0 : Nat), AV.val (Value.int IntKind.i64 (0 : Int)), AV.val (Value.int IntKind.i64 (0 : Int)), AV.val (Value.int IntKind.i64 (↑X.length : Int))])] (1 : Nat) q else rowsOf [AV.ifc (100 : Nat) (AV.agg [AV.ptr (0 : Nat) (0 : Nat) (0 : Nat) (0 : Nat), AV.val (Value.int IntKind.i64 (1 : Int)), AV.val (Value.int IntKind.i64 (0 : Int)), AV.val (Value.int IntKind.i64 (↑Y.length : Int))])] (1 : Nat) (q - ((0 : Nat) + (1 : Nat))))))]) (ob := []) rfl (by kernel_rfl) trivial rfl ⟨ObLe.refl _, ?_, trivial⟩ ⟨rfl, trivial, rfl, closed_rows rfl, trivial⟩ rfl
  all_goals exact ⟨rfl, rfl, rfl, fun q hq => match q, hq with | 0, _ | 1, _ => rfl⟩
theorem cp_eq (P Q : List Int) (s m : Nat) (hl : P.length = Q.length) (hs : s + m ≤ Q.length) : eqL P (cpL P Q s m) s m = true := by
  rw [eqL_iff]
  intro i hi
  rw [cpL_at P Q s m (s + i) (by omega), if_pos ⟨by omega, by omega⟩]
theorem and_mask (k : Nat) (hk : k < 32) (n : Int) : bitsV .and .i64 n ((2 ^ k - 1 : Nat) : Int) = n % ((2 ^ k : Nat) : Int) := by
  have hdvd : 2 ^ k ∣ 2 ^ 64 := Nat.pow_dvd_pow 2 (by omega)
  have hp : 2 ^ k ≤ 2 ^ 31 := Nat.pow_le_pow_right (by omega) (by omega)
  have hp1 : 0 < 2 ^ k := Nat.two_pow_pos k
  have hlo : 0 ≤ n % ((2 ^ k : Nat) : Int) := Int.emod_nonneg _ (by omega)
  show (((BitVec.ofInt 64 n &&& BitVec.ofInt 64 ((2 ^ k - 1 : Nat) : Int)).toNat : Nat) : Int) = _
  rw [BitVec.toNat_and, BitVec.toNat_ofInt, BitVec.toNat_ofInt]
  have e2 : (((2 ^ k - 1 : Nat) : Int) % ((2 ^ 64 : Nat) : Int)).toNat = 2 ^ k - 1 := by
    rw [Int.emod_eq_of_lt (by omega) (by omega)]
    simp
  rw [e2, Nat.and_two_pow_sub_one_eq_mod]
  have h0 : 0 ≤ n % ((2 ^ 64 : Nat) : Int) := Int.emod_nonneg _ (by decide)
  rw [Int.natCast_emod, Int.toNat_of_nonneg h0]
  exact Int.emod_emod_of_dvd n (Int.natCast_dvd_natCast.2 hdvd)
theorem and7 (n : Int) : bitsV .and .i64 n 7 = n % 8 := and_mask 3 (by omega) n
end Go.Proofs.Ytcoilldcghamdaa
