/- BlockRanges. No conditions but those of each theorem. -/
import Derived.Test.YtcoilldcghamdaaSyZ
import Derived.KernelRfl
import Derived.Test.YtcoilldcghamdaaDA
import Derived.Test.YtcoilldcghamdaaDJb
namespace Go.Proofs.Ytcoilldcghamdaa
open Go.RowKit
open OldD (DA Dk Co Un fp Gr Row Fresh hid hd hs gu nk good ldK ge vu Ar un stF chk3 chk4 rdV wrE wrK flK)
set_option linter.unusedVariables false
set_option linter.unnecessarySimpa false
set_option linter.unusedSimpArgs false
set_option maxRecDepth 10000
theorem ranges_walk (d s n a : Int) (P Q : List Int) (k0 : Dk) (hP : P.length = 6) (hQ : Q.length = 4) (gd : Gd k0 P Q 0) (z0 : szV k0 0 = 6) (z1 : szV k0 1 = 4) (zz : ∀ x, x ≠ 0 → x ≠ 1 → szV k0 x = 0)
    (w1 : CallOK Try.prog 15 [I 6, U 1] [] (.sl 10 0 1 6 none) [(10, some (.vec 36 1 6 (rowG encU P)))])
    (w2 : CallOK Try.prog 15 [I 4, U 9] [] (.sl 10 0 1 4 none) [(10, some (.vec 36 1 4 (rowG encU Q)))])
    (l : CallOK Try.prog 14 [.sl 1 0 1 2 none] [(1, .ro 1 2 (rowsOf [.sl 2 0 1 6 none, .sl 3 0 1 4 none] 1)), (2, .vec 36 1 6 (rowG encU P)), (3, .vec 36 1 4 (rowG encU Q))] (.ptr 10 0 0 0) [(10, some (.box (dbox 0 k0)))]) :
    CallOK Try.prog 4 [I d, I s, I n, I a] [] (B true) [] := by
  refine CallOK.intro Try.call4 Try.func4 rfl rfl trivial ?_
  obtain ⟨d2, hd2⟩ : ∃ x, x = bitsV .and .i64 d 1 := ⟨_, rfl⟩
  obtain ⟨s2, hs2⟩ : ∃ x, x = bitsV .and .i64 s 7 := ⟨_, rfl⟩
  obtain ⟨n2, hn2⟩ : ∃ x, x = bitsV .and .i64 n 7 := ⟨_, rfl⟩
  have gd2 : d2 = 0 ∨ d2 = 1 := by rw [hd2, and1]; omega
  have gs2 : 0 ≤ s2 ∧ s2 < 8 := by rw [hs2, and7]; omega
  have gn2 : 0 ≤ n2 ∧ n2 < 8 := by rw [hn2, and7]; omega
  have hK : 0 ≤ bitsV .and .i64 a 7 ∧ bitsV .and .i64 a 7 < 8 := by rw [and7]; omega
  have hX : 0 ≤ bitsV .and .i64 n2 7 ∧ bitsV .and .i64 n2 7 < 8 := by rw [and7]; omega
  have hTT : ∀ x : Int, x = 0 ∨ x = 1 → ∃ T : Int, szV k0 x = T ∧ (4 ≤ T ∧ T ≤ 6) ∧ ((pick P Q x).length : Int) = T := fun x hx => by
    rcases hx with rfl | rfl
    · exact ⟨6, z0, by omega, by show (P.length : Int) = 6; omega⟩
    · exact ⟨4, z1, by omega, by show (Q.length : Int) = 4; omega⟩
  refine Safe.withLoop (loopAt Try.f4 0) [20, 21] 332 (fun g : Nat × Int => [(2, I g.2), (3, I a), (9, .ptr 20 0 0 0), (10, .sl 21 0 3 2 none), (11, I g.1)]) (fun g => [(20, .box (dbox 0 k0)), (21, .vec 38 3 2 (rowsOf [I d, I s, I n, I d2, I s2, I n2] 3))]) (fun g => g.1 ≤ 2 ∧ (g.1 = 2 → g.2 = n2) ∧ (g.1 ≠ 2 → g.2 = n)) (fun g => 2 - g.1) ?_ ?_
  · rintro ⟨i, x⟩ ⟨hi, hx, hx2⟩ ih
    dsimp only at hi hx hx2 ih ⊢
    obtain rfl | rfl | rfl : i = 0 ∨ i = 1 ∨ i = 2 := by omega
    · have e0 := hx2 (by omega)
      subst x
      by_cases hD : d = 0 ∨ d = 1
      · obtain ⟨T, zT, hT, hpk⟩ := hTT d hD
        by_cases f1 : s ≥ 0
        · by_cases f2 : n ≥ 1
          · by_cases f3 : s < T
            · by_cases f4 : n ≤ T - s
              · by_cases hk : bitsV .and .i64 a 7 < n
                · by_cases g1 : a ≥ 0
                  · by_cases g2 : a ≤ n
                    · by_cases g3 : n ≤ n - a
                      · skip
                        exact rg0_k0ok d s n a d2 s2 n2 P Q k0 gd hK hD T zT hT hpk f1 f2 f3 f4 hk g1 g2 g3 (ih (1, n) ⟨by omega, by simp, by simp⟩ (by omega))
                      · skip
                        exact rg0_k0w2 d s n a d2 s2 n2 P Q k0 gd hK hD T zT hT hpk f1 f2 f3 f4 hk g1 g2 g3 (ih (1, n) ⟨by omega, by simp, by simp⟩ (by omega))
                    · skip
                      exact rg0_k0w1 d s n a d2 s2 n2 P Q k0 gd hK hD T zT hT hpk f1 f2 f3 f4 hk g1 g2 (ih (1, n) ⟨by omega, by simp, by simp⟩ (by omega))
                  · skip
                    exact rg0_k0w0 d s n a d2 s2 n2 P Q k0 gd hK hD T zT hT hpk f1 f2 f3 f4 hk g1 (ih (1, n) ⟨by omega, by simp, by simp⟩ (by omega))
                · by_cases g1 : a ≥ 0
                  · by_cases g2 : a ≤ n
                    · by_cases g3 : n ≤ n - a
                      · skip
                        exact rg0_k1ok d s n a d2 s2 n2 P Q k0 gd hK hD T zT hT hpk f1 f2 f3 f4 hk g1 g2 g3 (ih (1, n) ⟨by omega, by simp, by simp⟩ (by omega))
                      · skip
                        exact rg0_k1w2 d s n a d2 s2 n2 P Q k0 gd hK hD T zT hT hpk f1 f2 f3 f4 hk g1 g2 g3 (ih (1, n) ⟨by omega, by simp, by simp⟩ (by omega))
                    · skip
                      exact rg0_k1w1 d s n a d2 s2 n2 P Q k0 gd hK hD T zT hT hpk f1 f2 f3 f4 hk g1 g2 (ih (1, n) ⟨by omega, by simp, by simp⟩ (by omega))
                  · skip
                    exact rg0_k1w0 d s n a d2 s2 n2 P Q k0 gd hK hD T zT hT hpk f1 f2 f3 f4 hk g1 (ih (1, n) ⟨by omega, by simp, by simp⟩ (by omega))
              · skip
                exact rg0_no3 d s n a d2 s2 n2 P Q k0 gd hK hD T zT hT hpk f1 f2 f3 f4 (ih (1, n) ⟨by omega, by simp, by simp⟩ (by omega))
            · skip
              exact rg0_no2 d s n a d2 s2 n2 P Q k0 gd hK hD T zT hT hpk f1 f2 f3 (ih (1, n) ⟨by omega, by simp, by simp⟩ (by omega))
          · skip
            exact rg0_no1 d s n a d2 s2 n2 P Q k0 gd hK hD T zT hT hpk f1 f2 (ih (1, n) ⟨by omega, by simp, by simp⟩ (by omega))
        · skip
          exact rg0_no0 d s n a d2 s2 n2 P Q k0 gd hK hD T zT hT hpk f1 (ih (1, n) ⟨by omega, by simp, by simp⟩ (by omega))
      · have zd := zz d (by omega) (by omega)
        by_cases p0 : d ≥ 0
        · exact rg0_x1 d s n a d2 s2 n2 P Q k0 gd zd p0 (by omega) (ih (1, n) ⟨by omega, by simp, by simp⟩ (by omega))
        · exact rg0_x0 d s n a d2 s2 n2 P Q k0 gd zd p0 (ih (1, n) ⟨by omega, by simp, by simp⟩ (by omega))
    · have e0 := hx2 (by omega)
      subst x
      have hD := gd2
      obtain ⟨T, zT, hT, hpk⟩ := hTT d2 hD
      by_cases f1 : s2 ≥ 0
      · by_cases f2 : n2 ≥ 1
        · by_cases f3 : s2 < T
          · by_cases f4 : n2 ≤ T - s2
            · by_cases hk : bitsV .and .i64 a 7 < n2
              · by_cases g1 : a ≥ 0
                · by_cases g2 : a ≤ n2
                  · by_cases g3 : n2 ≤ n2 - a
                    · skip
                      exact rg1_k0ok d s n a d2 s2 n2 P Q k0 gd hK hD T zT hT hpk f1 f2 f3 f4 hk g1 g2 g3 (ih (2, n2) ⟨by omega, by simp, by simp⟩ (by omega))
                    · skip
                      exact rg1_k0w2 d s n a d2 s2 n2 P Q k0 gd hK hD T zT hT hpk f1 f2 f3 f4 hk g1 g2 g3 (ih (2, n2) ⟨by omega, by simp, by simp⟩ (by omega))
                  · skip
                    exact rg1_k0w1 d s n a d2 s2 n2 P Q k0 gd hK hD T zT hT hpk f1 f2 f3 f4 hk g1 g2 (ih (2, n2) ⟨by omega, by simp, by simp⟩ (by omega))
                · skip
                  exact rg1_k0w0 d s n a d2 s2 n2 P Q k0 gd hK hD T zT hT hpk f1 f2 f3 f4 hk g1 (ih (2, n2) ⟨by omega, by simp, by simp⟩ (by omega))
              · by_cases g1 : a ≥ 0
                · by_cases g2 : a ≤ n2
                  · by_cases g3 : n2 ≤ n2 - a
                    · skip
                      exact rg1_k1ok d s n a d2 s2 n2 P Q k0 gd hK hD T zT hT hpk f1 f2 f3 f4 hk g1 g2 g3 (ih (2, n2) ⟨by omega, by simp, by simp⟩ (by omega))
                    · skip
                      exact rg1_k1w2 d s n a d2 s2 n2 P Q k0 gd hK hD T zT hT hpk f1 f2 f3 f4 hk g1 g2 g3 (ih (2, n2) ⟨by omega, by simp, by simp⟩ (by omega))
                  · skip
                    exact rg1_k1w1 d s n a d2 s2 n2 P Q k0 gd hK hD T zT hT hpk f1 f2 f3 f4 hk g1 g2 (ih (2, n2) ⟨by omega, by simp, by simp⟩ (by omega))
                · skip
                  exact rg1_k1w0 d s n a d2 s2 n2 P Q k0 gd hK hD T zT hT hpk f1 f2 f3 f4 hk g1 (ih (2, n2) ⟨by omega, by simp, by simp⟩ (by omega))
            · skip
              exact rg1_no3 d s n a d2 s2 n2 P Q k0 gd hK hD T zT hT hpk f1 f2 f3 f4 (ih (2, n2) ⟨by omega, by simp, by simp⟩ (by omega))
          · skip
            exact rg1_no2 d s n a d2 s2 n2 P Q k0 gd hK hD T zT hT hpk f1 f2 f3 (ih (2, n2) ⟨by omega, by simp, by simp⟩ (by omega))
        · skip
          exact rg1_no1 d s n a d2 s2 n2 P Q k0 gd hK hD T zT hT hpk f1 f2 (ih (2, n2) ⟨by omega, by simp, by simp⟩ (by omega))
      · skip
        exact rg1_no0 d s n a d2 s2 n2 P Q k0 gd hK hD T zT hT hpk f1 (ih (2, n2) ⟨by omega, by simp, by simp⟩ (by omega))
    · have e0 := hx rfl
      subst x
      by_cases ha : 0 ≤ a ∧ a < bitsV .and .i64 n2 7
      · exact rg2_in d s n a d2 s2 n2 P Q k0 gd hX ha
      · exact rg2_out d s n a d2 s2 n2 P Q k0 gd hX ha
  · intro H
    refine Safe.goto mixed 16 [⟨100, []⟩, ⟨200, [(0, .call [] (.sl ((250 : Nat)) ((0 : Nat)) ((1 : Nat)) ((6 : Nat)) (none)) [(250, some (.vec ((36 : Nat)) ((1 : Nat)) ((6 : Nat)) (fun q => renL [((10 : Nat), (250 : Nat))] (rowG encU P q))))]), (1, .call [] (.sl ((255 : Nat)) ((0 : Nat)) ((1 : Nat)) ((4 : Nat)) (none)) [(255, some (.vec ((36 : Nat)) ((1 : Nat)) ((4 : Nat)) (fun q => renL [((10 : Nat), (255 : Nat))] (rowG encU Q q))))]), (3, .call [202, 250, 255] (.ptr ((265 : Nat)) ((0 : Nat)) ((0 : Nat)) ((0 : Nat))) [(265, some (.box (dbox (0 : Nat) k0)))])]⟩, ⟨300, []⟩, ⟨400, []⟩, ⟨500, []⟩] [2, 3, 9, 10, 11] [265, 411] (todo' := loopAt Go.Proofs.Try.f4 0) (sl := slotsOf 332 [(2, I (n)), (3, I (a)), (9, .ptr ((265 : Nat)) ((0 : Nat)) ((0 : Nat)) ((0 : Nat))), (10, .sl ((411 : Nat)) ((0 : Nat)) ((3 : Nat)) ((2 : Nat)) (none)), (11, I ((0 : Int)))]) (hp := [(265, .box (dbox (0 : Nat) k0)), (411, .vec ((38 : Nat)) ((3 : Nat)) ((2 : Nat)) (rowsOf [AV.val (Value.int IntKind.i64 d), AV.val (Value.int IntKind.i64 s), AV.val (Value.int IntKind.i64 n), AV.val (Value.int IntKind.i64 (bitsV BinOp.and IntKind.i64 d (1 : Int))), AV.val (Value.int IntKind.i64 (bitsV BinOp.and IntKind.i64 s (7 : Int))), AV.val (Value.int IntKind.i64 (bitsV BinOp.and IntKind.i64 n (7 : Int)))] (3 : Nat)))]) (ob := [CallOK Try.prog (15 : Nat) ([] ++ [ofV (Value.int IntKind.i64 (6 : Int)), ofV (Value.int IntKind.u64 (1 : Int))] ++ []) [] (AV.sl (250 : Nat) (0 : Nat) (1 : Nat) (6 : Nat) none) [((250 : Nat), some (Ob.vec (36 : Nat) (1 : Nat) (6 : Nat) fun q => renL [((10 : Nat), (250 : Nat))] (rowG encU P q)))], CallOK Try.prog (15 : Nat) ([] ++ [ofV (Value.int IntKind.i64 (4 : Int)), ofV (Value.int IntKind.u64 (9 : Int))] ++ []) [] (AV.sl (255 : Nat) (0 : Nat) (1 : Nat) (4 : Nat) none) [((255 : Nat), some (Ob.vec (36 : Nat) (1 : Nat) (4 : Nat) fun q => renL [((10 : Nat), (255 : Nat))] (rowG encU Q q)))], CallOK Try.prog (14 : Nat) ([] ++ [AV.sl (202 : Nat) (0 : Nat) (1 : Nat) (2 : Nat) none] ++ []) [((202 : Nat), Ob.vec (29 : Nat) (1 : Nat) (2 : Nat) (rowsOf [AV.sl (250 : Nat) (0 : Nat) (1 : Nat) (6 : Nat) none, AV.sl (255 : Nat) (0 : Nat) (1 : Nat) (4 : Nat) none] (1 : Nat))), ((250 : Nat), Ob.vec (36 : Nat) (1 : Nat) (6 : Nat) fun q => renL [((10 : Nat), (250 : Nat))] (rowG encU P q)), ((255 : Nat), Ob.vec (36 : Nat) (1 : Nat) (4 : Nat) fun q => renL [((10 : Nat), (255 : Nat))] (rowG encU Q q))] (AV.ptr (265 : Nat) (0 : Nat) (0 : Nat) (0 : Nat)) [((265 : Nat), some (Ob.box (dbox (0 : Nat) k0)))], inK IntKind.i64 (bitsV BinOp.and IntKind.i64 d (1 : Int)), inK IntKind.i64 (bitsV BinOp.and IntKind.i64 s (7 : Int)), inK IntKind.i64 (bitsV BinOp.and IntKind.i64 n (7 : Int))]) rfl rfl (by kernel_rfl) ⟨(CallOK.ren w1 [(10, 250)] [10] rfl rfl rfl rfl trivial rfl ⟨rfl, fun _ => rfl, trivial⟩), (CallOK.ren w2 [(10, 255)] [10] rfl rfl rfl rfl trivial rfl ⟨rfl, fun _ => rfl, trivial⟩), (CallOK.simR (CallOK.ren (CallOK.own 29 1 rfl rfl rfl l) [(1, 202), (2, 250), (3, 255), (10, 265)] [1, 2, 3, 10] rfl rfl rfl rfl ⟨rfl, closed_rows rfl, rfl, fun _ => rfl, rfl, fun _ => rfl, trivial⟩ rfl ⟨rfl, closed_rows rfl, rfl, fun _ => rfl, rfl, fun _ => rfl, rfl, trivial, trivial⟩) (HpSim.cons rfl (OSim.rowsV rfl) (HpSim.cons rfl (OSim.refl _) (HpSim.cons rfl (OSim.refl _) HpSim.nil)))), (by simp only [inK]; omega), (by simp only [inK]; omega), (by simp only [inK]; omega), trivial⟩ rfl ⟨rfl, trivial, rfl, closed_rows rfl, trivial⟩ ?_
    refine Safe.ren [(265, 20), (411, 21)] rfl rfl rfl rfl ⟨rfl, trivial, rfl, closed_rows rfl, trivial⟩ ?_
    · rw [hd2, hs2, hn2] at H
      exact Safe.leH (H (0, n) ⟨by omega, by simp, by simp⟩) rfl (SlLe.refl _) ⟨ObLe.refl _, ⟨rfl, rfl, rfl, fun q hq => match q, hq with | 0, _ | 1, _ => rfl⟩, trivial⟩ rfl ⟨rfl, trivial, rfl, fun q => closed_rows rfl q, trivial⟩
theorem disk2_zz (X Y : List Int) (x : Int) (h0 : x ≠ 0) (h1 : x ≠ 1) : szV (disk2 X Y) x = 0 := by
  obtain ⟨a, b, hu⟩ := (disk2_gd X Y).u
  unfold szV
  rw [if_neg]
  simp [hd, hu]
  omega
def X6 : List Int := wordsL 1 6
def X4 : List Int := wordsL 9 4
theorem ranges_law (d s n a : Int) : CallOK Try.prog 4 [I d, I s, I n, I a] [] (B true) [] := by
  have w1 : CallOK Try.prog 15 [I 6, U 1] [] (.sl 10 0 1 6 none) [(10, some (.vec 36 1 6 (rowG encU X6)))] := words_any 6 1 (by omega)
  have w2 : CallOK Try.prog 15 [I 4, U 9] [] (.sl 10 0 1 4 none) [(10, some (.vec 36 1 4 (rowG encU X4)))] := words_any 4 9 (by omega)
  have l : CallOK Try.prog 14 [.sl 1 0 1 2 none] [(1, .ro 1 2 (rowsOf [.sl 2 0 1 6 none, .sl 3 0 1 4 none] 1)), (2, .vec 36 1 6 (rowG encU X6)), (3, .vec 36 1 4 (rowG encU X4))] (.ptr 10 0 0 0) [(10, some (.box (dbox 0 (disk2 X6 X4))))] := loaded2 X6 X4 ⟨by decide, by decide⟩ ⟨by decide, by decide⟩
  exact ranges_walk d s n a X6 X4 (disk2 X6 X4) rfl rfl (disk2_gd X6 X4) (disk2_sz X6 X4).1 (disk2_sz X6 X4).2 (disk2_zz X6 X4) w1 w2 l
end Go.Proofs.Ytcoilldcghamdaa
