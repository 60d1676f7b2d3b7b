/- Headers, checksums and seals of blocks: headers and the reference's. No conditions but those of each theorem. -/
import Derived.Test.YtonjaghkiaaipaaSyZ
import Derived.KernelRfl
import Derived.Test.YtonjaghkiaaipaaW2
namespace Go.Proofs.Ytonjaghkiaaipaa
open Go.RowKit
set_option linter.unusedVariables false
set_option linter.unnecessarySimpa false
set_option linter.unusedSimpArgs false
/-- a header without its checksum -/
def hdrF (k l c b : Int) : Int := k % 16 + 16 * (l % 16) + 256 * (c % 16) + 4096 * (b % 1048576) + 281474976710656 * 19796
def hdrL (k l c b : Int) : List Int := [k % 16, l % 16, c % 16, b % 1048576, 0, 19796]
theorem hdr_fits (k l c b : Int) : Fits (hdrL k l c b) := by
  refine ⟨rfl, ?_, ?_, ?_, ?_, ?_, ?_⟩
  · show 0 ≤ k % 16 ∧ k % 16 < 16; omega
  · show 0 ≤ l % 16 ∧ l % 16 < 16; omega
  · show 0 ≤ c % 16 ∧ c % 16 < 16; omega
  · show 0 ≤ b % 1048576 ∧ b % 1048576 < 1048576; omega
  · exact (by decide : (0 : Int) ≤ 0 ∧ (0 : Int) < 65536)
  · exact (by decide : (0 : Int) ≤ 19796 ∧ (19796 : Int) < 65536)
theorem hdr_pack (k l c b : Int) : packF (hdrL k l c b) = hdrF k l c b := by
  show k % 16 + 16 * (l % 16) + 256 * (c % 16) + 4096 * (b % 1048576) + 4294967296 * 0 + 281474976710656 * 19796 = _
  unfold hdrF; omega
/-- the fields, the first n of them cut to their widths -/
def cutK (R : List Int) (n : Nat) : List Int := (List.range 6).map fun j => if j < n then R.getD j default % ((2 ^ (wds.getD j default).toNat : Nat) : Int) else R.getD j default
theorem cutK_at (R : List Int) (n j : Nat) (hj : j < 6) : (cutK R n).getD j default = if j < n then R.getD j default % ((2 ^ (wds.getD j default).toNat : Nat) : Int) else R.getD j default := by
  simp [cutK, List.getD_eq_getElem?_getD, hj]
theorem wds_bd : ∀ j, j < 6 → 0 ≤ wds.getD j default ∧ wds.getD j default ≤ 20 ∧ (wds.getD j default).toNat ≤ 20 := by decide
set_option maxRecDepth 10000 in
set_option maxHeartbeats 4000000 in
theorem header_any (k l c b : Int) : CallOK Try.prog 29 [I k, I l, I c, I b] [] (U (hdrF k l c b)) [] := by
  refine CallOK.intro Try.call29 Try.func29 rfl rfl trivial ?_
  have q := fields_any _ (hdr_fits k l c b)
  rw [hdr_pack] at q
  have hR : ∀ j, 0 ≤ ([IntKind.u64.wrap k, IntKind.u64.wrap l, IntKind.u64.wrap c, IntKind.u64.wrap b, 0, 19796] : List Int).getD j default ∧ ([IntKind.u64.wrap k, IntKind.u64.wrap l, IntKind.u64.wrap c, IntKind.u64.wrap b, 0, 19796] : List Int).getD j default ≤ 18446744073709551615 := by
    intro j
    refine Wf.at (L := [IntKind.u64.wrap k, IntKind.u64.wrap l, IntKind.u64.wrap c, IntKind.u64.wrap b, 0, 19796]) (fun x hx => ?_) j
    simp only [List.mem_cons, List.not_mem_nil, or_false] at hx
    rcases hx with rfl | rfl | rfl | rfl | rfl | rfl
    · exact wrap_bd _
    · exact wrap_bd _
    · exact wrap_bd _
    · exact wrap_bd _
    · decide
    · decide
  have hend : cutK [IntKind.u64.wrap k, IntKind.u64.wrap l, IntKind.u64.wrap c, IntKind.u64.wrap b, 0, 19796] 6 = hdrL k l c b := by
    show [IntKind.u64.wrap k % 16, IntKind.u64.wrap l % 16, IntKind.u64.wrap c % 16, IntKind.u64.wrap b % 1048576, 0, 19796] = _
    simp only [wrap_mod]
    unfold hdrL
    rw [Int.emod_emod_of_dvd _ (by decide), Int.emod_emod_of_dvd _ (by decide), Int.emod_emod_of_dvd _ (by decide), Int.emod_emod_of_dvd _ (by decide)]
  have h0 : ∀ j, j < 6 → (cutK [IntKind.u64.wrap k, IntKind.u64.wrap l, IntKind.u64.wrap c, IntKind.u64.wrap b, 0, 19796] 0).getD j default = ([IntKind.u64.wrap k, IntKind.u64.wrap l, IntKind.u64.wrap c, IntKind.u64.wrap b, 0, 19796] : List Int).getD j default := fun j hj => by
    rw [cutK_at _ 0 j hj, if_neg (by omega)]
  refine Safe.withLoop (loopAt Try.f29 0) [20, 21] 47 (fun n : Nat => [(9, .sl 20 0 1 6 none), (23, .sl 21 0 1 6 none), (24, I 6), (25, I n)]) (fun n => [(20, .vec 38 1 6 (rowG encU (cutK [IntKind.u64.wrap k, IntKind.u64.wrap l, IntKind.u64.wrap c, IntKind.u64.wrap b, 0, 19796] n))), (21, .vec 3 1 6 (rowG encI wds))]) (fun n => n ≤ 6) (fun n => 6 - n) ?_ ?_
  · rintro n hn ih
    by_cases hlt0 : (n : Int) < 6
    · have hlt : n < 6 := by omega
      have hv := cutK_at [IntKind.u64.wrap k, IntKind.u64.wrap l, IntKind.u64.wrap c, IntKind.u64.wrap b, 0, 19796] n n hlt
      rw [if_neg (by omega)] at hv
      have hRn := hR n
      obtain ⟨w1, w2, w3⟩ := wds_bd n hlt
      have hp : (1 : Int) * 2 ^ (wds.getD n default).toNat = ((2 ^ (wds.getD n default).toNat : Nat) : Int) := by rw [Int.one_mul]; exact (Int.natCast_pow 2 _).symm
      have hp1 := Nat.two_pow_pos (wds.getD n default).toNat
      have hp2 : 2 ^ (wds.getD n default).toNat ≤ 2 ^ 20 := Nat.pow_le_pow_right (by omega) w3
      have hA : 0 ≤ (1 : Int) * 2 ^ (wds.getD n default).toNat ∧ (1 : Int) * 2 ^ (wds.getD n default).toNat ≤ 18446744073709551615 := by rw [hp]; omega
      have hB : 0 ≤ (1 : Int) * 2 ^ (wds.getD n default).toNat - 1 ∧ (1 : Int) * 2 ^ (wds.getD n default).toNat - 1 ≤ 18446744073709551615 := by rw [hp]; omega
      have hC : bitsV .and .u64 ((cutK [IntKind.u64.wrap k, IntKind.u64.wrap l, IntKind.u64.wrap c, IntKind.u64.wrap b, 0, 19796] n).getD n default) ((1 : Int) * 2 ^ (wds.getD n default).toNat - 1) = ([IntKind.u64.wrap k, IntKind.u64.wrap l, IntKind.u64.wrap c, IntKind.u64.wrap b, 0, 19796] : List Int).getD n default % ((2 ^ (wds.getD n default).toNat : Nat) : Int) := by
        rw [hv, hp, show ((2 ^ (wds.getD n default).toNat : Nat) : Int) - 1 = ((2 ^ (wds.getD n default).toNat - 1 : Nat) : Int) by omega]
        exact and_mod _ (by omega) _ hRn
      clear hp hp1 hp2
      refine Safe.goto mixed 13 [⟨1100, [(0, .tt true)]⟩, ⟨1200, []⟩, ⟨1300, []⟩, ⟨1400, []⟩] [9, 23, 24, 25] [20, 21] (todo' := loopAt Go.Proofs.Try.f29 0) (sl := slotsOf 47 [(9, .sl ((20 : Nat)) ((0 : Nat)) ((1 : Nat)) ((6 : Nat)) (none)), (23, .sl ((21 : Nat)) ((0 : Nat)) ((1 : Nat)) ((6 : Nat)) (none)), (24, I ((6 : Int))), (25, I ((↑n : Int) + (1 : Int)))]) (hp := [(20, .vec ((38 : Nat)) ((1 : Nat)) ((6 : Nat)) (setRow (rowG encU (cutK [IntKind.u64.wrap k, IntKind.u64.wrap l, IntKind.u64.wrap c, IntKind.u64.wrap b, (0 : Int), (19796 : Int)] n)) n [AV.val (Value.int IntKind.u64 (bitsV BinOp.and IntKind.u64 ((cutK [IntKind.u64.wrap k, IntKind.u64.wrap l, IntKind.u64.wrap c, IntKind.u64.wrap b, (0 : Int), (19796 : Int)] n).getD n default) ((1 : Int) * (2 : Int) ^ (wds.getD n default).toNat - (1 : Int))))])), (21, .vec ((3 : Nat)) ((1 : Nat)) ((6 : Nat)) (rowG encI wds))]) (ob := [decide ((↑n : Int) < (6 : Int)) = true, (0 : Int) ≤ (↑n : Int) ∧ (↑n : Int) < (↑(6 : Nat) : Int), n < (6 : Nat), (0 : Int) ≤ (↑n : Int) ∧ (↑n : Int) < (↑(6 : Nat) : Int), n < (6 : Nat), (0 : Int) ≤ wds.getD n default ∧ wds.getD n default ≤ (↑IntKind.u64.bits : Int), inK IntKind.u64 ((1 : Int) * (2 : Int) ^ (wds.getD n default).toNat), inK IntKind.u64 ((1 : Int) * (2 : Int) ^ (wds.getD n default).toNat - (1 : Int)), inK IntKind.u64 (bitsV BinOp.and IntKind.u64 ((cutK [IntKind.u64.wrap k, IntKind.u64.wrap l, IntKind.u64.wrap c, IntKind.u64.wrap b, (0 : Int), (19796 : Int)] n).getD n default) ((1 : Int) * (2 : Int) ^ (wds.getD n default).toNat - (1 : Int))), (0 : Int) ≤ (↑n : Int) ∧ (↑n : Int) < (↑(6 : Nat) : Int), n < (6 : Nat), inK IntKind.i64 ((↑n : Int) + (1 : Int))]) rfl rfl (by kernel_rfl) ⟨(decide_eq_true hlt0), (by first | omega | exact hA | exact hB | exact bits_bd _ _ _), (by first | omega | exact hA | exact hB | exact bits_bd _ _ _), (by first | omega | exact hA | exact hB | exact bits_bd _ _ _), (by first | omega | exact hA | exact hB | exact bits_bd _ _ _), (by first | decide | (simp only [Go.IntKind.bits]; first | omega | exact hA | exact hB | exact bits_bd _ _ _)), (by simp only [inK]; first | omega | exact hA | exact hB | exact bits_bd _ _ _), (by simp only [inK]; first | omega | exact hA | exact hB | exact bits_bd _ _ _), (by simp only [inK]; first | omega | exact hA | exact hB | exact bits_bd _ _ _), (by first | omega | exact hA | exact hB | exact bits_bd _ _ _), (by first | omega | exact hA | exact hB | exact bits_bd _ _ _), (by simp only [inK]; first | omega | exact hA | exact hB | exact bits_bd _ _ _), trivial⟩ rfl ⟨rfl, closed_set (fun _ => rfl) rfl, rfl, fun _ => rfl, trivial⟩ ?_
      refine Safe.leH (ih (n + 1) (by omega) (by omega)) rfl (SlLe.refl _) ⟨⟨rfl, rfl, rfl, fun q hq => ?_⟩, ObLe.refl _, trivial⟩ rfl ⟨rfl, fun _ => rfl, rfl, fun _ => rfl, trivial⟩
      have hq : q < 6 := hq
      show setRow (rowG encU _) n [U _] q = encU _
      rw [hC, cutK_at _ (n + 1) q hq]
      unfold setRow rowG
      rw [cutK_at _ n q hq]
      by_cases e : q = n
      · rw [if_pos e, if_pos (by omega), e]; rfl
      · rw [if_neg e]
        by_cases e2 : q < n
        · rw [if_pos e2, if_pos (by omega)]
        · rw [if_neg e2, if_neg (by omega)]
    · obtain rfl : n = 6 := by omega
      rw [hend]
      refine Safe.ends mixed Go.Proofs.Try.func29 9 [⟨1100, []⟩, ⟨1200, [(0, .call [] (.sl ((1250 : Nat)) ((0 : Nat)) ((1 : Nat)) ((6 : Nat)) (none)) [(1250, some (.vec ((3 : Nat)) ((1 : Nat)) ((6 : Nat)) (fun q => renL [((10 : Nat), (1250 : Nat))] (rowG encI wds q))))]), (2, .call [1250, 20] (.tup [.val (Value.int IntKind.u64 (hdrF k l c b)), I ((0 : Int))]) [])]⟩, ⟨1300, []⟩] (r := .val (Value.int IntKind.u64 (hdrF k l c b))) (hp := []) (ob := [CallOK Try.prog (44 : Nat) ([] ++ [] ++ []) [] (AV.sl (1250 : Nat) (0 : Nat) (1 : Nat) (6 : Nat) none) [((1250 : Nat), some (Ob.vec (3 : Nat) (1 : Nat) (6 : Nat) fun q => renL [((10 : Nat), (1250 : Nat))] (rowG encI wds q)))], CallOK Try.prog (45 : Nat) ([] ++ [AV.sl (1250 : Nat) (0 : Nat) (1 : Nat) (6 : Nat) none, AV.sl (20 : Nat) (0 : Nat) (1 : Nat) (6 : Nat) none] ++ []) [((1250 : Nat), Ob.vec (3 : Nat) (1 : Nat) (6 : Nat) fun q => renL [((10 : Nat), (1250 : Nat))] (rowG encI wds q)), ((20 : Nat), Ob.vec (38 : Nat) (1 : Nat) (6 : Nat) (rowG encU (hdrL k l c b)))] (AV.tup [AV.val (Value.int IntKind.u64 (hdrF k l c b)), AV.val (Value.int IntKind.i64 (0 : Int))]) []]) rfl (by kernel_rfl) ⟨(CallOK.ren widths_any [(10, 1250)] [10] rfl rfl rfl rfl trivial rfl ⟨rfl, fun _ => rfl, trivial⟩), (CallOK.ren (CallOK.own 38 1 rfl rfl rfl (CallOK.own 3 0 rfl rfl rfl q)) [(0, 1250), (1, 20)] [0, 1] rfl rfl rfl rfl ⟨rfl, fun _ => rfl, rfl, fun _ => rfl, trivial⟩ rfl ⟨rfl, fun _ => rfl, rfl, fun _ => rfl, trivial⟩), trivial⟩ rfl trivial trivial rfl
  · intro H
    refine Safe.goto mixed 9 [⟨100, []⟩, ⟨200, [(1, .wrap), (3, .wrap), (5, .wrap), (7, .wrap)]⟩, ⟨300, [(0, .call [] (.sl ((350 : Nat)) ((0 : Nat)) ((1 : Nat)) ((6 : Nat)) (none)) [(350, some (.vec ((3 : Nat)) ((1 : Nat)) ((6 : Nat)) (fun q => renL [((10 : Nat), (350 : Nat))] (rowG encI wds q))))])]⟩] [9, 23, 24, 25] [208, 350] (todo' := loopAt Go.Proofs.Try.f29 0) (sl := slotsOf 47 [(9, .sl ((208 : Nat)) ((0 : Nat)) ((1 : Nat)) ((6 : Nat)) (none)), (23, .sl ((350 : Nat)) ((0 : Nat)) ((1 : Nat)) ((6 : Nat)) (none)), (24, I ((↑(6 : Nat) : Int))), (25, I ((0 : Int)))]) (hp := [(208, .vec ((38 : Nat)) ((1 : Nat)) ((6 : Nat)) (rowsOf [AV.val (Value.int IntKind.u64 (IntKind.u64.wrap k)), AV.val (Value.int IntKind.u64 (IntKind.u64.wrap l)), AV.val (Value.int IntKind.u64 (IntKind.u64.wrap c)), AV.val (Value.int IntKind.u64 (IntKind.u64.wrap b)), AV.val (Value.int IntKind.u64 (0 : Int)), AV.val (Value.int IntKind.u64 (19796 : Int))] (1 : Nat))), (350, .vec ((3 : Nat)) ((1 : Nat)) ((6 : Nat)) (fun q => renL [((10 : Nat), (350 : Nat))] (rowG encI wds q)))]) (ob := [CallOK Try.prog (44 : Nat) ([] ++ [] ++ []) [] (AV.sl (350 : Nat) (0 : Nat) (1 : Nat) (6 : Nat) none) [((350 : Nat), some (Ob.vec (3 : Nat) (1 : Nat) (6 : Nat) fun q => renL [((10 : Nat), (350 : Nat))] (rowG encI wds q)))]]) rfl rfl (by kernel_rfl) ⟨(CallOK.ren widths_any [(10, 350)] [10] rfl rfl rfl rfl trivial rfl ⟨rfl, fun _ => rfl, trivial⟩), trivial⟩ rfl ⟨rfl, closed_rows rfl, rfl, closed_renN (fun _ => rfl), trivial⟩ ?_
    refine Safe.ren [(208, 20), (350, 21)] rfl rfl rfl rfl ⟨rfl, closed_rows rfl, rfl, closed_renN (fun _ => rfl), trivial⟩ ?_
    refine Safe.leH (H 0 (Nat.zero_le _)) rfl (SlLe.refl _) ⟨⟨rfl, rfl, rfl, fun q hq => ?_⟩, ObLe.refl _, trivial⟩ rfl ⟨rfl, fun _ => rfl, rfl, fun _ => rfl, trivial⟩
    exact match q, hq with | 0, _ | 1, _ | 2, _ | 3, _ | 4, _ | 5, _ => rfl
set_option maxRecDepth 10000 in
set_option maxHeartbeats 4000000 in
theorem rheader_any (k l c b : Int) : CallOK Try.prog 30 [I k, I l, I c, I b] [] (U (hdrF k l c b)) [] := by
  refine CallOK.intro Try.call30 Try.func30 rfl rfl trivial ?_
  have m16 : ∀ z : Int, bitsV .and .u64 (IntKind.u64.wrap z) 15 = z % 16 := fun z => by
    have := and_mod 4 (by omega) _ (wrap_bd z)
    rw [wrap_mod, Int.emod_emod_of_dvd _ (by decide)] at this
    rw [wrap_mod]; exact this
  have m20 : ∀ z : Int, bitsV .and .u64 (IntKind.u64.wrap z) 1048575 = z % 1048576 := fun z => by
    have := and_mod 20 (by omega) _ (wrap_bd z)
    rw [wrap_mod, Int.emod_emod_of_dvd _ (by decide)] at this
    rw [wrap_mod]; exact this
  have hk := m16 k
  have hl := m16 l
  have hc := m16 c
  have hb := m20 b
  refine Safe.ends mixed Go.Proofs.Try.func30 4 [⟨100, []⟩, ⟨200, [(1, .wrap), (4, .wrap), (9, .wrap), (14, .wrap)]⟩] (r := .val (Value.int IntKind.u64 (bitsV BinOp.or IntKind.u64 (bitsV BinOp.or IntKind.u64 (bitsV BinOp.or IntKind.u64 (bitsV BinOp.or IntKind.u64 (bitsV BinOp.and IntKind.u64 (IntKind.u64.wrap k) (15 : Int)) (bitsV BinOp.and IntKind.u64 (IntKind.u64.wrap l) (15 : Int) * (16 : Int))) (bitsV BinOp.and IntKind.u64 (IntKind.u64.wrap c) (15 : Int) * (256 : Int))) (bitsV BinOp.and IntKind.u64 (IntKind.u64.wrap b) (1048575 : Int) * (4096 : Int))) (5572078638964146176 : Int)))) (hp := []) (ob := [inK IntKind.u64 (bitsV BinOp.and IntKind.u64 (IntKind.u64.wrap k) (15 : Int)), inK IntKind.u64 (bitsV BinOp.and IntKind.u64 (IntKind.u64.wrap l) (15 : Int)), (0 : Int) ≤ (4 : Int) ∧ (4 : Int) ≤ (↑IntKind.u64.bits : Int), inK IntKind.u64 (bitsV BinOp.and IntKind.u64 (IntKind.u64.wrap l) (15 : Int) * (16 : Int)), inK IntKind.u64 (bitsV BinOp.or IntKind.u64 (bitsV BinOp.and IntKind.u64 (IntKind.u64.wrap k) (15 : Int)) (bitsV BinOp.and IntKind.u64 (IntKind.u64.wrap l) (15 : Int) * (16 : Int))), inK IntKind.u64 (bitsV BinOp.and IntKind.u64 (IntKind.u64.wrap c) (15 : Int)), (0 : Int) ≤ (8 : Int) ∧ (8 : Int) ≤ (↑IntKind.u64.bits : Int), inK IntKind.u64 (bitsV BinOp.and IntKind.u64 (IntKind.u64.wrap c) (15 : Int) * (256 : Int)), inK IntKind.u64 (bitsV BinOp.or IntKind.u64 (bitsV BinOp.or IntKind.u64 (bitsV BinOp.and IntKind.u64 (IntKind.u64.wrap k) (15 : Int)) (bitsV BinOp.and IntKind.u64 (IntKind.u64.wrap l) (15 : Int) * (16 : Int))) (bitsV BinOp.and IntKind.u64 (IntKind.u64.wrap c) (15 : Int) * (256 : Int))), inK IntKind.u64 (bitsV BinOp.and IntKind.u64 (IntKind.u64.wrap b) (1048575 : Int)), (0 : Int) ≤ (12 : Int) ∧ (12 : Int) ≤ (↑IntKind.u64.bits : Int), inK IntKind.u64 (bitsV BinOp.and IntKind.u64 (IntKind.u64.wrap b) (1048575 : Int) * (4096 : Int)), inK IntKind.u64 (bitsV BinOp.or IntKind.u64 (bitsV BinOp.or IntKind.u64 (bitsV BinOp.or IntKind.u64 (bitsV BinOp.and IntKind.u64 (IntKind.u64.wrap k) (15 : Int)) (bitsV BinOp.and IntKind.u64 (IntKind.u64.wrap l) (15 : Int) * (16 : Int))) (bitsV BinOp.and IntKind.u64 (IntKind.u64.wrap c) (15 : Int) * (256 : Int))) (bitsV BinOp.and IntKind.u64 (IntKind.u64.wrap b) (1048575 : Int) * (4096 : Int))), inK IntKind.u64 (bitsV BinOp.or IntKind.u64 (bitsV BinOp.or IntKind.u64 (bitsV BinOp.or IntKind.u64 (bitsV BinOp.or IntKind.u64 (bitsV BinOp.and IntKind.u64 (IntKind.u64.wrap k) (15 : Int)) (bitsV BinOp.and IntKind.u64 (IntKind.u64.wrap l) (15 : Int) * (16 : Int))) (bitsV BinOp.and IntKind.u64 (IntKind.u64.wrap c) (15 : Int) * (256 : Int))) (bitsV BinOp.and IntKind.u64 (IntKind.u64.wrap b) (1048575 : Int) * (4096 : Int))) (5572078638964146176 : Int))]) rfl (by kernel_rfl) ⟨(by simp only [inK]; first | omega | exact bits_bd _ _ _ | (simp only [Int.reduceToNat, Int.reducePow]; omega)), (by simp only [inK]; first | omega | exact bits_bd _ _ _ | (simp only [Int.reduceToNat, Int.reducePow]; omega)), (by first | decide | (simp only [Go.IntKind.bits]; first | omega | exact bits_bd _ _ _ | (simp only [Int.reduceToNat, Int.reducePow]; omega))), (by simp only [inK]; first | omega | exact bits_bd _ _ _ | (simp only [Int.reduceToNat, Int.reducePow]; omega)), (by simp only [inK]; first | omega | exact bits_bd _ _ _ | (simp only [Int.reduceToNat, Int.reducePow]; omega)), (by simp only [inK]; first | omega | exact bits_bd _ _ _ | (simp only [Int.reduceToNat, Int.reducePow]; omega)), (by first | decide | (simp only [Go.IntKind.bits]; first | omega | exact bits_bd _ _ _ | (simp only [Int.reduceToNat, Int.reducePow]; omega))), (by simp only [inK]; first | omega | exact bits_bd _ _ _ | (simp only [Int.reduceToNat, Int.reducePow]; omega)), (by simp only [inK]; first | omega | exact bits_bd _ _ _ | (simp only [Int.reduceToNat, Int.reducePow]; omega)), (by simp only [inK]; first | omega | exact bits_bd _ _ _ | (simp only [Int.reduceToNat, Int.reducePow]; omega)), (by first | decide | (simp only [Go.IntKind.bits]; first | omega | exact bits_bd _ _ _ | (simp only [Int.reduceToNat, Int.reducePow]; omega))), (by simp only [inK]; first | omega | exact bits_bd _ _ _ | (simp only [Int.reduceToNat, Int.reducePow]; omega)), (by simp only [inK]; first | omega | exact bits_bd _ _ _ | (simp only [Int.reduceToNat, Int.reducePow]; omega)), (by simp only [inK]; first | omega | exact bits_bd _ _ _ | (simp only [Int.reduceToNat, Int.reducePow]; omega)), trivial⟩ ?_ trivial trivial rfl
  show U _ = U _
  simp only [hk, hl, hc, hb]
  have o1 : bitsV .or .u64 (k % 16) (l % 16 * 16) = _ := Eq.trans (congrArg _ (Int.mul_comm _ _)) (or_add 4 (k % 16) (l % 16) (by omega) (by omega) (by omega) (by omega) (by omega))
  have o2 : bitsV .or .u64 (k % 16 + ((2 ^ 4 : Nat) : Int) * (l % 16)) (c % 16 * 256) = _ := Eq.trans (congrArg _ (Int.mul_comm _ _)) (or_add 8 (k % 16 + ((2 ^ 4 : Nat) : Int) * (l % 16)) (c % 16) (by omega) (by omega) (by omega) (by omega) (by omega))
  have o3 : bitsV .or .u64 (k % 16 + ((2 ^ 4 : Nat) : Int) * (l % 16) + ((2 ^ 8 : Nat) : Int) * (c % 16)) (b % 1048576 * 4096) = _ := Eq.trans (congrArg _ (Int.mul_comm _ _)) (or_add 12 (k % 16 + ((2 ^ 4 : Nat) : Int) * (l % 16) + ((2 ^ 8 : Nat) : Int) * (c % 16)) (b % 1048576) (by omega) (by omega) (by omega) (by omega) (by omega))
  have o4 : bitsV .or .u64 (k % 16 + ((2 ^ 4 : Nat) : Int) * (l % 16) + ((2 ^ 8 : Nat) : Int) * (c % 16) + ((2 ^ 12 : Nat) : Int) * (b % 1048576)) 5572078638964146176 = _ := or_add 48 (k % 16 + ((2 ^ 4 : Nat) : Int) * (l % 16) + ((2 ^ 8 : Nat) : Int) * (c % 16) + ((2 ^ 12 : Nat) : Int) * (b % 1048576)) 19796 (by omega) (by omega) (by omega) (by omega) (by omega)
  rw [o1, o2, o3, o4]
  exact congrArg U (by unfold hdrF; omega)
/-- the low and the high bits about a checksum's field -/
theorem hole (x : Int) (h : 0 ≤ x ∧ x ≤ 18446744073709551615) : bitsV .andNot .u64 x 281470681743360 = wsum x 0 := by
  rw [wsum_eq x 0 h]
  obtain ⟨n, rfl⟩ : ∃ n : Nat, x = n := ⟨x.toNat, by omega⟩
  have e : (n : Int) % 4294967296 + 4294967296 * 0 + 281474976710656 * ((n : Int) / 281474976710656) = ((n % 2 ^ 32 + 2 ^ 48 * (n / 2 ^ 48) : Nat) : Int) := by omega
  rw [e]
  show (((BitVec.ofInt 64 (n : Int) &&& ~~~(BitVec.ofInt 64 281470681743360)).toNat : Nat) : Int) = _
  congr 1
  rw [BitVec.toNat_and, nat_mask _ h, Int.toNat_natCast, ← or_shift (n % 2 ^ 32) (n / 2 ^ 48) 48 (by omega)]
  rw [show (~~~(BitVec.ofInt 64 281470681743360)).toNat = (2 ^ 32 - 1) ||| ((2 ^ 16 - 1) <<< 48) from by decide]
  refine Nat.eq_of_testBit_eq fun i => ?_
  simp only [Nat.testBit_and, Nat.testBit_or, Nat.testBit_two_pow_sub_one, Nat.testBit_shiftLeft, Nat.testBit_mod_two_pow, Nat.testBit_div_two_pow]
  have hn : 64 ≤ i → n.testBit i = false := fun hi => Nat.testBit_lt_two_pow (Nat.lt_of_lt_of_le (by omega : n < 2 ^ 64) (Nat.pow_le_pow_right (by omega) hi))
  by_cases h1 : i < 32
  · simp [h1, show ¬ 48 ≤ i by omega]
  · by_cases h2 : 48 ≤ i
    · rw [show i - 48 + 48 = i by omega]
      by_cases h3 : i < 64
      · simp [h1, h2, show i - 48 < 16 by omega]
      · simp [hn (by omega)]
    · simp [h1, h2]
set_option maxRecDepth 10000 in
set_option maxHeartbeats 4000000 in
theorem rsum_any (L : List Int) (hw : Wf L) (hl : L.length = 16) : CallOK Try.prog 39 [.sl 0 0 1 L.length none] [(0, .ro 1 L.length (rowG encU L))] (U (sumF L)) [] := by
  refine CallOK.intro Try.call39 Try.func39 rfl rfl ⟨rfl, fun _ => rfl, trivial⟩ ?_
  have h0 := hw.at 0
  have hb := wsum_bd _ 0 h0 (by omega)
  have hh := hole _ h0
  have q3 := rwords_any (L.set 0 (wsum (L.getD 0 default) 0)) (hw.set 0 hb) (by rw [List.length_set]; omega)
  have q4 := rshort_any _ (sumW_bd (L.set 0 (wsum (L.getD 0 default) 0)))
  have e16 : (L.set 0 (wsum (L.getD 0 default) 0)).length = L.length := List.length_set
  rw [e16] at q3
  refine Safe.gotoS mixed 7 [⟨1100, []⟩, ⟨1200, []⟩, ⟨1300, []⟩] [0, 2, 3, 4, 5, 6, 7, 8, 9, 10] [0, 1201] (sl := slotsOf 15 [(0, .sl ((0 : Nat)) ((0 : Nat)) ((1 : Nat)) (L.length) (none)), (2, .val (Value.int IntKind.u64 (0 : Int))), (3, .sl ((1201 : Nat)) ((0 : Nat)) ((1 : Nat)) (L.length) (none)), (4, .sl ((0 : Nat)) ((0 : Nat)) ((1 : Nat)) (L.length) (none)), (5, .sl ((1201 : Nat)) ((0 : Nat)) ((1 : Nat)) (L.length) (none)), (6, .sl ((1201 : Nat)) ((0 : Nat)) ((1 : Nat)) (L.length) (none)), (7, .ptr ((1201 : Nat)) ((0 : Nat)) ((1 : Nat)) ((0 : Nat))), (8, .val (Value.int IntKind.u64 (L.getD (0 : Nat) default))), (9, .val (Value.int IntKind.u64 (bitsV BinOp.andNot IntKind.u64 (L.getD (0 : Nat) default) (281470681743360 : Int)))), (10, .ptr ((1201 : Nat)) ((0 : Nat)) ((1 : Nat)) ((0 : Nat)))]) (hp := [(0, .ro ((1 : Nat)) (L.length) (rowG encU L)), (1201, .vec ((38 : Nat)) ((1 : Nat)) (L.length) (setRow (rowG encU L) (0 : Nat) [AV.val (Value.int IntKind.u64 (bitsV BinOp.andNot IntKind.u64 (L.getD (0 : Nat) default) (281470681743360 : Int)))]))]) (ob := [(0 : Nat) + L.length ≤ L.length, L.length ≤ (1099511627776 : Nat), (0 : Int) ≤ (0 : Int) ∧ (0 : Int) < (↑L.length : Int), (0 : Nat) < L.length, inK IntKind.u64 (bitsV BinOp.andNot IntKind.u64 (L.getD (0 : Nat) default) (281470681743360 : Int)), (0 : Int) ≤ (0 : Int) ∧ (0 : Int) < (↑L.length : Int), (0 : Nat) < L.length]) rfl rfl (by kernel_rfl) ⟨(by first | omega | exact bits_bd _ _ _), (by first | omega | exact bits_bd _ _ _), (by first | omega | exact bits_bd _ _ _), (by first | omega | exact bits_bd _ _ _), (by simp only [inK]; first | omega | exact bits_bd _ _ _), (by first | omega | exact bits_bd _ _ _), (by first | omega | exact bits_bd _ _ _), trivial⟩ rfl ⟨rfl, fun _ => rfl, rfl, closed_set (fun _ => rfl) rfl, trivial⟩ ?_
  refine Safe.leH (?_ : Safe _ _ _ _ _ _ ⟨slotsOf 15 [(3, .sl 1201 0 1 L.length none)], [(0, .ro 1 L.length (rowG encU L)), (1201, .vec 38 1 L.length (rowG encU (L.set 0 (wsum (L.getD 0 default) 0))))]⟩ [0, 1201]) rfl ?_ ⟨ObLe.refl _, ⟨rfl, rfl, rfl, fun q hq => ?_⟩, trivial⟩ rfl ⟨rfl, fun _ => rfl, rfl, fun _ => rfl, trivial⟩
  · skip
    refine Safe.ends mixed Go.Proofs.Try.func39 1 [⟨2100, [(1, .call [1201] (.val (Value.int IntKind.u32 (sumW (L.set (0 : Nat) (wsum (L.getD (0 : Nat) default) (0 : Int)))))) []), (2, .call [] (.val (Value.int IntKind.u16 (shortF (sumW (L.set (0 : Nat) (wsum (L.getD (0 : Nat) default) (0 : Int))))))) [])]⟩] (r := .val (Value.int IntKind.u64 (shortF (sumW (L.set (0 : Nat) (wsum (L.getD (0 : Nat) default) (0 : Int))))))) (hp := [(0, .ro ((1 : Nat)) (L.length) (rowG encU L))]) (ob := [CallOK Try.prog (52 : Nat) ([] ++ [AV.sl (1201 : Nat) (0 : Nat) (1 : Nat) L.length none] ++ []) [((1201 : Nat), Ob.vec (38 : Nat) (1 : Nat) L.length (rowG encU (L.set (0 : Nat) (wsum (L.getD (0 : Nat) default) (0 : Int)))))] (AV.val (Value.int IntKind.u32 (sumW (L.set (0 : Nat) (wsum (L.getD (0 : Nat) default) (0 : Int)))))) [], CallOK Try.prog (51 : Nat) ([] ++ [AV.val (Value.int IntKind.u32 (sumW (L.set (0 : Nat) (wsum (L.getD (0 : Nat) default) (0 : Int)))))] ++ []) [] (AV.val (Value.int IntKind.u16 (shortF (sumW (L.set (0 : Nat) (wsum (L.getD (0 : Nat) default) (0 : Int))))))) [], inK IntKind.u64 (shortF (sumW (L.set (0 : Nat) (wsum (L.getD (0 : Nat) default) (0 : Int)))))]) rfl (by kernel_rfl) ⟨(CallOK.ren (CallOK.own 38 0 rfl rfl rfl q3) [(0, 1201)] [0] rfl rfl rfl rfl ⟨rfl, fun _ => rfl, trivial⟩ rfl ⟨rfl, fun _ => rfl, trivial⟩), q4, (by simp only [inK]; first | omega | (have := shortF_bd _ (sumW_bd (L.set 0 (wsum (L.getD 0 default) 0))); omega)), trivial⟩ ?_ ⟨ObLe.refl _, trivial⟩ ⟨rfl, fun _ => rfl, trivial⟩ rfl
    · exact rfl
  · repeat (first | exact ⟨rfl, trivial⟩ | refine ⟨rfl, ?_⟩ | refine ⟨trivial, ?_⟩ | exact trivial)
  · have hq : q < L.length := hq
    show setRow _ 0 _ q = encU ((L.set 0 _).getD q default)
    rw [getD_set L 0 _ q hq, hh]
    unfold setRow
    split <;> rfl
/-- the error of the words of a block -/
def sealedF (L : List Int) (kind block : Int) : Int := if L.length ≠ 16 then 3 else if ¬ (L.getD 0 default / 281474976710656 = 19796 ∧ L.getD 0 default % 16 = kind) then 2 else if L.getD 0 default / 4294967296 % 65536 ≠ sumF L then 11 else if L.getD 0 default / 4096 % 1048576 ≠ block then 24 else 0
set_option maxRecDepth 10000 in
set_option maxHeartbeats 4000000 in
theorem rsealed_any (L : List Int) (kind block : Int) (hw : Wf L) (hl : L.length ≤ 1000000) : CallOK Try.prog 27 [.sl 0 0 1 L.length none, I kind, I block] [(0, .ro 1 L.length (rowG encU L))] (I (sealedF L kind block)) [] := by
  refine CallOK.intro Try.call27 Try.func27 rfl rfl ⟨rfl, fun _ => rfl, trivial⟩ ?_
  have h0 := hw.at 0
  unfold sealedF
  by_cases h16 : (L.length : Int) = 16
  · have q1 := rsum_any L hw (by omega)
    rw [if_neg (by omega)]
    generalize hx : L.getD 0 default = x at h0
    have a15 : bitsV .and .u64 x 15 = x % 16 := and_mod 4 (by omega) _ h0
    have a32 : bitsV .and .u64 (x / 4294967296) 65535 = x / 4294967296 % 65536 := and_mod 16 (by omega) _ (by omega)
    have a12 : bitsV .and .u64 (x / 4096) 1048575 = x / 4096 % 1048576 := and_mod 20 (by omega) _ (by omega)
    subst hx
    refine (Classical.em (¬L.getD (0 : Nat) default / (281474976710656 : Int) = (19796 : Int))).elim (fun hc1 => ?ga0) (fun hc1 => ?gb0)
    case' gb0 =>
      refine (Classical.em (¬bitsV BinOp.and IntKind.u64 (L.getD (0 : Nat) default) (15 : Int) = kind)).elim (fun hc2 => ?ga1) (fun hc2 => ?gb1)
      case' gb1 =>
        refine (Classical.em (¬bitsV BinOp.and IntKind.u64 (L.getD (0 : Nat) default / (4294967296 : Int)) (65535 : Int) = sumF L)).elim (fun hc3 => ?ga2) (fun hc3 => ?gb2)
        case' gb2 =>
          refine (Classical.em (¬bitsV BinOp.and IntKind.u64 (L.getD (0 : Nat) default / (4096 : Int)) (1048575 : Int) = block)).elim (fun hc4 => ?ga3) (fun hc4 => ?gb3)
          case' gb3 =>
            refine Safe.ends mixed Go.Proofs.Try.func27 20 [⟨1100, []⟩, ⟨1200, [(2, .tt false)]⟩, ⟨1300, [(4, .tt false), (12, .tt false)]⟩, ⟨1400, [(6, .call [0] (.val (Value.int IntKind.u64 (sumF L))) []), (7, .tt false)]⟩, ⟨1500, [(7, .tt false)]⟩, ⟨1600, []⟩] (r := I ((0 : Int))) (hp := [(0, .ro ((1 : Nat)) (L.length) (rowG encU L))]) (ob := [(decide ¬(↑L.length : Int) = (16 : Int)) = false, (0 : Int) ≤ (0 : Int) ∧ (0 : Int) < (↑L.length : Int), (0 : Nat) < L.length, (0 : Int) ≤ (48 : Int) ∧ (48 : Int) ≤ (↑IntKind.u64.bits : Int), (decide ¬L.getD (0 : Nat) default / (281474976710656 : Int) = (19796 : Int)) = false, (0 : Int) ≤ (0 : Int) ∧ (0 : Int) < (↑L.length : Int), (0 : Nat) < L.length, inK IntKind.u64 (bitsV BinOp.and IntKind.u64 (L.getD (0 : Nat) default) (15 : Int)), inK IntKind.i64 (bitsV BinOp.and IntKind.u64 (L.getD (0 : Nat) default) (15 : Int)), (decide ¬bitsV BinOp.and IntKind.u64 (L.getD (0 : Nat) default) (15 : Int) = kind) = false, (0 : Int) ≤ (0 : Int) ∧ (0 : Int) < (↑L.length : Int), (0 : Nat) < L.length, (0 : Int) ≤ (32 : Int) ∧ (32 : Int) ≤ (↑IntKind.u64.bits : Int), inK IntKind.u64 (bitsV BinOp.and IntKind.u64 (L.getD (0 : Nat) default / (4294967296 : Int)) (65535 : Int)), CallOK Try.prog (39 : Nat) ([] ++ [AV.sl (0 : Nat) (0 : Nat) (1 : Nat) L.length none] ++ []) [((0 : Nat), Ob.ro (1 : Nat) L.length (rowG encU L))] (AV.val (Value.int IntKind.u64 (sumF L))) [], (decide ¬bitsV BinOp.and IntKind.u64 (L.getD (0 : Nat) default / (4294967296 : Int)) (65535 : Int) = sumF L) = false, (0 : Int) ≤ (0 : Int) ∧ (0 : Int) < (↑L.length : Int), (0 : Nat) < L.length, (0 : Int) ≤ (12 : Int) ∧ (12 : Int) ≤ (↑IntKind.u64.bits : Int), inK IntKind.u64 (bitsV BinOp.and IntKind.u64 (L.getD (0 : Nat) default / (4096 : Int)) (1048575 : Int)), inK IntKind.i64 (bitsV BinOp.and IntKind.u64 (L.getD (0 : Nat) default / (4096 : Int)) (1048575 : Int)), (decide ¬bitsV BinOp.and IntKind.u64 (L.getD (0 : Nat) default / (4096 : Int)) (1048575 : Int) = block) = false]) rfl (by kernel_rfl) ⟨(decide_eq_false (fun hn => hn h16)), (by first | omega | exact bits_bd _ _ _), (by first | omega | exact bits_bd _ _ _), (by first | decide | (simp only [Go.IntKind.bits]; first | omega | exact bits_bd _ _ _)), (decide_eq_false hc1), (by first | omega | exact bits_bd _ _ _), (by first | omega | exact bits_bd _ _ _), (by simp only [inK]; first | omega | exact bits_bd _ _ _), (by simp only [inK]; first | omega | exact bits_bd _ _ _), (decide_eq_false hc2), (by first | omega | exact bits_bd _ _ _), (by first | omega | exact bits_bd _ _ _), (by first | decide | (simp only [Go.IntKind.bits]; first | omega | exact bits_bd _ _ _)), (by simp only [inK]; first | omega | exact bits_bd _ _ _), q1, (decide_eq_false hc3), (by first | omega | exact bits_bd _ _ _), (by first | omega | exact bits_bd _ _ _), (by first | decide | (simp only [Go.IntKind.bits]; first | omega | exact bits_bd _ _ _)), (by simp only [inK]; first | omega | exact bits_bd _ _ _), (by simp only [inK]; first | omega | exact bits_bd _ _ _), (decide_eq_false hc4), trivial⟩ ?_ ⟨ObLe.refl _, trivial⟩ ⟨rfl, fun _ => rfl, trivial⟩ rfl
          case' ga3 =>
            refine Safe.ends mixed Go.Proofs.Try.func27 18 [⟨1100, []⟩, ⟨1200, [(2, .tt false)]⟩, ⟨1300, [(4, .tt false), (12, .tt false)]⟩, ⟨1400, [(6, .call [0] (.val (Value.int IntKind.u64 (sumF L))) []), (7, .tt false)]⟩, ⟨1500, [(7, .tt true)]⟩, ⟨1600, []⟩] (r := I ((24 : Int))) (hp := [(0, .ro ((1 : Nat)) (L.length) (rowG encU L))]) (ob := [(decide ¬(↑L.length : Int) = (16 : Int)) = false, (0 : Int) ≤ (0 : Int) ∧ (0 : Int) < (↑L.length : Int), (0 : Nat) < L.length, (0 : Int) ≤ (48 : Int) ∧ (48 : Int) ≤ (↑IntKind.u64.bits : Int), (decide ¬L.getD (0 : Nat) default / (281474976710656 : Int) = (19796 : Int)) = false, (0 : Int) ≤ (0 : Int) ∧ (0 : Int) < (↑L.length : Int), (0 : Nat) < L.length, inK IntKind.u64 (bitsV BinOp.and IntKind.u64 (L.getD (0 : Nat) default) (15 : Int)), inK IntKind.i64 (bitsV BinOp.and IntKind.u64 (L.getD (0 : Nat) default) (15 : Int)), (decide ¬bitsV BinOp.and IntKind.u64 (L.getD (0 : Nat) default) (15 : Int) = kind) = false, (0 : Int) ≤ (0 : Int) ∧ (0 : Int) < (↑L.length : Int), (0 : Nat) < L.length, (0 : Int) ≤ (32 : Int) ∧ (32 : Int) ≤ (↑IntKind.u64.bits : Int), inK IntKind.u64 (bitsV BinOp.and IntKind.u64 (L.getD (0 : Nat) default / (4294967296 : Int)) (65535 : Int)), CallOK Try.prog (39 : Nat) ([] ++ [AV.sl (0 : Nat) (0 : Nat) (1 : Nat) L.length none] ++ []) [((0 : Nat), Ob.ro (1 : Nat) L.length (rowG encU L))] (AV.val (Value.int IntKind.u64 (sumF L))) [], (decide ¬bitsV BinOp.and IntKind.u64 (L.getD (0 : Nat) default / (4294967296 : Int)) (65535 : Int) = sumF L) = false, (0 : Int) ≤ (0 : Int) ∧ (0 : Int) < (↑L.length : Int), (0 : Nat) < L.length, (0 : Int) ≤ (12 : Int) ∧ (12 : Int) ≤ (↑IntKind.u64.bits : Int), inK IntKind.u64 (bitsV BinOp.and IntKind.u64 (L.getD (0 : Nat) default / (4096 : Int)) (1048575 : Int)), inK IntKind.i64 (bitsV BinOp.and IntKind.u64 (L.getD (0 : Nat) default / (4096 : Int)) (1048575 : Int)), (decide ¬bitsV BinOp.and IntKind.u64 (L.getD (0 : Nat) default / (4096 : Int)) (1048575 : Int) = block) = true]) rfl (by kernel_rfl) ⟨(decide_eq_false (fun hn => hn h16)), (by first | omega | exact bits_bd _ _ _), (by first | omega | exact bits_bd _ _ _), (by first | decide | (simp only [Go.IntKind.bits]; first | omega | exact bits_bd _ _ _)), (decide_eq_false hc1), (by first | omega | exact bits_bd _ _ _), (by first | omega | exact bits_bd _ _ _), (by simp only [inK]; first | omega | exact bits_bd _ _ _), (by simp only [inK]; first | omega | exact bits_bd _ _ _), (decide_eq_false hc2), (by first | omega | exact bits_bd _ _ _), (by first | omega | exact bits_bd _ _ _), (by first | decide | (simp only [Go.IntKind.bits]; first | omega | exact bits_bd _ _ _)), (by simp only [inK]; first | omega | exact bits_bd _ _ _), q1, (decide_eq_false hc3), (by first | omega | exact bits_bd _ _ _), (by first | omega | exact bits_bd _ _ _), (by first | decide | (simp only [Go.IntKind.bits]; first | omega | exact bits_bd _ _ _)), (by simp only [inK]; first | omega | exact bits_bd _ _ _), (by simp only [inK]; first | omega | exact bits_bd _ _ _), (decide_eq_true hc4), trivial⟩ ?_ ⟨ObLe.refl _, trivial⟩ ⟨rfl, fun _ => rfl, trivial⟩ rfl
        case' ga2 =>
          refine Safe.ends mixed Go.Proofs.Try.func27 15 [⟨1100, []⟩, ⟨1200, [(2, .tt false)]⟩, ⟨1300, [(4, .tt false), (12, .tt false)]⟩, ⟨1400, [(6, .call [0] (.val (Value.int IntKind.u64 (sumF L))) []), (7, .tt true)]⟩, ⟨1500, []⟩] (r := I ((11 : Int))) (hp := [(0, .ro ((1 : Nat)) (L.length) (rowG encU L))]) (ob := [(decide ¬(↑L.length : Int) = (16 : Int)) = false, (0 : Int) ≤ (0 : Int) ∧ (0 : Int) < (↑L.length : Int), (0 : Nat) < L.length, (0 : Int) ≤ (48 : Int) ∧ (48 : Int) ≤ (↑IntKind.u64.bits : Int), (decide ¬L.getD (0 : Nat) default / (281474976710656 : Int) = (19796 : Int)) = false, (0 : Int) ≤ (0 : Int) ∧ (0 : Int) < (↑L.length : Int), (0 : Nat) < L.length, inK IntKind.u64 (bitsV BinOp.and IntKind.u64 (L.getD (0 : Nat) default) (15 : Int)), inK IntKind.i64 (bitsV BinOp.and IntKind.u64 (L.getD (0 : Nat) default) (15 : Int)), (decide ¬bitsV BinOp.and IntKind.u64 (L.getD (0 : Nat) default) (15 : Int) = kind) = false, (0 : Int) ≤ (0 : Int) ∧ (0 : Int) < (↑L.length : Int), (0 : Nat) < L.length, (0 : Int) ≤ (32 : Int) ∧ (32 : Int) ≤ (↑IntKind.u64.bits : Int), inK IntKind.u64 (bitsV BinOp.and IntKind.u64 (L.getD (0 : Nat) default / (4294967296 : Int)) (65535 : Int)), CallOK Try.prog (39 : Nat) ([] ++ [AV.sl (0 : Nat) (0 : Nat) (1 : Nat) L.length none] ++ []) [((0 : Nat), Ob.ro (1 : Nat) L.length (rowG encU L))] (AV.val (Value.int IntKind.u64 (sumF L))) [], (decide ¬bitsV BinOp.and IntKind.u64 (L.getD (0 : Nat) default / (4294967296 : Int)) (65535 : Int) = sumF L) = true]) rfl (by kernel_rfl) ⟨(decide_eq_false (fun hn => hn h16)), (by first | omega | exact bits_bd _ _ _), (by first | omega | exact bits_bd _ _ _), (by first | decide | (simp only [Go.IntKind.bits]; first | omega | exact bits_bd _ _ _)), (decide_eq_false hc1), (by first | omega | exact bits_bd _ _ _), (by first | omega | exact bits_bd _ _ _), (by simp only [inK]; first | omega | exact bits_bd _ _ _), (by simp only [inK]; first | omega | exact bits_bd _ _ _), (decide_eq_false hc2), (by first | omega | exact bits_bd _ _ _), (by first | omega | exact bits_bd _ _ _), (by first | decide | (simp only [Go.IntKind.bits]; first | omega | exact bits_bd _ _ _)), (by simp only [inK]; first | omega | exact bits_bd _ _ _), q1, (decide_eq_true hc3), trivial⟩ ?_ ⟨ObLe.refl _, trivial⟩ ⟨rfl, fun _ => rfl, trivial⟩ rfl
      case' ga1 =>
        refine Safe.ends mixed Go.Proofs.Try.func27 12 [⟨1100, []⟩, ⟨1200, [(2, .tt false)]⟩, ⟨1300, [(4, .tt false), (12, .tt true)]⟩, ⟨1400, []⟩] (r := I ((2 : Int))) (hp := [(0, .ro ((1 : Nat)) (L.length) (rowG encU L))]) (ob := [(decide ¬(↑L.length : Int) = (16 : Int)) = false, (0 : Int) ≤ (0 : Int) ∧ (0 : Int) < (↑L.length : Int), (0 : Nat) < L.length, (0 : Int) ≤ (48 : Int) ∧ (48 : Int) ≤ (↑IntKind.u64.bits : Int), (decide ¬L.getD (0 : Nat) default / (281474976710656 : Int) = (19796 : Int)) = false, (0 : Int) ≤ (0 : Int) ∧ (0 : Int) < (↑L.length : Int), (0 : Nat) < L.length, inK IntKind.u64 (bitsV BinOp.and IntKind.u64 (L.getD (0 : Nat) default) (15 : Int)), inK IntKind.i64 (bitsV BinOp.and IntKind.u64 (L.getD (0 : Nat) default) (15 : Int)), (decide ¬bitsV BinOp.and IntKind.u64 (L.getD (0 : Nat) default) (15 : Int) = kind) = true]) rfl (by kernel_rfl) ⟨(decide_eq_false (fun hn => hn h16)), (by first | omega | exact bits_bd _ _ _), (by first | omega | exact bits_bd _ _ _), (by first | decide | (simp only [Go.IntKind.bits]; first | omega | exact bits_bd _ _ _)), (decide_eq_false hc1), (by first | omega | exact bits_bd _ _ _), (by first | omega | exact bits_bd _ _ _), (by simp only [inK]; first | omega | exact bits_bd _ _ _), (by simp only [inK]; first | omega | exact bits_bd _ _ _), (decide_eq_true hc2), trivial⟩ ?_ ⟨ObLe.refl _, trivial⟩ ⟨rfl, fun _ => rfl, trivial⟩ rfl
    case' ga0 =>
      refine Safe.ends mixed Go.Proofs.Try.func27 12 [⟨1100, []⟩, ⟨1200, [(2, .tt false)]⟩, ⟨1300, [(4, .tt true)]⟩, ⟨1400, []⟩] (r := I ((2 : Int))) (hp := [(0, .ro ((1 : Nat)) (L.length) (rowG encU L))]) (ob := [(decide ¬(↑L.length : Int) = (16 : Int)) = false, (0 : Int) ≤ (0 : Int) ∧ (0 : Int) < (↑L.length : Int), (0 : Nat) < L.length, (0 : Int) ≤ (48 : Int) ∧ (48 : Int) ≤ (↑IntKind.u64.bits : Int), (decide ¬L.getD (0 : Nat) default / (281474976710656 : Int) = (19796 : Int)) = true]) rfl (by kernel_rfl) ⟨(decide_eq_false (fun hn => hn h16)), (by first | omega | exact bits_bd _ _ _), (by first | omega | exact bits_bd _ _ _), (by first | decide | (simp only [Go.IntKind.bits]; first | omega | exact bits_bd _ _ _)), (decide_eq_true hc1), trivial⟩ ?_ ⟨ObLe.refl _, trivial⟩ ⟨rfl, fun _ => rfl, trivial⟩ rfl
    · show I 2 = I _
      rw [if_pos (by omega)]
    · show I 2 = I _
      rw [if_pos (by omega)]
    · show I 11 = I _
      rw [if_neg (by omega), if_pos (by omega)]
    · show I 24 = I _
      rw [if_neg (by omega), if_neg (by omega), if_pos (by omega)]
    · show I 0 = I _
      rw [if_neg (by omega), if_neg (by omega), if_neg (by omega)]
  · rw [if_pos (by omega)]
    refine Safe.ends mixed Go.Proofs.Try.func27 9 [⟨1100, []⟩, ⟨1200, [(2, .tt true)]⟩, ⟨1300, []⟩] (r := I ((3 : Int))) (hp := [(0, .ro ((1 : Nat)) (L.length) (rowG encU L))]) (ob := [(decide ¬(↑L.length : Int) = (16 : Int)) = true]) rfl (by kernel_rfl) ⟨(decide_eq_true h16), trivial⟩ rfl ⟨ObLe.refl _, trivial⟩ ⟨rfl, fun _ => rfl, trivial⟩ rfl
end Go.Proofs.Ytonjaghkiaaipaa
