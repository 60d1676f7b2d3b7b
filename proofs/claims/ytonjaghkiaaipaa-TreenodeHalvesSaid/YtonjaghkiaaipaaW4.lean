/- Seals of blocks: the reference's Seal, the program's Sealed; valid nodes. No conditions but those of each theorem. -/
import Derived.Test.YtonjaghkiaaipaaSyZ
import Derived.KernelRfl
import Derived.Test.YtonjaghkiaaipaaW3
namespace Go.Proofs.Ytonjaghkiaaipaa
open Go.RowKit
set_option linter.unusedVariables false
set_option linter.unnecessarySimpa false
set_option linter.unusedSimpArgs false
theorem fill (x s : Int) (h : 0 ≤ x ∧ x ≤ 18446744073709551615) (hs : 0 ≤ s ∧ s < 65536) : bitsV .or .u64 (wsum x 0) (s * 4294967296) = wsum x s := by
  rw [wsum_eq x 0 h, wsum_eq x s h]
  obtain ⟨n, rfl⟩ : ∃ n : Nat, x = n := ⟨x.toNat, by omega⟩
  obtain ⟨t, rfl⟩ : ∃ n : Nat, s = n := ⟨s.toNat, by omega⟩
  have e1 : (n : Int) % 4294967296 + 4294967296 * 0 + 281474976710656 * ((n : Int) / 281474976710656) = ((n % 2 ^ 32 + 2 ^ 48 * (n / 2 ^ 48) : Nat) : Int) := by omega
  have e2 : (t : Int) * (4294967296 : Int) = Int.ofNat (t <<< 32) := by rw [Nat.shiftLeft_eq]; show (t : Int) * 4294967296 = ((t * 2 ^ 32 : Nat) : Int); omega
  have e3 : (n : Int) % 4294967296 + 4294967296 * (t : Int) + 281474976710656 * ((n : Int) / 281474976710656) = ((n % 2 ^ 32 + 2 ^ 32 * t + 2 ^ 48 * (n / 2 ^ 48) : Nat) : Int) := by omega
  rw [e1, e2, e3]
  have b1 : t <<< 32 < 18446744073709551616 := by rw [Nat.shiftLeft_eq]; omega
  show (((BitVec.ofInt 64 ((n % 2 ^ 32 + 2 ^ 48 * (n / 2 ^ 48) : Nat) : Int) ||| BitVec.ofInt 64 (Int.ofNat (t <<< 32))).toNat : Nat) : Int) = _
  congr 1
  rw [BitVec.toNat_or, nat_mask _ (by omega), nat_mask (Int.ofNat (t <<< 32)) (by show 0 ≤ ((t <<< 32 : Nat) : Int) ∧ ((t <<< 32 : Nat) : Int) ≤ _; omega), Int.toNat_natCast, show (Int.ofNat (t <<< 32)).toNat = t <<< 32 from rfl, ← or_shift (n % 2 ^ 32) (n / 2 ^ 48) 48 (by omega), ← or_shift (n % 2 ^ 32 + 2 ^ 32 * t) (n / 2 ^ 48) 48 (by omega), ← or_shift (n % 2 ^ 32) t 32 (by omega)]
  rw [Nat.or_assoc, Nat.or_assoc, Nat.or_comm ((n / 2 ^ 48) <<< 48)]
set_option maxRecDepth 10000 in
set_option maxHeartbeats 4000000 in
theorem rseal_any (L : List Int) (hw : Wf L) (hl : L.length ≤ 1000000) : CallOK Try.prog 21 [.sl 0 0 1 L.length none] [(0, .ro 1 L.length (rowG encU L))] (.sl 10 0 1 16 none) [(10, some (.vec 38 1 16 (rowG encU (sealF L))))] := by
  refine CallOK.intro Try.call21 Try.func21 rfl rfl ⟨rfl, fun _ => rfl, trivial⟩ ?_
  have h0 := (padF_wf hw).at 0
  have hs := sumF_bd (padF L)
  have hh := hole _ h0
  have hf := fill _ (sumF (padF L)) h0 (by omega)
  have q1 := rsum_any (padF L) (padF_wf hw) (padF_len L)
  rw [padF_len] at q1
  refine Safe.goto mixed 7 [⟨1100, []⟩, ⟨1200, []⟩, ⟨1300, []⟩] [0, 2, 3, 4, 5, 6, 7] [0, 1200] (todo' := skipTo 7 (bodyOf Go.Proofs.Try.f21)) (sl := slotsOf 19 [(0, .sl ((0 : Nat)) ((0 : Nat)) ((1 : Nat)) (L.length) (none)), (2, .val (Value.slice none (0 : Nat) (0 : Nat))), (3, .sl ((1200 : Nat)) ((0 : Nat)) ((1 : Nat)) ((16 : Nat)) (none)), (4, .sl ((1200 : Nat)) ((0 : Nat)) ((1 : Nat)) ((16 : Nat)) (none)), (5, .sl ((1200 : Nat)) ((0 : Nat)) ((1 : Nat)) ((16 : Nat)) (none)), (6, .sl ((0 : Nat)) ((0 : Nat)) ((1 : Nat)) (L.length) (none)), (7, I ((↑(min (16 : Nat) L.length) : Int)))]) (hp := [(0, .ro ((1 : Nat)) (L.length) (rowG encU L)), (1200, .vec ((38 : Nat)) ((1 : Nat)) ((16 : Nat)) (copyRow (fun x => List.map AV.val (Value.int IntKind.u64 (0 : Int)).cells.toList) (0 : Nat) (min (16 : Nat) L.length) (rowG encU L)))]) (ob := [(0 : Int) ≤ (16 : Int) ∧ (16 : Int) ≤ (16 : Int) ∧ (16 : Int) ≤ (1099511627776 : Int), (0 : Nat) + L.length ≤ L.length, (0 : Nat) + min (16 : Nat) L.length ≤ (16 : Nat)]) rfl rfl (by kernel_rfl) ⟨(by omega), (by omega), (by omega), trivial⟩ rfl ⟨rfl, fun _ => rfl, rfl, closed_copy (fun _ => rfl) (fun _ => rfl), trivial⟩ ?_
  refine Safe.leH (?_ : Safe _ _ _ _ _ _ ⟨slotsOf 19 [(3, .sl 1200 0 1 16 none)], [(0, .ro 1 L.length (rowG encU L)), (1200, .vec 38 1 16 (rowG encU (padF L)))]⟩ [0, 1200]) rfl ?_ ⟨ObLe.refl _, ⟨rfl, rfl, rfl, fun q hq => ?_⟩, trivial⟩ rfl ⟨rfl, fun _ => rfl, rfl, fun _ => rfl, trivial⟩
  · skip
    refine Safe.gotoE mixed 3 [⟨2100, [(6, .call [1200] (.val (Value.int IntKind.u64 (sumF (padF L)))) [])]⟩, ⟨2200, []⟩] [2] [0, 1200] (sl := slotsOf 19 [(2, .sl ((1200 : Nat)) ((0 : Nat)) ((1 : Nat)) ((16 : Nat)) (none))]) (hp := [(0, .ro ((1 : Nat)) (L.length) (rowG encU L)), (1200, .vec ((38 : Nat)) ((1 : Nat)) ((16 : Nat)) (setRow (rowG encU (padF L)) (0 : Nat) [AV.val (Value.int IntKind.u64 (bitsV BinOp.or IntKind.u64 (bitsV BinOp.andNot IntKind.u64 ((padF L).getD (0 : Nat) default) (281470681743360 : Int)) (sumF (padF L) * (4294967296 : Int))))]))]) (ob := [(0 : Int) ≤ (0 : Int) ∧ (0 : Int) < (↑(16 : Nat) : Int), (0 : Nat) < (16 : Nat), inK IntKind.u64 (bitsV BinOp.andNot IntKind.u64 ((padF L).getD (0 : Nat) default) (281470681743360 : Int)), CallOK Try.prog (39 : Nat) ([] ++ [AV.sl (1200 : Nat) (0 : Nat) (1 : Nat) (16 : Nat) none] ++ []) [((1200 : Nat), Ob.vec (38 : Nat) (1 : Nat) (16 : Nat) (rowG encU (padF L)))] (AV.val (Value.int IntKind.u64 (sumF (padF L)))) [], (0 : Int) ≤ (32 : Int) ∧ (32 : Int) ≤ (↑IntKind.u64.bits : Int), inK IntKind.u64 (sumF (padF L) * (4294967296 : Int)), inK IntKind.u64 (bitsV BinOp.or IntKind.u64 (bitsV BinOp.andNot IntKind.u64 ((padF L).getD (0 : Nat) default) (281470681743360 : Int)) (sumF (padF L) * (4294967296 : Int))), (0 : Int) ≤ (0 : Int) ∧ (0 : Int) < (↑(16 : Nat) : Int), (0 : Nat) < (16 : Nat)]) rfl rfl (by kernel_rfl) ⟨(by first | omega | exact bits_bd _ _ _), (by first | omega | exact bits_bd _ _ _), (by simp only [inK]; first | omega | exact bits_bd _ _ _), (CallOK.ren (CallOK.own 38 0 rfl rfl rfl q1) [(0, 1200)] [0] rfl rfl rfl rfl ⟨rfl, fun _ => rfl, trivial⟩ rfl ⟨rfl, fun _ => rfl, trivial⟩), (by first | decide | (simp only [Go.IntKind.bits]; first | omega | exact bits_bd _ _ _)), (by simp only [inK]; first | omega | exact bits_bd _ _ _), (by simp only [inK]; first | omega | exact bits_bd _ _ _), (by first | omega | exact bits_bd _ _ _), (by first | omega | exact bits_bd _ _ _), trivial⟩ rfl ⟨rfl, fun _ => rfl, rfl, closed_set (fun _ => rfl) rfl, trivial⟩ fun td htd => ?_
    refine Safe.ren [(1200, 10)] rfl rfl rfl rfl ⟨rfl, fun _ => rfl, rfl, closed_set (fun _ => rfl) rfl, trivial⟩ ?_
    refine Safe.endsT Go.Proofs.Try.func21 htd (r := .sl ((10 : Nat)) ((0 : Nat)) ((1 : Nat)) ((16 : Nat)) (none)) (hp := [(0, .ro ((1 : Nat)) (L.length) (fun q => renL [((1200 : Nat), (10 : Nat))] (rowG encU L q))), (10, .vec ((38 : Nat)) ((1 : Nat)) ((16 : Nat)) (fun q => renL [((1200 : Nat), (10 : Nat))] (setRow (rowG encU (padF L)) (0 : Nat) [AV.val (Value.int IntKind.u64 (bitsV BinOp.or IntKind.u64 (bitsV BinOp.andNot IntKind.u64 ((padF L).getD (0 : Nat) default) (281470681743360 : Int)) (sumF (padF L) * (4294967296 : Int))))] q)))]) (ob := []) rfl (by kernel_rfl) trivial rfl ⟨⟨rfl, rfl, fun _ _ => rfl⟩, ?_, trivial⟩ ⟨rfl, fun _ => rfl, rfl, fun _ => rfl, trivial⟩ rfl
    · refine ⟨rfl, rfl, rfl, fun q hq => ?_⟩
      have hq : q < 16 := hq
      show renL _ (setRow _ 0 _ q) = encU ((sealF L).getD q default)
      rw [sealF, getD_set _ _ _ _ (by rw [padF_len]; exact hq)]
      unfold setRow
      split
      · show [U _] = [U _]
        refine congrArg (fun x => [U x]) ?_
        rw [← hf, ← hh]
      · rfl
  · repeat (first | exact ⟨rfl, trivial⟩ | refine ⟨rfl, ?_⟩ | refine ⟨trivial, ?_⟩ | exact trivial)
  · show copyRow _ _ _ _ q = encU _
    rw [padF_at L q hq]
    unfold copyRow
    by_cases h : q < L.length
    · rw [if_pos ⟨Nat.zero_le _, by omega⟩, if_pos h]
      rfl
    · rw [if_neg (by omega), if_neg h]
      rfl
set_option maxRecDepth 10000 in
set_option maxHeartbeats 4000000 in
theorem sealed_any (L : List Int) (kind block : Int) (hk : 0 ≤ kind ∧ kind ≤ 1000000) (hb : 0 ≤ block ∧ block ≤ 1000000) (hw : Wf L) (hl : L.length ≤ 1000000) : CallOK Try.prog 26 [.sl 0 0 1 L.length none, I kind, I block] [(0, .ro 1 L.length (rowG encU L))] (I (sealedF L kind block)) [] := by
  refine CallOK.intro Try.call26 Try.func26 rfl rfl ⟨rfl, fun _ => rfl, trivial⟩ ?_
  have h0 := hw.at 0
  unfold sealedF
  by_cases h16 : (L.length : Int) = 16
  · have q1 := sumOf_any L hw (by omega)
    have q2 := flds_any _ h0
    rw [if_neg (by omega)]
    obtain ⟨F, hF⟩ : ∃ F, fldF (L.getD 0 default) = F := ⟨_, rfl⟩
    have f0 : F.getD 0 default = L.getD 0 default % 16 := by rw [← hF]; rfl
    have f3 : F.getD 3 default = L.getD 0 default / 4096 % 1048576 := by rw [← hF]; rfl
    have f4 : F.getD 4 default = L.getD 0 default / 4294967296 % 65536 := by rw [← hF]; rfl
    have f5 : F.getD 5 default = L.getD 0 default / 281474976710656 % 65536 := by rw [← hF]; rfl
    rw [hF] at q2
    refine (Classical.em (¬F.getD (5 : Nat) default = (19796 : Int))).elim (fun hc1 => ?ga0) (fun hc1 => ?gb0)
    case' gb0 =>
      refine (Classical.em (¬F.getD (0 : Nat) default = kind)).elim (fun hc2 => ?ga1) (fun hc2 => ?gb1)
      case' gb1 =>
        refine (Classical.em (¬F.getD (4 : Nat) default = sumF L)).elim (fun hc3 => ?ga2) (fun hc3 => ?gb2)
        case' gb2 =>
          refine (Classical.em (¬F.getD (3 : Nat) default = block)).elim (fun hc4 => ?ga3) (fun hc4 => ?gb3)
          case' gb3 =>
            refine Safe.ends mixed Go.Proofs.Try.func26 24 [⟨1100, []⟩, ⟨1200, [(2, .tt false)]⟩, ⟨1300, [(3, .call [] (.sl ((1365 : Nat)) ((0 : Nat)) ((1 : Nat)) ((6 : Nat)) (none)) [(1365, some (.vec ((38 : Nat)) ((1 : Nat)) ((6 : Nat)) (fun q => renL [((10 : Nat), (1365 : Nat))] (rowG encU F q))))])]⟩, ⟨1400, [(3, .tt false), (10, .tt false)]⟩, ⟨1500, [(4, .call [0] (.val (Value.int IntKind.u64 (sumF L))) []), (5, .tt false)]⟩, ⟨1600, [(5, .tt false)]⟩, ⟨1700, []⟩] (r := I ((0 : Int))) (hp := [(0, .ro ((1 : Nat)) (L.length) (rowG encU L))]) (ob := [(decide ¬(↑L.length : Int) = (16 : Int)) = false, (0 : Int) ≤ (0 : Int) ∧ (0 : Int) < (↑L.length : Int), (0 : Nat) < L.length, CallOK Try.prog (41 : Nat) ([] ++ [AV.val (Value.int IntKind.u64 (L.getD (0 : Nat) default))] ++ []) [] (AV.sl (1365 : Nat) (0 : Nat) (1 : Nat) (6 : Nat) none) [((1365 : Nat), some (Ob.vec (38 : Nat) (1 : Nat) (6 : Nat) fun q => renL [((10 : Nat), (1365 : Nat))] (rowG encU F q)))], (0 : Int) ≤ (5 : Int) ∧ (5 : Int) < (↑(6 : Nat) : Int), (5 : Nat) < (6 : Nat), (decide ¬F.getD (5 : Nat) default = (19796 : Int)) = false, (0 : Int) ≤ (0 : Int) ∧ (0 : Int) < (↑(6 : Nat) : Int), (0 : Nat) < (6 : Nat), inK IntKind.u64 kind, (decide ¬F.getD (0 : Nat) default = kind) = false, (0 : Int) ≤ (4 : Int) ∧ (4 : Int) < (↑(6 : Nat) : Int), (4 : Nat) < (6 : Nat), CallOK Try.prog (42 : Nat) ([] ++ [AV.sl (0 : Nat) (0 : Nat) (1 : Nat) L.length none] ++ []) [((0 : Nat), Ob.ro (1 : Nat) L.length (rowG encU L))] (AV.val (Value.int IntKind.u64 (sumF L))) [], (decide ¬F.getD (4 : Nat) default = sumF L) = false, (0 : Int) ≤ (3 : Int) ∧ (3 : Int) < (↑(6 : Nat) : Int), (3 : Nat) < (6 : Nat), inK IntKind.u64 block, (decide ¬F.getD (3 : Nat) default = block) = false]) rfl (by kernel_rfl) ⟨(decide_eq_false (fun hn => hn h16)), (by first | omega | exact bits_bd _ _ _), (by first | omega | exact bits_bd _ _ _), (CallOK.ren q2 [(10, 1365)] [10] rfl rfl rfl rfl trivial rfl ⟨rfl, fun _ => rfl, trivial⟩), (by first | omega | exact bits_bd _ _ _), (by first | omega | exact bits_bd _ _ _), (decide_eq_false hc1), (by first | omega | exact bits_bd _ _ _), (by first | omega | exact bits_bd _ _ _), (by simp only [inK]; first | omega | exact bits_bd _ _ _), (decide_eq_false hc2), (by first | omega | exact bits_bd _ _ _), (by first | omega | exact bits_bd _ _ _), q1, (decide_eq_false hc3), (by first | omega | exact bits_bd _ _ _), (by first | omega | exact bits_bd _ _ _), (by simp only [inK]; first | omega | exact bits_bd _ _ _), (decide_eq_false hc4), trivial⟩ ?_ ⟨ObLe.refl _, trivial⟩ ⟨rfl, fun _ => rfl, trivial⟩ rfl
          case' ga3 =>
            refine Safe.ends mixed Go.Proofs.Try.func26 22 [⟨1100, []⟩, ⟨1200, [(2, .tt false)]⟩, ⟨1300, [(3, .call [] (.sl ((1365 : Nat)) ((0 : Nat)) ((1 : Nat)) ((6 : Nat)) (none)) [(1365, some (.vec ((38 : Nat)) ((1 : Nat)) ((6 : Nat)) (fun q => renL [((10 : Nat), (1365 : Nat))] (rowG encU F q))))])]⟩, ⟨1400, [(3, .tt false), (10, .tt false)]⟩, ⟨1500, [(4, .call [0] (.val (Value.int IntKind.u64 (sumF L))) []), (5, .tt false)]⟩, ⟨1600, [(5, .tt true)]⟩, ⟨1700, []⟩] (r := I ((24 : Int))) (hp := [(0, .ro ((1 : Nat)) (L.length) (rowG encU L))]) (ob := [(decide ¬(↑L.length : Int) = (16 : Int)) = false, (0 : Int) ≤ (0 : Int) ∧ (0 : Int) < (↑L.length : Int), (0 : Nat) < L.length, CallOK Try.prog (41 : Nat) ([] ++ [AV.val (Value.int IntKind.u64 (L.getD (0 : Nat) default))] ++ []) [] (AV.sl (1365 : Nat) (0 : Nat) (1 : Nat) (6 : Nat) none) [((1365 : Nat), some (Ob.vec (38 : Nat) (1 : Nat) (6 : Nat) fun q => renL [((10 : Nat), (1365 : Nat))] (rowG encU F q)))], (0 : Int) ≤ (5 : Int) ∧ (5 : Int) < (↑(6 : Nat) : Int), (5 : Nat) < (6 : Nat), (decide ¬F.getD (5 : Nat) default = (19796 : Int)) = false, (0 : Int) ≤ (0 : Int) ∧ (0 : Int) < (↑(6 : Nat) : Int), (0 : Nat) < (6 : Nat), inK IntKind.u64 kind, (decide ¬F.getD (0 : Nat) default = kind) = false, (0 : Int) ≤ (4 : Int) ∧ (4 : Int) < (↑(6 : Nat) : Int), (4 : Nat) < (6 : Nat), CallOK Try.prog (42 : Nat) ([] ++ [AV.sl (0 : Nat) (0 : Nat) (1 : Nat) L.length none] ++ []) [((0 : Nat), Ob.ro (1 : Nat) L.length (rowG encU L))] (AV.val (Value.int IntKind.u64 (sumF L))) [], (decide ¬F.getD (4 : Nat) default = sumF L) = false, (0 : Int) ≤ (3 : Int) ∧ (3 : Int) < (↑(6 : Nat) : Int), (3 : Nat) < (6 : Nat), inK IntKind.u64 block, (decide ¬F.getD (3 : Nat) default = block) = true]) rfl (by kernel_rfl) ⟨(decide_eq_false (fun hn => hn h16)), (by first | omega | exact bits_bd _ _ _), (by first | omega | exact bits_bd _ _ _), (CallOK.ren q2 [(10, 1365)] [10] rfl rfl rfl rfl trivial rfl ⟨rfl, fun _ => rfl, trivial⟩), (by first | omega | exact bits_bd _ _ _), (by first | omega | exact bits_bd _ _ _), (decide_eq_false hc1), (by first | omega | exact bits_bd _ _ _), (by first | omega | exact bits_bd _ _ _), (by simp only [inK]; first | omega | exact bits_bd _ _ _), (decide_eq_false hc2), (by first | omega | exact bits_bd _ _ _), (by first | omega | exact bits_bd _ _ _), q1, (decide_eq_false hc3), (by first | omega | exact bits_bd _ _ _), (by first | omega | exact bits_bd _ _ _), (by simp only [inK]; first | omega | exact bits_bd _ _ _), (decide_eq_true hc4), trivial⟩ ?_ ⟨ObLe.refl _, trivial⟩ ⟨rfl, fun _ => rfl, trivial⟩ rfl
        case' ga2 =>
          refine Safe.ends mixed Go.Proofs.Try.func26 19 [⟨1100, []⟩, ⟨1200, [(2, .tt false)]⟩, ⟨1300, [(3, .call [] (.sl ((1365 : Nat)) ((0 : Nat)) ((1 : Nat)) ((6 : Nat)) (none)) [(1365, some (.vec ((38 : Nat)) ((1 : Nat)) ((6 : Nat)) (fun q => renL [((10 : Nat), (1365 : Nat))] (rowG encU F q))))])]⟩, ⟨1400, [(3, .tt false), (10, .tt false)]⟩, ⟨1500, [(4, .call [0] (.val (Value.int IntKind.u64 (sumF L))) []), (5, .tt true)]⟩, ⟨1600, []⟩] (r := I ((11 : Int))) (hp := [(0, .ro ((1 : Nat)) (L.length) (rowG encU L))]) (ob := [(decide ¬(↑L.length : Int) = (16 : Int)) = false, (0 : Int) ≤ (0 : Int) ∧ (0 : Int) < (↑L.length : Int), (0 : Nat) < L.length, CallOK Try.prog (41 : Nat) ([] ++ [AV.val (Value.int IntKind.u64 (L.getD (0 : Nat) default))] ++ []) [] (AV.sl (1365 : Nat) (0 : Nat) (1 : Nat) (6 : Nat) none) [((1365 : Nat), some (Ob.vec (38 : Nat) (1 : Nat) (6 : Nat) fun q => renL [((10 : Nat), (1365 : Nat))] (rowG encU F q)))], (0 : Int) ≤ (5 : Int) ∧ (5 : Int) < (↑(6 : Nat) : Int), (5 : Nat) < (6 : Nat), (decide ¬F.getD (5 : Nat) default = (19796 : Int)) = false, (0 : Int) ≤ (0 : Int) ∧ (0 : Int) < (↑(6 : Nat) : Int), (0 : Nat) < (6 : Nat), inK IntKind.u64 kind, (decide ¬F.getD (0 : Nat) default = kind) = false, (0 : Int) ≤ (4 : Int) ∧ (4 : Int) < (↑(6 : Nat) : Int), (4 : Nat) < (6 : Nat), CallOK Try.prog (42 : Nat) ([] ++ [AV.sl (0 : Nat) (0 : Nat) (1 : Nat) L.length none] ++ []) [((0 : Nat), Ob.ro (1 : Nat) L.length (rowG encU L))] (AV.val (Value.int IntKind.u64 (sumF L))) [], (decide ¬F.getD (4 : Nat) default = sumF L) = true]) rfl (by kernel_rfl) ⟨(decide_eq_false (fun hn => hn h16)), (by first | omega | exact bits_bd _ _ _), (by first | omega | exact bits_bd _ _ _), (CallOK.ren q2 [(10, 1365)] [10] rfl rfl rfl rfl trivial rfl ⟨rfl, fun _ => rfl, trivial⟩), (by first | omega | exact bits_bd _ _ _), (by first | omega | exact bits_bd _ _ _), (decide_eq_false hc1), (by first | omega | exact bits_bd _ _ _), (by first | omega | exact bits_bd _ _ _), (by simp only [inK]; first | omega | exact bits_bd _ _ _), (decide_eq_false hc2), (by first | omega | exact bits_bd _ _ _), (by first | omega | exact bits_bd _ _ _), q1, (decide_eq_true hc3), trivial⟩ ?_ ⟨ObLe.refl _, trivial⟩ ⟨rfl, fun _ => rfl, trivial⟩ rfl
      case' ga1 =>
        refine Safe.ends mixed Go.Proofs.Try.func26 16 [⟨1100, []⟩, ⟨1200, [(2, .tt false)]⟩, ⟨1300, [(3, .call [] (.sl ((1365 : Nat)) ((0 : Nat)) ((1 : Nat)) ((6 : Nat)) (none)) [(1365, some (.vec ((38 : Nat)) ((1 : Nat)) ((6 : Nat)) (fun q => renL [((10 : Nat), (1365 : Nat))] (rowG encU F q))))])]⟩, ⟨1400, [(3, .tt false), (10, .tt true)]⟩, ⟨1500, []⟩] (r := I ((2 : Int))) (hp := [(0, .ro ((1 : Nat)) (L.length) (rowG encU L))]) (ob := [(decide ¬(↑L.length : Int) = (16 : Int)) = false, (0 : Int) ≤ (0 : Int) ∧ (0 : Int) < (↑L.length : Int), (0 : Nat) < L.length, CallOK Try.prog (41 : Nat) ([] ++ [AV.val (Value.int IntKind.u64 (L.getD (0 : Nat) default))] ++ []) [] (AV.sl (1365 : Nat) (0 : Nat) (1 : Nat) (6 : Nat) none) [((1365 : Nat), some (Ob.vec (38 : Nat) (1 : Nat) (6 : Nat) fun q => renL [((10 : Nat), (1365 : Nat))] (rowG encU F q)))], (0 : Int) ≤ (5 : Int) ∧ (5 : Int) < (↑(6 : Nat) : Int), (5 : Nat) < (6 : Nat), (decide ¬F.getD (5 : Nat) default = (19796 : Int)) = false, (0 : Int) ≤ (0 : Int) ∧ (0 : Int) < (↑(6 : Nat) : Int), (0 : Nat) < (6 : Nat), inK IntKind.u64 kind, (decide ¬F.getD (0 : Nat) default = kind) = true]) rfl (by kernel_rfl) ⟨(decide_eq_false (fun hn => hn h16)), (by first | omega | exact bits_bd _ _ _), (by first | omega | exact bits_bd _ _ _), (CallOK.ren q2 [(10, 1365)] [10] rfl rfl rfl rfl trivial rfl ⟨rfl, fun _ => rfl, trivial⟩), (by first | omega | exact bits_bd _ _ _), (by first | omega | exact bits_bd _ _ _), (decide_eq_false hc1), (by first | omega | exact bits_bd _ _ _), (by first | omega | exact bits_bd _ _ _), (by simp only [inK]; first | omega | exact bits_bd _ _ _), (decide_eq_true hc2), trivial⟩ ?_ ⟨ObLe.refl _, trivial⟩ ⟨rfl, fun _ => rfl, trivial⟩ rfl
    case' ga0 =>
      refine Safe.ends mixed Go.Proofs.Try.func26 16 [⟨1100, []⟩, ⟨1200, [(2, .tt false)]⟩, ⟨1300, [(3, .call [] (.sl ((1365 : Nat)) ((0 : Nat)) ((1 : Nat)) ((6 : Nat)) (none)) [(1365, some (.vec ((38 : Nat)) ((1 : Nat)) ((6 : Nat)) (fun q => renL [((10 : Nat), (1365 : Nat))] (rowG encU F q))))])]⟩, ⟨1400, [(3, .tt true)]⟩, ⟨1500, []⟩] (r := I ((2 : Int))) (hp := [(0, .ro ((1 : Nat)) (L.length) (rowG encU L))]) (ob := [(decide ¬(↑L.length : Int) = (16 : Int)) = false, (0 : Int) ≤ (0 : Int) ∧ (0 : Int) < (↑L.length : Int), (0 : Nat) < L.length, CallOK Try.prog (41 : Nat) ([] ++ [AV.val (Value.int IntKind.u64 (L.getD (0 : Nat) default))] ++ []) [] (AV.sl (1365 : Nat) (0 : Nat) (1 : Nat) (6 : Nat) none) [((1365 : Nat), some (Ob.vec (38 : Nat) (1 : Nat) (6 : Nat) fun q => renL [((10 : Nat), (1365 : Nat))] (rowG encU F q)))], (0 : Int) ≤ (5 : Int) ∧ (5 : Int) < (↑(6 : Nat) : Int), (5 : Nat) < (6 : Nat), (decide ¬F.getD (5 : Nat) default = (19796 : Int)) = true]) rfl (by kernel_rfl) ⟨(decide_eq_false (fun hn => hn h16)), (by first | omega | exact bits_bd _ _ _), (by first | omega | exact bits_bd _ _ _), (CallOK.ren q2 [(10, 1365)] [10] rfl rfl rfl rfl trivial rfl ⟨rfl, fun _ => rfl, trivial⟩), (by first | omega | exact bits_bd _ _ _), (by first | omega | exact bits_bd _ _ _), (decide_eq_true hc1), trivial⟩ ?_ ⟨ObLe.refl _, trivial⟩ ⟨rfl, fun _ => rfl, trivial⟩ rfl
    · show I 2 = I _
      rw [if_pos (by omega)]
    · show I 2 = I _
      rw [if_pos (by omega)]
    · show I 11 = I _
      rw [if_neg (by omega), if_pos (by omega)]
    · show I 24 = I _
      rw [if_neg (by omega), if_neg (by omega), if_pos (by omega)]
    · show I 0 = I _
      rw [if_neg (by omega), if_neg (by omega), if_neg (by omega)]
  · rw [if_pos (by omega)]
    refine Safe.ends mixed Go.Proofs.Try.func26 8 [⟨1100, []⟩, ⟨1200, [(2, .tt true)]⟩, ⟨1300, []⟩] (r := I ((3 : Int))) (hp := [(0, .ro ((1 : Nat)) (L.length) (rowG encU L))]) (ob := [(decide ¬(↑L.length : Int) = (16 : Int)) = true]) rfl (by kernel_rfl) ⟨(decide_eq_true h16), trivial⟩ rfl ⟨ObLe.refl _, trivial⟩ ⟨rfl, fun _ => rfl, trivial⟩ rfl
/-! nodes -/
abbrev En := Int × Int
def encE (r : En) : List AV := [I r.1, U r.2]
/-- the key ahead of entry k -/
def lastK (L : List En) (k : Nat) : Int := if k = 0 then -1 else (L.getD (k - 1) default).1
abbrev okE (L : List En) (k : Nat) : Prop := lastK L k < (L.getD k default).1 ∧ (L.getD k default).1 ≤ 16777215
abbrev goodE (L : List En) : Prop := ∀ j, j < L.length → okE L j
/-- the error of a node -/
def validF (l s : Int) (L : List En) : Int := if l < 0 ∨ l > 8 ∨ s < 0 ∨ s > 16777215 then 1 else if L.length > 7 then 4 else if goodE L then 0 else 2
/-- keys that are numbers -/
def KeyBd (L : List En) : Prop := ∀ x ∈ L, -1000000000000 ≤ x.1 ∧ x.1 ≤ 1000000000000 ∧ 0 ≤ x.2 ∧ x.2 ≤ 18446744073709551615
theorem KeyBd.at {L : List En} (h : KeyBd L) (k : Nat) : -1000000000000 ≤ (L.getD k default).1 ∧ (L.getD k default).1 ≤ 1000000000000 ∧ 0 ≤ (L.getD k default).2 ∧ (L.getD k default).2 ≤ 18446744073709551615 := by
  rw [List.getD_eq_getElem?_getD]
  cases e : L[k]? with
  | none => exact (by decide : (-1000000000000 : Int) ≤ 0 ∧ (0 : Int) ≤ 1000000000000 ∧ (0 : Int) ≤ 0 ∧ (0 : Int) ≤ 18446744073709551615)
  | some z => exact h z (List.mem_of_getElem? e)
set_option maxRecDepth 10000 in
set_option maxHeartbeats 4000000 in
theorem valid_any (l s : Int) (L : List En) (hl : L.length ≤ 1000000) : CallOK Try.prog 14 [.agg [I l, I s, .sl 1 0 2 L.length none]] [(1, .ro 2 L.length (rowG encE L))] (I (validF l s L)) [] := by
  refine CallOK.intro Try.call14 Try.func14 rfl rfl ⟨rfl, fun _ => rfl, trivial⟩ ?_
  refine Safe.withLoop (loopAt Try.f14 0) [1] 47 (fun k : Nat => [(3, I (lastK L k)), (29, .sl 1 0 2 L.length none), (30, I L.length), (31, I k)]) (fun k => [(1, .ro 2 L.length (rowG encE L))]) (fun k => k ≤ L.length ∧ ¬ (l < 0 ∨ l > 8 ∨ s < 0 ∨ s > 16777215) ∧ L.length ≤ 7 ∧ ∀ j, j < k → okE L j) (fun k => L.length - k) ?_ ?_
  · rintro k ⟨hk, hn1, hn2, hg⟩ ih
    have hV : validF l s L = if goodE L then 0 else 2 := by rw [validF, if_neg hn1, if_neg (by omega)]
    rw [hV]
    have bad : ∀ (h : k < L.length), ¬ okE L k → ¬ goodE L := fun h hn hg => hn (hg k h)
    have next : okE L k → ∀ j, j < k + 1 → okE L j := fun h j hj => by
      by_cases e : j = k
      · rw [e]; exact h
      · exact hg j (by omega)
    have hl1 : lastK L (k + 1) = (L.getD k default).1 := by rw [lastK, if_neg (by omega), Nat.add_sub_cancel]
    unfold okE at bad
    refine (Classical.em ((↑k : Int) < (↑L.length : Int))).elim (fun hc1 => ?ga4) (fun hc1 => ?gb4)
    case' gb4 =>
      refine Safe.ends mixed Go.Proofs.Try.func14 7 [⟨1100, [(0, .tt false)]⟩, ⟨1200, []⟩] (r := I ((0 : Int))) (hp := [(1, .ro ((2 : Nat)) (L.length) (rowG encE L))]) (ob := [decide ((↑k : Int) < (↑L.length : Int)) = false]) rfl (by kernel_rfl) ⟨(decide_eq_false hc1), trivial⟩ ?_ ⟨ObLe.refl _, trivial⟩ ⟨rfl, fun _ => rfl, trivial⟩ rfl
    case' ga4 =>
      refine (Classical.em ((L.getD k default).fst ≤ lastK L k)).elim (fun hc2 => ?ga5) (fun hc2 => ?gb5)
      case' gb5 =>
        refine (Classical.em ((L.getD k default).fst > (16777215 : Int))).elim (fun hc3 => ?ga6) (fun hc3 => ?gb6)
        case' gb6 =>
          refine Safe.goto mixed 18 [⟨1100, [(0, .tt true)]⟩, ⟨1200, []⟩, ⟨1300, [(3, .tt false), (7, .tt false)]⟩, ⟨1400, []⟩, ⟨1500, []⟩] [3, 29, 30, 31] [1] (todo' := loopAt Go.Proofs.Try.f14 0) (sl := slotsOf 47 [(3, I ((L.getD k default).fst)), (29, .sl ((1 : Nat)) ((0 : Nat)) ((2 : Nat)) (L.length) (none)), (30, I ((↑L.length : Int))), (31, I ((↑k : Int) + (1 : Int)))]) (hp := [(1, .ro ((2 : Nat)) (L.length) (rowG encE L))]) (ob := [decide ((↑k : Int) < (↑L.length : Int)) = true, (0 : Int) ≤ (↑k : Int) ∧ (↑k : Int) < (↑L.length : Int), k < L.length, decide ((L.getD k default).fst ≤ lastK L k) = false, decide ((L.getD k default).fst > (16777215 : Int)) = false, inK IntKind.i64 ((↑k : Int) + (1 : Int))]) rfl rfl (by kernel_rfl) ⟨(decide_eq_true hc1), (by omega), (by omega), (decide_eq_false hc2), (decide_eq_false hc3), (by simp only [inK]; omega), trivial⟩ rfl ⟨rfl, fun _ => rfl, trivial⟩ ?_
        case' ga6 =>
          refine Safe.ends mixed Go.Proofs.Try.func14 15 [⟨1100, [(0, .tt true)]⟩, ⟨1200, []⟩, ⟨1300, [(3, .tt false), (7, .tt true)]⟩, ⟨1400, []⟩] (r := I ((2 : Int))) (hp := [(1, .ro ((2 : Nat)) (L.length) (rowG encE L))]) (ob := [decide ((↑k : Int) < (↑L.length : Int)) = true, (0 : Int) ≤ (↑k : Int) ∧ (↑k : Int) < (↑L.length : Int), k < L.length, decide ((L.getD k default).fst ≤ lastK L k) = false, decide ((L.getD k default).fst > (16777215 : Int)) = true]) rfl (by kernel_rfl) ⟨(decide_eq_true hc1), (by omega), (by omega), (decide_eq_false hc2), (decide_eq_true hc3), trivial⟩ ?_ ⟨ObLe.refl _, trivial⟩ ⟨rfl, fun _ => rfl, trivial⟩ rfl
      case' ga5 =>
        refine Safe.ends mixed Go.Proofs.Try.func14 15 [⟨1100, [(0, .tt true)]⟩, ⟨1200, []⟩, ⟨1300, [(3, .tt true)]⟩, ⟨1400, []⟩] (r := I ((2 : Int))) (hp := [(1, .ro ((2 : Nat)) (L.length) (rowG encE L))]) (ob := [decide ((↑k : Int) < (↑L.length : Int)) = true, (0 : Int) ≤ (↑k : Int) ∧ (↑k : Int) < (↑L.length : Int), k < L.length, decide ((L.getD k default).fst ≤ lastK L k) = true]) rfl (by kernel_rfl) ⟨(decide_eq_true hc1), (by omega), (by omega), (decide_eq_true hc2), trivial⟩ ?_ ⟨ObLe.refl _, trivial⟩ ⟨rfl, fun _ => rfl, trivial⟩ rfl
    · show I 2 = I _
      rw [if_neg (bad (by omega) (by omega))]
    · show I 2 = I _
      rw [if_neg (bad (by omega) (by omega))]
    · have := ih (k + 1) ⟨by omega, hn1, hn2, next ⟨by omega, by omega⟩⟩ (by omega)
      rw [hV, hl1] at this
      exact this
    · show I 0 = I _
      rw [if_pos (fun j hj => hg j (by omega))]
  · intro H
    have hb : l < 0 ∨ l > 8 ∨ s < 0 ∨ s > 16777215 → validF l s L = 1 := fun h => by rw [validF, if_pos h]
    have hc : ¬ (l < 0 ∨ l > 8 ∨ s < 0 ∨ s > 16777215) → L.length > 7 → validF l s L = 4 := fun h h2 => by rw [validF, if_neg h, if_pos h2]
    refine (Classical.em (l < (0 : Int))).elim (fun hc1 => ?ga7) (fun hc1 => ?gb7)
    case' gb7 =>
      refine (Classical.em (l > (8 : Int))).elim (fun hc2 => ?ga8) (fun hc2 => ?gb8)
      case' gb8 =>
        refine (Classical.em (s < (0 : Int))).elim (fun hc3 => ?ga9) (fun hc3 => ?gb9)
        case' gb9 =>
          refine (Classical.em (s > (16777215 : Int))).elim (fun hc4 => ?ga10) (fun hc4 => ?gb10)
          case' gb10 =>
            refine (Classical.em ((↑L.length : Int) > (7 : Int))).elim (fun hc5 => ?ga11) (fun hc5 => ?gb11)
            case' gb11 =>
              refine Safe.goto mixed 19 [⟨1100, []⟩, ⟨1200, [(2, .tt false), (6, .tt false), (11, .tt false), (16, .tt false)]⟩, ⟨1300, [(3, .tt false)]⟩, ⟨1400, []⟩, ⟨1500, []⟩] [3, 29, 30, 31] [1] (todo' := loopAt Go.Proofs.Try.f14 0) (sl := slotsOf 47 [(3, I ((-1 : Int))), (29, .sl ((1 : Nat)) ((0 : Nat)) ((2 : Nat)) (L.length) (none)), (30, I ((↑L.length : Int))), (31, I ((0 : Int)))]) (hp := [(1, .ro ((2 : Nat)) (L.length) (rowG encE L))]) (ob := [decide (l < (0 : Int)) = false, decide (l > (8 : Int)) = false, decide (s < (0 : Int)) = false, decide (s > (16777215 : Int)) = false, decide ((↑L.length : Int) > (7 : Int)) = false]) rfl rfl (by kernel_rfl) ⟨(decide_eq_false hc1), (decide_eq_false hc2), (decide_eq_false hc3), (decide_eq_false hc4), (decide_eq_false hc5), trivial⟩ rfl ⟨rfl, fun _ => rfl, trivial⟩ ?_
            case' ga11 =>
              refine Safe.ends mixed Go.Proofs.Try.func14 13 [⟨1100, []⟩, ⟨1200, [(2, .tt false), (6, .tt false), (11, .tt false), (16, .tt false)]⟩, ⟨1300, [(3, .tt true)]⟩, ⟨1400, []⟩] (r := I ((4 : Int))) (hp := [(1, .ro ((2 : Nat)) (L.length) (rowG encE L))]) (ob := [decide (l < (0 : Int)) = false, decide (l > (8 : Int)) = false, decide (s < (0 : Int)) = false, decide (s > (16777215 : Int)) = false, decide ((↑L.length : Int) > (7 : Int)) = true]) rfl (by kernel_rfl) ⟨(decide_eq_false hc1), (decide_eq_false hc2), (decide_eq_false hc3), (decide_eq_false hc4), (decide_eq_true hc5), trivial⟩ ?_ ⟨ObLe.refl _, trivial⟩ ⟨rfl, fun _ => rfl, trivial⟩ rfl
          case' ga10 =>
            refine Safe.ends mixed Go.Proofs.Try.func14 8 [⟨1100, []⟩, ⟨1200, [(2, .tt false), (6, .tt false), (11, .tt false), (16, .tt true)]⟩, ⟨1300, []⟩] (r := I ((1 : Int))) (hp := [(1, .ro ((2 : Nat)) (L.length) (rowG encE L))]) (ob := [decide (l < (0 : Int)) = false, decide (l > (8 : Int)) = false, decide (s < (0 : Int)) = false, decide (s > (16777215 : Int)) = true]) rfl (by kernel_rfl) ⟨(decide_eq_false hc1), (decide_eq_false hc2), (decide_eq_false hc3), (decide_eq_true hc4), trivial⟩ ?_ ⟨ObLe.refl _, trivial⟩ ⟨rfl, fun _ => rfl, trivial⟩ rfl
        case' ga9 =>
          refine Safe.ends mixed Go.Proofs.Try.func14 8 [⟨1100, []⟩, ⟨1200, [(2, .tt false), (6, .tt false), (11, .tt true)]⟩, ⟨1300, []⟩] (r := I ((1 : Int))) (hp := [(1, .ro ((2 : Nat)) (L.length) (rowG encE L))]) (ob := [decide (l < (0 : Int)) = false, decide (l > (8 : Int)) = false, decide (s < (0 : Int)) = true]) rfl (by kernel_rfl) ⟨(decide_eq_false hc1), (decide_eq_false hc2), (decide_eq_true hc3), trivial⟩ ?_ ⟨ObLe.refl _, trivial⟩ ⟨rfl, fun _ => rfl, trivial⟩ rfl
      case' ga8 =>
        refine Safe.ends mixed Go.Proofs.Try.func14 8 [⟨1100, []⟩, ⟨1200, [(2, .tt false), (6, .tt true)]⟩, ⟨1300, []⟩] (r := I ((1 : Int))) (hp := [(1, .ro ((2 : Nat)) (L.length) (rowG encE L))]) (ob := [decide (l < (0 : Int)) = false, decide (l > (8 : Int)) = true]) rfl (by kernel_rfl) ⟨(decide_eq_false hc1), (decide_eq_true hc2), trivial⟩ ?_ ⟨ObLe.refl _, trivial⟩ ⟨rfl, fun _ => rfl, trivial⟩ rfl
    case' ga7 =>
      refine Safe.ends mixed Go.Proofs.Try.func14 8 [⟨1100, []⟩, ⟨1200, [(2, .tt true)]⟩, ⟨1300, []⟩] (r := I ((1 : Int))) (hp := [(1, .ro ((2 : Nat)) (L.length) (rowG encE L))]) (ob := [decide (l < (0 : Int)) = true]) rfl (by kernel_rfl) ⟨(decide_eq_true hc1), trivial⟩ ?_ ⟨ObLe.refl _, trivial⟩ ⟨rfl, fun _ => rfl, trivial⟩ rfl
    · show I 1 = I _
      rw [hb (by omega)]
    · show I 1 = I _
      rw [hb (by omega)]
    · show I 1 = I _
      rw [hb (by omega)]
    · show I 1 = I _
      rw [hb (by omega)]
    · show I 4 = I _
      rw [hc (by omega) (by omega)]
    · exact H 0 ⟨Nat.zero_le _, by omega, by omega, fun j hj => by omega⟩
set_option maxRecDepth 10000 in
set_option maxHeartbeats 4000000 in
theorem rvalid_any (l s : Int) (L : List En) (hl : L.length ≤ 1000000) : CallOK Try.prog 15 [.agg [I l, I s, .sl 1 0 2 L.length none]] [(1, .ro 2 L.length (rowG encE L))] (I (validF l s L)) [] := by
  refine CallOK.intro Try.call15 Try.func15 rfl rfl ⟨rfl, fun _ => rfl, trivial⟩ ?_
  refine Safe.withLoop (loopAt Try.f15 0) [1, 20] 61 (fun k : Nat => [(1, .ptr 20 0 0 0), (3, I k)]) (fun k => [(1, .ro 2 L.length (rowG encE L)), (20, .blk 27 [I l, I s, .sl 1 0 2 L.length none])]) (fun k => k ≤ L.length ∧ ¬ (l < 0 ∨ l > 8 ∨ s < 0 ∨ s > 16777215) ∧ L.length ≤ 7 ∧ ∀ j, j < k → okE L j) (fun k => L.length - k) ?_ ?_
  · rintro k ⟨hk, hn1, hn2, hg⟩ ih
    have hV : validF l s L = if goodE L then 0 else 2 := by rw [validF, if_neg hn1, if_neg (by omega)]
    rw [hV]
    have bad : ∀ (h : k < L.length), ¬ okE L k → ¬ goodE L := fun h hn hg => hn (hg k h)
    have next : okE L k → ∀ j, j < k + 1 → okE L j := fun h j hj => by
      by_cases e : j = k
      · rw [e]; exact h
      · exact hg j (by omega)
    have l0 : k = 0 → lastK L k = -1 := fun h => by rw [lastK, if_pos h]
    have l1 : 0 < k → lastK L k = (L.getD (k - 1) default).1 ∧ 0 ≤ (L.getD (k - 1) default).1 := fun h => by
      have h2 := hg (k - 1) (by omega)
      rw [lastK, if_neg (by omega)]
      refine ⟨rfl, ?_⟩
      have h3 : ∀ j, j ≤ k - 1 → -1 ≤ lastK L j := fun j => by
        induction j with
        | zero => intro _; rw [lastK, if_pos rfl]; omega
        | succ j ih2 =>
          intro hj
          have := ih2 (by omega)
          have h4 := hg j (by omega)
          rw [lastK, if_neg (by omega), Nat.add_sub_cancel]
          omega
      have := h3 (k - 1) (Nat.le_refl _)
      omega
    have e1 : ((k : Int) - 1).toNat = k - 1 := by omega
    have lge : -1 ≤ lastK L k := by
      by_cases h : k = 0
      · have := l0 h; omega
      · have := l1 (by omega); omega
    unfold okE at bad
    refine (Classical.em ((↑k : Int) < (↑L.length : Int))).elim (fun hc1 => ?ga12) (fun hc1 => ?gb12)
    case' gb12 =>
      refine Safe.ends mixed Go.Proofs.Try.func15 7 [⟨1100, [(4, .tt false)]⟩, ⟨1200, []⟩] (r := I ((0 : Int))) (hp := [(1, .ro ((2 : Nat)) (L.length) (rowG encE L))]) (ob := [decide ((↑k : Int) < (↑L.length : Int)) = false]) rfl (by kernel_rfl) ⟨(decide_eq_false hc1), trivial⟩ ?_ ⟨ObLe.refl _, trivial⟩ ⟨rfl, fun _ => rfl, trivial⟩ rfl
    case' ga12 =>
      refine (Classical.em ((L.getD k default).fst < (0 : Int))).elim (fun hc2 => ?ga13) (fun hc2 => ?gb13)
      case' gb13 =>
        refine (Classical.em ((L.getD k default).fst > (16777215 : Int))).elim (fun hc3 => ?ga14) (fun hc3 => ?gb14)
        case' gb14 =>
          refine (Classical.em ((↑k : Int) > (0 : Int))).elim (fun hc4 => ?ga15) (fun hc4 => ?gb15)
          case' gb15 =>
            refine Safe.goto mixed 16 [⟨1100, [(4, .tt true)]⟩, ⟨1200, []⟩, ⟨1300, [(1, .tt false), (4, .tt false), (8, .tt false)]⟩, ⟨1400, []⟩] [1, 3] [1, 20] (todo' := loopAt Go.Proofs.Try.f15 0) (sl := slotsOf 61 [(1, .ptr ((20 : Nat)) ((0 : Nat)) ((0 : Nat)) ((0 : Nat))), (3, I ((↑k : Int) + (1 : Int)))]) (hp := [(1, .ro ((2 : Nat)) (L.length) (rowG encE L)), (20, .blk ((27 : Nat)) [I (l), I (s), .sl ((1 : Nat)) ((0 : Nat)) ((2 : Nat)) (L.length) (none)])]) (ob := [decide ((↑k : Int) < (↑L.length : Int)) = true, (0 : Int) ≤ (↑k : Int) ∧ (↑k : Int) < (↑L.length : Int), k < L.length, decide ((L.getD k default).fst < (0 : Int)) = false, decide ((L.getD k default).fst > (16777215 : Int)) = false, decide ((↑k : Int) > (0 : Int)) = false, inK IntKind.i64 ((↑k : Int) + (1 : Int))]) rfl rfl (by kernel_rfl) ⟨(decide_eq_true hc1), (by omega), (by omega), (decide_eq_false hc2), (decide_eq_false hc3), (decide_eq_false hc4), (by simp only [inK]; omega), trivial⟩ rfl ⟨rfl, fun _ => rfl, rfl, rfl, trivial⟩ ?_
          case' ga15 =>
            refine (Classical.em ((L.getD k default).fst ≤ (L.getD ((↑k : Int) - (1 : Int)).toNat default).fst)).elim (fun hc5 => ?ga16) (fun hc5 => ?gb16)
            case' gb16 =>
              refine Safe.goto mixed 16 [⟨1100, [(4, .tt true)]⟩, ⟨1200, []⟩, ⟨1300, [(1, .tt false), (4, .tt false), (8, .tt true), (18, .tt false)]⟩, ⟨1400, []⟩] [1, 3] [1, 20] (todo' := loopAt Go.Proofs.Try.f15 0) (sl := slotsOf 61 [(1, .ptr ((20 : Nat)) ((0 : Nat)) ((0 : Nat)) ((0 : Nat))), (3, I ((↑k : Int) + (1 : Int)))]) (hp := [(1, .ro ((2 : Nat)) (L.length) (rowG encE L)), (20, .blk ((27 : Nat)) [I (l), I (s), .sl ((1 : Nat)) ((0 : Nat)) ((2 : Nat)) (L.length) (none)])]) (ob := [decide ((↑k : Int) < (↑L.length : Int)) = true, (0 : Int) ≤ (↑k : Int) ∧ (↑k : Int) < (↑L.length : Int), k < L.length, decide ((L.getD k default).fst < (0 : Int)) = false, decide ((L.getD k default).fst > (16777215 : Int)) = false, decide ((↑k : Int) > (0 : Int)) = true, inK IntKind.i64 ((↑k : Int) - (1 : Int)), (0 : Int) ≤ (↑k : Int) - (1 : Int) ∧ (↑k : Int) - (1 : Int) < (↑L.length : Int), ((↑k : Int) - (1 : Int)).toNat < L.length, decide ((L.getD k default).fst ≤ (L.getD ((↑k : Int) - (1 : Int)).toNat default).fst) = false, inK IntKind.i64 ((↑k : Int) + (1 : Int))]) rfl rfl (by kernel_rfl) ⟨(decide_eq_true hc1), (by omega), (by omega), (decide_eq_false hc2), (decide_eq_false hc3), (decide_eq_true hc4), (by simp only [inK]; omega), (by omega), (by omega), (decide_eq_false hc5), (by simp only [inK]; omega), trivial⟩ rfl ⟨rfl, fun _ => rfl, rfl, rfl, trivial⟩ ?_
            case' ga16 =>
              refine Safe.ends mixed Go.Proofs.Try.func15 14 [⟨1100, [(4, .tt true)]⟩, ⟨1200, []⟩, ⟨1300, [(1, .tt false), (4, .tt false), (8, .tt true), (18, .tt true)]⟩, ⟨1400, []⟩] (r := I ((2 : Int))) (hp := [(1, .ro ((2 : Nat)) (L.length) (rowG encE L))]) (ob := [decide ((↑k : Int) < (↑L.length : Int)) = true, (0 : Int) ≤ (↑k : Int) ∧ (↑k : Int) < (↑L.length : Int), k < L.length, decide ((L.getD k default).fst < (0 : Int)) = false, decide ((L.getD k default).fst > (16777215 : Int)) = false, decide ((↑k : Int) > (0 : Int)) = true, inK IntKind.i64 ((↑k : Int) - (1 : Int)), (0 : Int) ≤ (↑k : Int) - (1 : Int) ∧ (↑k : Int) - (1 : Int) < (↑L.length : Int), ((↑k : Int) - (1 : Int)).toNat < L.length, decide ((L.getD k default).fst ≤ (L.getD ((↑k : Int) - (1 : Int)).toNat default).fst) = true]) rfl (by kernel_rfl) ⟨(decide_eq_true hc1), (by omega), (by omega), (decide_eq_false hc2), (decide_eq_false hc3), (decide_eq_true hc4), (by simp only [inK]; omega), (by omega), (by omega), (decide_eq_true hc5), trivial⟩ ?_ ⟨ObLe.refl _, trivial⟩ ⟨rfl, fun _ => rfl, trivial⟩ rfl
        case' ga14 =>
          refine Safe.ends mixed Go.Proofs.Try.func15 14 [⟨1100, [(4, .tt true)]⟩, ⟨1200, []⟩, ⟨1300, [(1, .tt false), (4, .tt true)]⟩, ⟨1400, []⟩] (r := I ((2 : Int))) (hp := [(1, .ro ((2 : Nat)) (L.length) (rowG encE L))]) (ob := [decide ((↑k : Int) < (↑L.length : Int)) = true, (0 : Int) ≤ (↑k : Int) ∧ (↑k : Int) < (↑L.length : Int), k < L.length, decide ((L.getD k default).fst < (0 : Int)) = false, decide ((L.getD k default).fst > (16777215 : Int)) = true]) rfl (by kernel_rfl) ⟨(decide_eq_true hc1), (by omega), (by omega), (decide_eq_false hc2), (decide_eq_true hc3), trivial⟩ ?_ ⟨ObLe.refl _, trivial⟩ ⟨rfl, fun _ => rfl, trivial⟩ rfl
      case' ga13 =>
        refine Safe.ends mixed Go.Proofs.Try.func15 14 [⟨1100, [(4, .tt true)]⟩, ⟨1200, []⟩, ⟨1300, [(1, .tt true)]⟩, ⟨1400, []⟩] (r := I ((2 : Int))) (hp := [(1, .ro ((2 : Nat)) (L.length) (rowG encE L))]) (ob := [decide ((↑k : Int) < (↑L.length : Int)) = true, (0 : Int) ≤ (↑k : Int) ∧ (↑k : Int) < (↑L.length : Int), k < L.length, decide ((L.getD k default).fst < (0 : Int)) = true]) rfl (by kernel_rfl) ⟨(decide_eq_true hc1), (by omega), (by omega), (decide_eq_true hc2), trivial⟩ ?_ ⟨ObLe.refl _, trivial⟩ ⟨rfl, fun _ => rfl, trivial⟩ rfl
    · show I 2 = I _
      rw [if_neg (bad (by omega) (by omega))]
    · show I 2 = I _
      rw [if_neg (bad (by omega) (by omega))]
    · show I 2 = I _
      rw [e1] at hc5
      have := l1 (by omega)
      rw [if_neg (bad (by omega) (by omega))]
    · rw [e1] at hc5
      have := l1 (by omega)
      have := ih (k + 1) ⟨by omega, hn1, hn2, next ⟨by omega, by omega⟩⟩ (by omega)
      rw [hV] at this
      exact this
    · have := l0 (by omega)
      have := ih (k + 1) ⟨by omega, hn1, hn2, next ⟨by omega, by omega⟩⟩ (by omega)
      rw [hV] at this
      exact this
    · show I 0 = I _
      rw [if_pos (fun j hj => hg j (by omega))]
  · intro H
    have hb : l < 0 ∨ l > 8 ∨ s < 0 ∨ s > 16777215 → validF l s L = 1 := fun h => by rw [validF, if_pos h]
    have hc : ¬ (l < 0 ∨ l > 8 ∨ s < 0 ∨ s > 16777215) → L.length > 7 → validF l s L = 4 := fun h h2 => by rw [validF, if_neg h, if_pos h2]
    refine (Classical.em (l < (0 : Int))).elim (fun hc1 => ?ga17) (fun hc1 => ?gb17)
    case' gb17 =>
      refine (Classical.em (l > (8 : Int))).elim (fun hc2 => ?ga18) (fun hc2 => ?gb18)
      case' gb18 =>
        refine (Classical.em (s < (0 : Int))).elim (fun hc3 => ?ga19) (fun hc3 => ?gb19)
        case' gb19 =>
          refine (Classical.em (s > (16777215 : Int))).elim (fun hc4 => ?ga20) (fun hc4 => ?gb20)
          case' gb20 =>
            refine (Classical.em ((↑L.length : Int) > (7 : Int))).elim (fun hc5 => ?ga21) (fun hc5 => ?gb21)
            case' gb21 =>
              refine Safe.goto mixed 17 [⟨1100, []⟩, ⟨1200, [(2, .tt false), (6, .tt false), (11, .tt false), (16, .tt false)]⟩, ⟨1300, [(3, .tt false)]⟩, ⟨1400, []⟩] [1, 3] [1, 1100] (todo' := loopAt Go.Proofs.Try.f15 0) (sl := slotsOf 61 [(1, .ptr ((1100 : Nat)) ((0 : Nat)) ((0 : Nat)) ((0 : Nat))), (3, I ((0 : Int)))]) (hp := [(1, .ro ((2 : Nat)) (L.length) (rowG encE L)), (1100, .blk ((27 : Nat)) [I (l), I (s), .sl ((1 : Nat)) ((0 : Nat)) ((2 : Nat)) (L.length) (none)])]) (ob := [decide (l < (0 : Int)) = false, decide (l > (8 : Int)) = false, decide (s < (0 : Int)) = false, decide (s > (16777215 : Int)) = false, decide ((↑L.length : Int) > (7 : Int)) = false]) rfl rfl (by kernel_rfl) ⟨(decide_eq_false hc1), (decide_eq_false hc2), (decide_eq_false hc3), (decide_eq_false hc4), (decide_eq_false hc5), trivial⟩ rfl ⟨rfl, fun _ => rfl, rfl, rfl, trivial⟩ ?_
              refine Safe.ren [(1100, 20)] rfl rfl rfl rfl ⟨rfl, fun _ => rfl, rfl, rfl, trivial⟩ ?_
            case' ga21 =>
              refine Safe.ends mixed Go.Proofs.Try.func15 13 [⟨1100, []⟩, ⟨1200, [(2, .tt false), (6, .tt false), (11, .tt false), (16, .tt false)]⟩, ⟨1300, [(3, .tt true)]⟩, ⟨1400, []⟩] (r := I ((4 : Int))) (hp := [(1, .ro ((2 : Nat)) (L.length) (rowG encE L))]) (ob := [decide (l < (0 : Int)) = false, decide (l > (8 : Int)) = false, decide (s < (0 : Int)) = false, decide (s > (16777215 : Int)) = false, decide ((↑L.length : Int) > (7 : Int)) = true]) rfl (by kernel_rfl) ⟨(decide_eq_false hc1), (decide_eq_false hc2), (decide_eq_false hc3), (decide_eq_false hc4), (decide_eq_true hc5), trivial⟩ ?_ ⟨ObLe.refl _, trivial⟩ ⟨rfl, fun _ => rfl, trivial⟩ rfl
          case' ga20 =>
            refine Safe.ends mixed Go.Proofs.Try.func15 8 [⟨1100, []⟩, ⟨1200, [(2, .tt false), (6, .tt false), (11, .tt false), (16, .tt true)]⟩, ⟨1300, []⟩] (r := I ((1 : Int))) (hp := [(1, .ro ((2 : Nat)) (L.length) (rowG encE L))]) (ob := [decide (l < (0 : Int)) = false, decide (l > (8 : Int)) = false, decide (s < (0 : Int)) = false, decide (s > (16777215 : Int)) = true]) rfl (by kernel_rfl) ⟨(decide_eq_false hc1), (decide_eq_false hc2), (decide_eq_false hc3), (decide_eq_true hc4), trivial⟩ ?_ ⟨ObLe.refl _, trivial⟩ ⟨rfl, fun _ => rfl, trivial⟩ rfl
        case' ga19 =>
          refine Safe.ends mixed Go.Proofs.Try.func15 8 [⟨1100, []⟩, ⟨1200, [(2, .tt false), (6, .tt false), (11, .tt true)]⟩, ⟨1300, []⟩] (r := I ((1 : Int))) (hp := [(1, .ro ((2 : Nat)) (L.length) (rowG encE L))]) (ob := [decide (l < (0 : Int)) = false, decide (l > (8 : Int)) = false, decide (s < (0 : Int)) = true]) rfl (by kernel_rfl) ⟨(decide_eq_false hc1), (decide_eq_false hc2), (decide_eq_true hc3), trivial⟩ ?_ ⟨ObLe.refl _, trivial⟩ ⟨rfl, fun _ => rfl, trivial⟩ rfl
      case' ga18 =>
        refine Safe.ends mixed Go.Proofs.Try.func15 8 [⟨1100, []⟩, ⟨1200, [(2, .tt false), (6, .tt true)]⟩, ⟨1300, []⟩] (r := I ((1 : Int))) (hp := [(1, .ro ((2 : Nat)) (L.length) (rowG encE L))]) (ob := [decide (l < (0 : Int)) = false, decide (l > (8 : Int)) = true]) rfl (by kernel_rfl) ⟨(decide_eq_false hc1), (decide_eq_true hc2), trivial⟩ ?_ ⟨ObLe.refl _, trivial⟩ ⟨rfl, fun _ => rfl, trivial⟩ rfl
    case' ga17 =>
      refine Safe.ends mixed Go.Proofs.Try.func15 8 [⟨1100, []⟩, ⟨1200, [(2, .tt true)]⟩, ⟨1300, []⟩] (r := I ((1 : Int))) (hp := [(1, .ro ((2 : Nat)) (L.length) (rowG encE L))]) (ob := [decide (l < (0 : Int)) = true]) rfl (by kernel_rfl) ⟨(decide_eq_true hc1), trivial⟩ ?_ ⟨ObLe.refl _, trivial⟩ ⟨rfl, fun _ => rfl, trivial⟩ rfl
    · show I 1 = I _
      rw [hb (by omega)]
    · show I 1 = I _
      rw [hb (by omega)]
    · show I 1 = I _
      rw [hb (by omega)]
    · show I 1 = I _
      rw [hb (by omega)]
    · show I 4 = I _
      rw [hc (by omega) (by omega)]
    · exact H 0 ⟨Nat.zero_le _, by omega, by omega, fun j hj => by omega⟩
end Go.Proofs.Ytonjaghkiaaipaa
