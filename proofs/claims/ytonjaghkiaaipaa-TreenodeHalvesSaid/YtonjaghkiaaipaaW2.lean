/- Headers, checksums and seals of blocks: the program's. No conditions but those of each theorem. -/
import Derived.Test.YtonjaghkiaaipaaSyZ
import Derived.KernelRfl
import Derived.Test.YtonjaghkiaaipaaW1
namespace Go.Proofs.Ytonjaghkiaaipaa
open Go.RowKit
set_option linter.unusedVariables false
set_option linter.unnecessarySimpa false
set_option linter.unusedSimpArgs false
theorem bits_bd (op : BinOp) (x y : Int) : 0 ≤ bitsV op .u64 x y ∧ bitsV op .u64 x y ≤ 18446744073709551615 := by
  have h : ∀ b : BitVec 64, 0 ≤ ((b.toNat : Nat) : Int) ∧ ((b.toNat : Nat) : Int) ≤ 18446744073709551615 := fun b => by have := b.isLt; omega
  unfold bitsV
  split <;> exact h _
theorem nat_mask (x : Int) (h : 0 ≤ x ∧ x ≤ 18446744073709551615) : (BitVec.ofInt 64 x).toNat = x.toNat := by
  rw [BitVec.toNat_ofInt, Int.emod_eq_of_lt (by omega) (by omega)]
theorem and_mod (k : Nat) (hk : k ≤ 32) (x : Int) (h : 0 ≤ x ∧ x ≤ 18446744073709551615) : bitsV .and .u64 x ((2 ^ k - 1 : Nat) : Int) = x % ((2 ^ k : Nat) : Int) := by
  have hp : 2 ^ k ≤ 2 ^ 32 := Nat.pow_le_pow_right (by omega) hk
  have hp0 := Nat.two_pow_pos k
  show (((BitVec.ofInt 64 x &&& BitVec.ofInt 64 ((2 ^ k - 1 : Nat) : Int)).toNat : Nat) : Int) = _
  rw [BitVec.toNat_and, nat_mask x h, nat_mask _ (by omega), Int.toNat_natCast, Nat.and_two_pow_sub_one_eq_mod, Int.natCast_emod, Int.toNat_of_nonneg h.1]
theorem or_add (k : Nat) (a b : Int) (ha : 0 ≤ a ∧ a < ((2 ^ k : Nat) : Int)) (hb : 0 ≤ b) (h : a + ((2 ^ k : Nat) : Int) * b ≤ 18446744073709551615) (ha2 : a ≤ 18446744073709551615) (hb2 : ((2 ^ k : Nat) : Int) * b ≤ 18446744073709551615) : bitsV .or .u64 a (((2 ^ k : Nat) : Int) * b) = a + ((2 ^ k : Nat) : Int) * b := by
  obtain ⟨a, rfl⟩ : ∃ n : Nat, a = n := ⟨a.toNat, by omega⟩
  obtain ⟨b, rfl⟩ : ∃ n : Nat, b = n := ⟨b.toNat, by omega⟩
  have e : ((2 ^ k : Nat) : Int) * (b : Int) = ((2 ^ k * b : Nat) : Int) := by rw [Int.natCast_mul]
  rw [e] at hb2 h ⊢
  show (((BitVec.ofInt 64 (a : Int) ||| BitVec.ofInt 64 ((2 ^ k * b : Nat) : Int)).toNat : Nat) : Int) = _
  rw [BitVec.toNat_or, nat_mask _ (by omega), nat_mask _ (by omega), Int.toNat_natCast, Int.toNat_natCast]
  have := or_shift a b k (by omega)
  rw [Nat.shiftLeft_eq, Nat.mul_comm] at this
  rw [this]
  omega
theorem wrap_mod (z : Int) : IntKind.u64.wrap z = z % 18446744073709551616 := by
  simp [IntKind.wrap, IntKind.bits, IntKind.signed]
theorem wrap_bd (z : Int) : 0 ≤ IntKind.u64.wrap z ∧ IntKind.u64.wrap z ≤ 18446744073709551615 := by
  rw [wrap_mod]; omega
theorem vec_lit {α : Type} [Inhabited α] (ty : Nat) (enc : α → AV) (L : List α) : ObLe (.vec ty 1 L.length (rowsOf (L.map enc) 1)) (.vec ty 1 L.length (rowG (fun x => [enc x]) L)) := ⟨rfl, rfl, rfl, (ob_lit enc L).2.2.2⟩
theorem getD_set {α : Type} [Inhabited α] (L : List α) (i : Nat) (x : α) (q : Nat) (hq : q < L.length) : (L.set i x).getD q default = if q = i then x else L.getD q default := by
  simp only [List.getD_eq_getElem?_getD, List.getElem?_set]
  by_cases e : i = q
  · subst e
    rw [if_pos rfl, if_pos rfl, if_pos hq]; rfl
  · rw [if_neg e, if_neg (fun h => e h.symm)]
theorem ob_setg {α : Type} [Inhabited α] {ty es n i : Nat} {row : Nat → List AV} (enc : α → List AV) (L : List α) (x : α) (r : List AV) (hn : L.length = n) (h : r = enc x) (hr : ∀ q, q < n → row q = enc (L.getD q default)) : ObLe (.vec ty es n (setRow row i r)) (.vec ty es n (rowG enc (L.set i x))) := by
  refine ⟨rfl, rfl, rfl, fun q hq => ?_⟩
  unfold setRow rowG
  rw [getD_set L i x q (by omega)]
  split
  · exact h
  · exact hr q hq
set_option maxRecDepth 10000 in
set_option maxHeartbeats 4000000 in
theorem widths_any : CallOK Try.prog 44 [] [] (.sl 10 0 1 6 none) [(10, some (.vec 3 1 6 (rowG encI wds)))] := by
  refine CallOK.intro Try.call44 Try.func44 rfl rfl trivial ?_
  refine Safe.gotoE mixed 4 [⟨100, []⟩, ⟨200, []⟩] [0] [200] (sl := slotsOf 2 [(0, .sl ((200 : Nat)) ((0 : Nat)) ((1 : Nat)) ((6 : Nat)) (none))]) (hp := [(200, .vec ((3 : Nat)) ((1 : Nat)) ((6 : Nat)) (rowsOf [AV.val (Value.int IntKind.i64 (4 : Int)), AV.val (Value.int IntKind.i64 (4 : Int)), AV.val (Value.int IntKind.i64 (4 : Int)), AV.val (Value.int IntKind.i64 (20 : Int)), AV.val (Value.int IntKind.i64 (16 : Int)), AV.val (Value.int IntKind.i64 (16 : Int))] (1 : Nat)))]) (ob := []) rfl rfl (by kernel_rfl) trivial rfl ⟨rfl, closed_rows rfl, trivial⟩ fun td htd => ?_
  refine Safe.ren [(200, 10)] rfl rfl rfl rfl ⟨rfl, closed_rows rfl, trivial⟩ ?_
  refine Safe.endsT Go.Proofs.Try.func44 htd (r := .sl ((10 : Nat)) ((0 : Nat)) ((1 : Nat)) ((6 : Nat)) (none)) (hp := [(10, .vec ((3 : Nat)) ((1 : Nat)) ((6 : Nat)) (fun q => renL [((200 : Nat), (10 : Nat))] (rowsOf [AV.val (Value.int IntKind.i64 (4 : Int)), AV.val (Value.int IntKind.i64 (4 : Int)), AV.val (Value.int IntKind.i64 (4 : Int)), AV.val (Value.int IntKind.i64 (20 : Int)), AV.val (Value.int IntKind.i64 (16 : Int)), AV.val (Value.int IntKind.i64 (16 : Int))] (1 : Nat) q)))]) (ob := []) rfl (by kernel_rfl) trivial rfl ⟨?_, trivial⟩ ⟨rfl, fun _ => rfl, trivial⟩ rfl
  · exact ⟨rfl, rfl, rfl, fun q hq => match q, hq with | 0, _ | 1, _ | 2, _ | 3, _ | 4, _ | 5, _ => rfl⟩
set_option maxRecDepth 10000 in
set_option maxHeartbeats 4000000 in
theorem flds_any (x : Int) (hx : 0 ≤ x ∧ x ≤ 18446744073709551615) : CallOK Try.prog 41 [U x] [] (.sl 10 0 1 6 none) [(10, some (.vec 38 1 6 (rowG encU (fldF x))))] := by
  refine CallOK.intro Try.call41 Try.func41 rfl rfl trivial ?_
  refine Safe.gotoE mixed 6 [⟨100, []⟩, ⟨200, [(1, .call [] (.sl ((255 : Nat)) ((0 : Nat)) ((1 : Nat)) ((6 : Nat)) (none)) [(255, some (.vec ((3 : Nat)) ((1 : Nat)) ((6 : Nat)) (fun q => renL [((10 : Nat), (255 : Nat))] (rowG encI wds q))))]), (2, .call [255] (.tup [.sl ((260 : Nat)) ((0 : Nat)) ((1 : Nat)) ((6 : Nat)) (none), I ((0 : Int))]) [(260, some (.vec ((38 : Nat)) ((1 : Nat)) ((6 : Nat)) (fun q => renL [((0 : Nat), (255 : Nat)), ((10 : Nat), (260 : Nat))] (rowG encU (fldF x) q))))])]⟩, ⟨300, []⟩] [2] [260] (sl := slotsOf 12 [(2, .sl ((260 : Nat)) ((0 : Nat)) ((1 : Nat)) ((6 : Nat)) (none))]) (hp := [(260, .vec ((38 : Nat)) ((1 : Nat)) ((6 : Nat)) (fun q => renL [((0 : Nat), (255 : Nat)), ((10 : Nat), (260 : Nat))] (rowG encU (fldF x) q)))]) (ob := [CallOK Try.prog (44 : Nat) ([] ++ [] ++ []) [] (AV.sl (255 : Nat) (0 : Nat) (1 : Nat) (6 : Nat) none) [((255 : Nat), some (Ob.vec (3 : Nat) (1 : Nat) (6 : Nat) fun q => renL [((10 : Nat), (255 : Nat))] (rowG encI wds q)))], CallOK Try.prog (53 : Nat) ([] ++ [AV.val (Value.int IntKind.u64 x), AV.sl (255 : Nat) (0 : Nat) (1 : Nat) (6 : Nat) none] ++ []) [((255 : Nat), Ob.vec (3 : Nat) (1 : Nat) (6 : Nat) fun q => renL [((10 : Nat), (255 : Nat))] (rowG encI wds q))] (AV.tup [AV.sl (260 : Nat) (0 : Nat) (1 : Nat) (6 : Nat) none, AV.val (Value.int IntKind.i64 (0 : Int))]) [((260 : Nat), some (Ob.vec (38 : Nat) (1 : Nat) (6 : Nat) fun q => renL [((0 : Nat), (255 : Nat)), ((10 : Nat), (260 : Nat))] (rowG encU (fldF x) q)))]]) rfl rfl (by kernel_rfl) ⟨(CallOK.ren widths_any [(10, 255)] [10] rfl rfl rfl rfl trivial rfl ⟨rfl, fun _ => rfl, trivial⟩), (CallOK.ren (CallOK.own 3 0 rfl rfl rfl (split_any (x) (by first | omega | exact hx))) [(0, 255), (10, 260)] [0, 10] rfl rfl rfl rfl ⟨rfl, fun _ => rfl, trivial⟩ rfl ⟨rfl, fun _ => rfl, rfl, fun _ => rfl, trivial⟩), trivial⟩ rfl ⟨rfl, closed_renN (fun _ => rfl), trivial⟩ fun td htd => ?_
  refine Safe.ren [(260, 10)] rfl rfl rfl rfl ⟨rfl, closed_renN (fun _ => rfl), trivial⟩ ?_
  refine Safe.endsT Go.Proofs.Try.func41 htd (r := .sl ((10 : Nat)) ((0 : Nat)) ((1 : Nat)) ((6 : Nat)) (none)) (hp := [(10, .vec ((38 : Nat)) ((1 : Nat)) ((6 : Nat)) (fun q => renL [((260 : Nat), (10 : Nat))] (renL [((0 : Nat), (255 : Nat)), ((10 : Nat), (260 : Nat))] (rowG encU (fldF x) q))))]) (ob := []) rfl (by kernel_rfl) trivial rfl ⟨?_, trivial⟩ ⟨rfl, fun _ => rfl, trivial⟩ rfl
  · exact ⟨rfl, rfl, rfl, fun _ _ => rfl⟩
/-- a header with another checksum -/
def wsum (h s : Int) : Int := packF ((fldF h).set 4 s)
theorem wsum_eq (h s : Int) (hh : 0 ≤ h ∧ h ≤ 18446744073709551615) : wsum h s = h % 4294967296 + 4294967296 * s + 281474976710656 * (h / 281474976710656) := by
  show h % 16 + 16 * (h / 16 % 16) + 256 * (h / 256 % 16) + 4096 * (h / 4096 % 1048576) + 4294967296 * s + 281474976710656 * (h / 281474976710656 % 65536) = _
  omega
theorem set_fits (h s : Int) (hs : 0 ≤ s ∧ s < 65536) : Fits ((fldF h).set 4 s) := by
  refine ⟨rfl, ?_, ?_, ?_, ?_, hs, ?_⟩
  · show 0 ≤ h % 16 ∧ h % 16 < 16; omega
  · show 0 ≤ h / 16 % 16 ∧ h / 16 % 16 < 16; omega
  · show 0 ≤ h / 256 % 16 ∧ h / 256 % 16 < 16; omega
  · show 0 ≤ h / 4096 % 1048576 ∧ h / 4096 % 1048576 < 1048576; omega
  · show 0 ≤ h / 281474976710656 % 65536 ∧ h / 281474976710656 % 65536 < 65536; omega
theorem wsum_bd (h s : Int) (hh : 0 ≤ h ∧ h ≤ 18446744073709551615) (hs : 0 ≤ s ∧ s < 65536) : 0 ≤ wsum h s ∧ wsum h s ≤ 18446744073709551615 := by
  rw [wsum_eq h s hh]; omega
set_option maxRecDepth 10000 in
set_option maxHeartbeats 4000000 in
theorem withSum_any (h s : Int) (hh : 0 ≤ h ∧ h ≤ 18446744073709551615) (hs : 0 ≤ s ∧ s < 65536) : CallOK Try.prog 43 [U h, U s] [] (U (wsum h s)) [] := by
  refine CallOK.intro Try.call43 Try.func43 rfl rfl trivial ?_
  have hf := set_fits h s hs
  have q := fields_any ((fldF h).set 4 s) hf
  refine Safe.gotoS mixed 7 [⟨100, []⟩, ⟨200, [(1, .call [] (.sl ((255 : Nat)) ((0 : Nat)) ((1 : Nat)) ((6 : Nat)) (none)) [(255, some (.vec ((38 : Nat)) ((1 : Nat)) ((6 : Nat)) (fun q => renL [((10 : Nat), (255 : Nat))] (rowG encU (fldF h) q))))])]⟩, ⟨300, []⟩] [0, 1, 4, 5, 8, 9, 10, 11, 12] [255] (sl := slotsOf 20 [(0, .val (Value.int IntKind.u64 h)), (1, .val (Value.int IntKind.u64 s)), (4, .val (Value.int IntKind.u64 (0 : Int))), (5, .sl ((255 : Nat)) ((0 : Nat)) ((1 : Nat)) ((6 : Nat)) (none)), (8, .val (Value.int IntKind.u64 h)), (9, .sl ((255 : Nat)) ((0 : Nat)) ((1 : Nat)) ((6 : Nat)) (none)), (10, .sl ((255 : Nat)) ((0 : Nat)) ((1 : Nat)) ((6 : Nat)) (none)), (11, .val (Value.int IntKind.u64 s)), (12, .ptr ((255 : Nat)) ((4 : Nat)) ((1 : Nat)) ((0 : Nat)))]) (hp := [(255, .vec ((38 : Nat)) ((1 : Nat)) ((6 : Nat)) (setRow (fun q => renL [((10 : Nat), (255 : Nat))] (rowG encU (fldF h) q)) (4 : Nat) [AV.val (Value.int IntKind.u64 s)]))]) (ob := [CallOK Try.prog (41 : Nat) ([] ++ [AV.val (Value.int IntKind.u64 h)] ++ []) [] (AV.sl (255 : Nat) (0 : Nat) (1 : Nat) (6 : Nat) none) [((255 : Nat), some (Ob.vec (38 : Nat) (1 : Nat) (6 : Nat) fun q => renL [((10 : Nat), (255 : Nat))] (rowG encU (fldF h) q)))], (0 : Int) ≤ (4 : Int) ∧ (4 : Int) < (↑(6 : Nat) : Int), (4 : Nat) < (6 : Nat)]) rfl rfl (by kernel_rfl) ⟨(CallOK.ren (flds_any (h) (by first | omega | exact hh)) [(10, 255)] [10] rfl rfl rfl rfl trivial rfl ⟨rfl, fun _ => rfl, trivial⟩), (by first | omega | exact hh), (by first | omega | exact hh), trivial⟩ rfl ⟨rfl, closed_set (closed_renN (fun _ => rfl)) rfl, trivial⟩ ?_
  refine Safe.leH (?_ : Safe _ _ _ _ _ _ ⟨slotsOf 20 [(5, .sl 255 0 1 6 none)], [(255, .vec 38 1 6 (rowG encU ((fldF h).set 4 s)))]⟩ [255]) rfl ?_ ⟨ob_setg encU (fldF h) s _ rfl rfl (fun _ _ => rfl), trivial⟩ rfl ⟨rfl, fun _ => rfl, trivial⟩
  · skip
    refine Safe.ends mixed Go.Proofs.Try.func43 3 [⟨1100, [(0, .call [] (.sl ((1150 : Nat)) ((0 : Nat)) ((1 : Nat)) ((6 : Nat)) (none)) [(1150, some (.vec ((3 : Nat)) ((1 : Nat)) ((6 : Nat)) (fun q => renL [((10 : Nat), (1150 : Nat))] (rowG encI wds q))))]), (2, .call [1150, 255] (.tup [.val (Value.int IntKind.u64 (packF ((fldF h).set (4 : Nat) s))), I ((0 : Int))]) [])]⟩, ⟨1200, []⟩] (r := .val (Value.int IntKind.u64 (packF ((fldF h).set (4 : Nat) s)))) (hp := []) (ob := [CallOK Try.prog (44 : Nat) ([] ++ [] ++ []) [] (AV.sl (1150 : Nat) (0 : Nat) (1 : Nat) (6 : Nat) none) [((1150 : Nat), some (Ob.vec (3 : Nat) (1 : Nat) (6 : Nat) fun q => renL [((10 : Nat), (1150 : Nat))] (rowG encI wds q)))], CallOK Try.prog (45 : Nat) ([] ++ [AV.sl (1150 : Nat) (0 : Nat) (1 : Nat) (6 : Nat) none, AV.sl (255 : Nat) (0 : Nat) (1 : Nat) (6 : Nat) none] ++ []) [((1150 : Nat), Ob.vec (3 : Nat) (1 : Nat) (6 : Nat) fun q => renL [((10 : Nat), (1150 : Nat))] (rowG encI wds q)), ((255 : Nat), Ob.vec (38 : Nat) (1 : Nat) (6 : Nat) (rowG encU ((fldF h).set (4 : Nat) s)))] (AV.tup [AV.val (Value.int IntKind.u64 (packF ((fldF h).set (4 : Nat) s))), AV.val (Value.int IntKind.i64 (0 : Int))]) []]) rfl (by kernel_rfl) ⟨(CallOK.ren widths_any [(10, 1150)] [10] rfl rfl rfl rfl trivial rfl ⟨rfl, fun _ => rfl, trivial⟩), (CallOK.ren (CallOK.own 38 1 rfl rfl rfl (CallOK.own 3 0 rfl rfl rfl q)) [(0, 1150), (1, 255)] [0, 1] rfl rfl rfl rfl ⟨rfl, fun _ => rfl, rfl, fun _ => rfl, trivial⟩ rfl ⟨rfl, fun _ => rfl, rfl, fun _ => rfl, trivial⟩), trivial⟩ ?_ trivial trivial rfl
    · exact rfl
  · repeat (first | exact ⟨rfl, trivial⟩ | refine ⟨rfl, ?_⟩ | refine ⟨trivial, ?_⟩ | exact trivial)
set_option maxRecDepth 10000 in
set_option maxHeartbeats 4000000 in
theorem cloneU_any (L : List Int) (hl : L.length ≤ 1000000) : CallOK Try.prog 54 [.sl 0 0 1 L.length none] [(0, .ro 1 L.length (rowG encU L))] (.sl 10 0 1 L.length none) [(10, some (.vec 38 1 L.length (rowG encU L)))] := by
  refine CallOK.intro Try.call54 Try.func54 rfl rfl ⟨rfl, fun _ => rfl, trivial⟩ ?_
  refine Safe.goto mixed 5 [⟨1100, []⟩, ⟨1200, []⟩] [0, 4] [0] (todo' := skipTo 5 (bodyOf Try.f54)) (sl := slotsOf 8 [(0, .sl 0 0 1 L.length none), (4, .anyB (L.length = 0) True)]) (hp := [(0, .ro 1 L.length (rowG encU L))]) (ob := []) rfl rfl (by kernel_rfl) trivial rfl ⟨rfl, fun _ => rfl, trivial⟩ ?_
  refine Safe.any 4 rfl (fun h0 => ?_) (fun _ => ?_)
  · skip
    refine Safe.gotoE mixed 3 [⟨1100, []⟩] [2] [0] (sl := slotsOf 8 [(2, .val (Value.slice none (0 : Nat) (0 : Nat)))]) (hp := [(0, .ro ((1 : Nat)) (L.length) (rowG encU L))]) (ob := []) rfl rfl (by kernel_rfl) trivial rfl ⟨rfl, fun _ => rfl, trivial⟩ fun td htd => ?_
    refine Safe.nil 2 10 38 1 (fun _ => []) rfl rfl ⟨rfl, fun _ => rfl, trivial⟩ ?_ rfl
    refine Safe.endsT Go.Proofs.Try.func54 htd (r := .sl ((10 : Nat)) ((0 : Nat)) ((1 : Nat)) ((0 : Nat)) (none)) (hp := [(0, .ro ((1 : Nat)) (L.length) (rowG encU L)), (10, .vec ((38 : Nat)) ((1 : Nat)) ((0 : Nat)) (fun q => []))]) (ob := []) rfl (by kernel_rfl) trivial ?_ ⟨ObLe.refl _, ?_, trivial⟩ ⟨rfl, fun _ => rfl, rfl, fun _ => rfl, trivial⟩ rfl
    · rw [h0]; rfl
    · exact ⟨rfl, rfl, h0.symm, fun q hq => by omega⟩
  · skip
    refine Safe.gotoE mixed 4 [⟨1100, []⟩] [2] [0, 1102] (sl := slotsOf 8 [(2, .sl ((1102 : Nat)) ((0 : Nat)) ((1 : Nat)) (L.length) (none))]) (hp := [(0, .ro ((1 : Nat)) (L.length) (rowG encU L)), (1102, .vec ((38 : Nat)) ((1 : Nat)) (L.length) (rowG encU L))]) (ob := [(0 : Nat) + L.length ≤ L.length, (0 : Nat) = (0 : Nat), (0 : Nat) + L.length ≤ (1099511627776 : Nat)]) rfl rfl (by kernel_rfl) ⟨(by omega), (by omega), (by omega), trivial⟩ rfl ⟨rfl, fun _ => rfl, rfl, fun _ => rfl, trivial⟩ fun td htd => ?_
    refine Safe.ren [(1102, 10)] rfl rfl rfl rfl ⟨rfl, fun _ => rfl, rfl, fun _ => rfl, trivial⟩ ?_
    refine Safe.endsT Go.Proofs.Try.func54 htd (r := .sl ((10 : Nat)) ((0 : Nat)) ((1 : Nat)) (L.length) (none)) (hp := [(0, .ro ((1 : Nat)) (L.length) (fun q => renL [((1102 : Nat), (10 : Nat))] (rowG encU L q))), (10, .vec ((38 : Nat)) ((1 : Nat)) (L.length) (fun q => renL [((1102 : Nat), (10 : Nat))] (rowG encU L q)))]) (ob := []) rfl (by kernel_rfl) trivial rfl ⟨⟨rfl, rfl, fun _ _ => rfl⟩, ⟨rfl, rfl, rfl, fun _ _ => rfl⟩, trivial⟩ ⟨rfl, fun _ => rfl, rfl, fun _ => rfl, trivial⟩ rfl
/-- the checksum of a block's words -/
def sumF (L : List Int) : Int := shortF (sumW (L.set 0 (wsum (L.getD 0 default) 0)))
theorem sumF_bd (L : List Int) : 0 ≤ sumF L ∧ sumF L ≤ 65535 := shortF_bd _ (sumW_bd _)
theorem Wf.set {L : List Int} (h : Wf L) (i : Nat) {x : Int} (hx : 0 ≤ x ∧ x ≤ 18446744073709551615) : Wf (L.set i x) := fun y hy => by
  rcases List.mem_or_eq_of_mem_set hy with h1 | h1
  · exact h y h1
  · rw [h1]; exact hx
set_option maxRecDepth 10000 in
set_option maxHeartbeats 4000000 in
theorem sumOf_any (L : List Int) (hw : Wf L) (hl : L.length = 16) : CallOK Try.prog 42 [.sl 0 0 1 L.length none] [(0, .ro 1 L.length (rowG encU L))] (U (sumF L)) [] := by
  refine CallOK.intro Try.call42 Try.func42 rfl rfl ⟨rfl, fun _ => rfl, trivial⟩ ?_
  have h0 := hw.at 0
  have hb := wsum_bd _ 0 h0 (by omega)
  have q1 := cloneU_any L (by omega)
  have q2 := withSum_any _ 0 h0 (by omega)
  have q3 := words_any (L.set 0 (wsum (L.getD 0 default) 0)) (hw.set 0 hb) (by rw [List.length_set]; omega)
  have q4 := short_any _ (sumW_bd (L.set 0 (wsum (L.getD 0 default) 0)))
  have e16 : (L.set 0 (wsum (L.getD 0 default) 0)).length = L.length := List.length_set
  rw [e16] at q3
  refine Safe.gotoS mixed 7 [⟨1100, []⟩, ⟨1200, [(1, .call [0] (.sl ((1255 : Nat)) ((0 : Nat)) ((1 : Nat)) (L.length) (none)) [(1255, some (.vec ((38 : Nat)) ((1 : Nat)) (L.length) (fun q => renL [((0 : Nat), (0 : Nat)), ((10 : Nat), (1255 : Nat))] (rowG encU L q))))])]⟩, ⟨1300, [(4, .call [] (.val (Value.int IntKind.u64 (wsum (L.getD (0 : Nat) default) (0 : Int)))) [])]⟩] [0, 2, 3, 4, 5, 6, 7, 8, 9, 10, 11] [0, 1255] (sl := slotsOf 16 [(0, .sl ((0 : Nat)) ((0 : Nat)) ((1 : Nat)) (L.length) (none)), (2, .val (Value.int IntKind.u64 (0 : Int))), (3, .sl ((1255 : Nat)) ((0 : Nat)) ((1 : Nat)) (L.length) (none)), (4, .sl ((0 : Nat)) ((0 : Nat)) ((1 : Nat)) (L.length) (none)), (5, .sl ((1255 : Nat)) ((0 : Nat)) ((1 : Nat)) (L.length) (none)), (6, .sl ((1255 : Nat)) ((0 : Nat)) ((1 : Nat)) (L.length) (none)), (7, .sl ((1255 : Nat)) ((0 : Nat)) ((1 : Nat)) (L.length) (none)), (8, .ptr ((1255 : Nat)) ((0 : Nat)) ((1 : Nat)) ((0 : Nat))), (9, .val (Value.int IntKind.u64 (L.getD (0 : Nat) default))), (10, .val (Value.int IntKind.u64 (wsum (L.getD (0 : Nat) default) (0 : Int)))), (11, .ptr ((1255 : Nat)) ((0 : Nat)) ((1 : Nat)) ((0 : Nat)))]) (hp := [(0, .ro ((1 : Nat)) (L.length) (rowG encU L)), (1255, .vec ((38 : Nat)) ((1 : Nat)) (L.length) (setRow (fun q => renL [((0 : Nat), (0 : Nat)), ((10 : Nat), (1255 : Nat))] (rowG encU L q)) (0 : Nat) [AV.val (Value.int IntKind.u64 (wsum (L.getD (0 : Nat) default) (0 : Int)))]))]) (ob := [CallOK Try.prog (54 : Nat) ([] ++ [AV.sl (0 : Nat) (0 : Nat) (1 : Nat) L.length none] ++ []) [((0 : Nat), Ob.ro (1 : Nat) L.length (rowG encU L))] (AV.sl (1255 : Nat) (0 : Nat) (1 : Nat) L.length none) [((1255 : Nat), some (Ob.vec (38 : Nat) (1 : Nat) L.length fun q => renL [((0 : Nat), (0 : Nat)), ((10 : Nat), (1255 : Nat))] (rowG encU L q)))], (0 : Int) ≤ (0 : Int) ∧ (0 : Int) < (↑L.length : Int), (0 : Nat) < L.length, CallOK Try.prog (43 : Nat) ([] ++ [AV.val (Value.int IntKind.u64 (L.getD (0 : Nat) default)), ofV (Value.int IntKind.u64 (0 : Int))] ++ []) [] (AV.val (Value.int IntKind.u64 (wsum (L.getD (0 : Nat) default) (0 : Int)))) [], (0 : Int) ≤ (0 : Int) ∧ (0 : Int) < (↑L.length : Int), (0 : Nat) < L.length]) rfl rfl (by kernel_rfl) ⟨(CallOK.ren q1 [(0, 0), (10, 1255)] [0, 10] rfl rfl rfl rfl ⟨rfl, fun _ => rfl, trivial⟩ rfl ⟨rfl, fun _ => rfl, rfl, fun _ => rfl, trivial⟩), (by omega), (by omega), q2, (by omega), (by omega), trivial⟩ rfl ⟨rfl, fun _ => rfl, rfl, closed_set (closed_renN (fun _ => rfl)) rfl, trivial⟩ ?_
  refine Safe.leH (?_ : Safe _ _ _ _ _ _ ⟨slotsOf 16 [(3, .sl 1255 0 1 L.length none)], [(0, .ro 1 L.length (rowG encU L)), (1255, .vec 38 1 L.length (rowG encU (L.set 0 (wsum (L.getD 0 default) 0))))]⟩ [0, 1255]) rfl ?_ ⟨ObLe.refl _, ob_setg encU L _ _ rfl rfl (fun _ _ => rfl), trivial⟩ rfl ⟨rfl, fun _ => rfl, rfl, fun _ => rfl, trivial⟩
  · skip
    refine Safe.ends mixed Go.Proofs.Try.func42 1 [⟨2100, [(1, .call [1255] (.val (Value.int IntKind.u32 (sumW (L.set (0 : Nat) (wsum (L.getD (0 : Nat) default) (0 : Int)))))) []), (2, .call [] (.val (Value.int IntKind.u16 (shortF (sumW (L.set (0 : Nat) (wsum (L.getD (0 : Nat) default) (0 : Int))))))) [])]⟩] (r := .val (Value.int IntKind.u64 (shortF (sumW (L.set (0 : Nat) (wsum (L.getD (0 : Nat) default) (0 : Int))))))) (hp := [(0, .ro ((1 : Nat)) (L.length) (rowG encU L))]) (ob := [CallOK Try.prog (56 : Nat) ([] ++ [AV.sl (1255 : Nat) (0 : Nat) (1 : Nat) L.length none] ++ []) [((1255 : Nat), Ob.vec (38 : Nat) (1 : Nat) L.length (rowG encU (L.set (0 : Nat) (wsum (L.getD (0 : Nat) default) (0 : Int)))))] (AV.val (Value.int IntKind.u32 (sumW (L.set (0 : Nat) (wsum (L.getD (0 : Nat) default) (0 : Int)))))) [], CallOK Try.prog (55 : Nat) ([] ++ [AV.val (Value.int IntKind.u32 (sumW (L.set (0 : Nat) (wsum (L.getD (0 : Nat) default) (0 : Int)))))] ++ []) [] (AV.val (Value.int IntKind.u16 (shortF (sumW (L.set (0 : Nat) (wsum (L.getD (0 : Nat) default) (0 : Int))))))) [], inK IntKind.u64 (shortF (sumW (L.set (0 : Nat) (wsum (L.getD (0 : Nat) default) (0 : Int)))))]) rfl (by kernel_rfl) ⟨(CallOK.ren (CallOK.own 38 0 rfl rfl rfl q3) [(0, 1255)] [0] rfl rfl rfl rfl ⟨rfl, fun _ => rfl, trivial⟩ rfl ⟨rfl, fun _ => rfl, trivial⟩), q4, (by simp only [inK]; first | omega | (have := shortF_bd _ (sumW_bd (L.set 0 (wsum (L.getD 0 default) 0))); omega)), trivial⟩ ?_ ⟨ObLe.refl _, trivial⟩ ⟨rfl, fun _ => rfl, trivial⟩ rfl
    · exact rfl
  · repeat (first | exact ⟨rfl, trivial⟩ | refine ⟨rfl, ?_⟩ | refine ⟨trivial, ?_⟩ | exact trivial)
/-- sixteen words, filled up with zeros -/
def padF (L : List Int) : List Int := (L.take 16) ++ List.replicate (16 - L.length) 0
theorem padF_len (L : List Int) : (padF L).length = 16 := by simp [padF]; omega
theorem padF_wf {L : List Int} (h : Wf L) : Wf (padF L) := fun x hx => by
  rcases List.mem_append.1 hx with h1 | h1
  · exact h x (List.mem_of_mem_take h1)
  · rw [List.eq_of_mem_replicate h1]; decide
theorem padF_at (L : List Int) (q : Nat) (hq : q < 16) : (padF L).getD q default = if q < L.length then L.getD q default else 0 := by
  simp only [padF, List.getD_eq_getElem?_getD, List.getElem?_append, List.length_take]
  by_cases h : q < L.length
  · rw [if_pos (by omega), if_pos h, List.getElem?_take_of_lt hq]
  · rw [if_neg (by omega), if_neg h, List.getElem?_replicate, if_pos (by omega)]; rfl
/-- the words with their checksum -/
def sealF (L : List Int) : List Int := (padF L).set 0 (wsum ((padF L).getD 0 default) (sumF (padF L)))
theorem sealF_len (L : List Int) : (sealF L).length = 16 := by rw [sealF, List.length_set, padF_len]
theorem sealF_wf {L : List Int} (h : Wf L) : Wf (sealF L) := (padF_wf h).set 0 (wsum_bd _ _ ((padF_wf h).at 0) (by have := sumF_bd (padF L); omega))
set_option maxRecDepth 10000 in
set_option maxHeartbeats 4000000 in
theorem seal_any (L : List Int) (hw : Wf L) (hl : L.length ≤ 1000000) : CallOK Try.prog 28 [.sl 0 0 1 L.length none] [(0, .ro 1 L.length (rowG encU L))] (.sl 10 0 1 16 none) [(10, some (.vec 38 1 16 (rowG encU (sealF L))))] := by
  refine CallOK.intro Try.call28 Try.func28 rfl rfl ⟨rfl, fun _ => rfl, trivial⟩ ?_
  have h0 := (padF_wf hw).at 0
  have hs := sumF_bd (padF L)
  have q1 := sumOf_any (padF L) (padF_wf hw) (padF_len L)
  have q2 := withSum_any _ (sumF (padF L)) h0 (by omega)
  rw [padF_len] at q1
  refine Safe.gotoS mixed 7 [⟨1100, []⟩, ⟨1200, []⟩, ⟨1300, []⟩] [0, 2, 3, 4, 5, 6, 7] [0, 1200] (sl := slotsOf 17 [(0, .sl ((0 : Nat)) ((0 : Nat)) ((1 : Nat)) (L.length) (none)), (2, .val (Value.slice none (0 : Nat) (0 : Nat))), (3, .sl ((1200 : Nat)) ((0 : Nat)) ((1 : Nat)) ((16 : Nat)) (none)), (4, .sl ((1200 : Nat)) ((0 : Nat)) ((1 : Nat)) ((16 : Nat)) (none)), (5, .sl ((1200 : Nat)) ((0 : Nat)) ((1 : Nat)) ((16 : Nat)) (none)), (6, .sl ((0 : Nat)) ((0 : Nat)) ((1 : Nat)) (L.length) (none)), (7, I ((↑(min (16 : Nat) L.length) : Int)))]) (hp := [(0, .ro ((1 : Nat)) (L.length) (rowG encU L)), (1200, .vec ((38 : Nat)) ((1 : Nat)) ((16 : Nat)) (copyRow (fun x => List.map AV.val (Value.int IntKind.u64 (0 : Int)).cells.toList) (0 : Nat) (min (16 : Nat) L.length) (rowG encU L)))]) (ob := [(0 : Int) ≤ (16 : Int) ∧ (16 : Int) ≤ (16 : Int) ∧ (16 : Int) ≤ (1099511627776 : Int), (0 : Nat) + L.length ≤ L.length, (0 : Nat) + min (16 : Nat) L.length ≤ (16 : Nat)]) rfl rfl (by kernel_rfl) ⟨(by omega), (by omega), (by omega), trivial⟩ rfl ⟨rfl, fun _ => rfl, rfl, closed_copy (fun _ => rfl) (fun _ => rfl), trivial⟩ ?_
  refine Safe.leH (?_ : Safe _ _ _ _ _ _ ⟨slotsOf 17 [(3, .sl 1200 0 1 16 none)], [(0, .ro 1 L.length (rowG encU L)), (1200, .vec 38 1 16 (rowG encU (padF L)))]⟩ [0, 1200]) rfl ?_ ⟨ObLe.refl _, ⟨rfl, rfl, rfl, fun q hq => ?_⟩, trivial⟩ rfl ⟨rfl, fun _ => rfl, rfl, fun _ => rfl, trivial⟩
  · skip
    refine Safe.gotoE mixed 3 [⟨2100, [(5, .call [1200] (.val (Value.int IntKind.u64 (sumF (padF L)))) []), (6, .call [] (.val (Value.int IntKind.u64 (wsum ((padF L).getD (0 : Nat) default) (sumF (padF L))))) [])]⟩, ⟨2200, []⟩] [2] [0, 1200] (sl := slotsOf 17 [(2, .sl ((1200 : Nat)) ((0 : Nat)) ((1 : Nat)) ((16 : Nat)) (none))]) (hp := [(0, .ro ((1 : Nat)) (L.length) (rowG encU L)), (1200, .vec ((38 : Nat)) ((1 : Nat)) ((16 : Nat)) (setRow (rowG encU (padF L)) (0 : Nat) [AV.val (Value.int IntKind.u64 (wsum ((padF L).getD (0 : Nat) default) (sumF (padF L))))]))]) (ob := [(0 : Int) ≤ (0 : Int) ∧ (0 : Int) < (↑(16 : Nat) : Int), (0 : Nat) < (16 : Nat), CallOK Try.prog (42 : Nat) ([] ++ [AV.sl (1200 : Nat) (0 : Nat) (1 : Nat) (16 : Nat) none] ++ []) [((1200 : Nat), Ob.vec (38 : Nat) (1 : Nat) (16 : Nat) (rowG encU (padF L)))] (AV.val (Value.int IntKind.u64 (sumF (padF L)))) [], CallOK Try.prog (43 : Nat) ([] ++ [AV.val (Value.int IntKind.u64 ((padF L).getD (0 : Nat) default)), AV.val (Value.int IntKind.u64 (sumF (padF L)))] ++ []) [] (AV.val (Value.int IntKind.u64 (wsum ((padF L).getD (0 : Nat) default) (sumF (padF L))))) [], (0 : Int) ≤ (0 : Int) ∧ (0 : Int) < (↑(16 : Nat) : Int), (0 : Nat) < (16 : Nat)]) rfl rfl (by kernel_rfl) ⟨(by omega), (by omega), (CallOK.ren (CallOK.own 38 0 rfl rfl rfl q1) [(0, 1200)] [0] rfl rfl rfl rfl ⟨rfl, fun _ => rfl, trivial⟩ rfl ⟨rfl, fun _ => rfl, trivial⟩), q2, (by omega), (by omega), trivial⟩ rfl ⟨rfl, fun _ => rfl, rfl, closed_set (fun _ => rfl) rfl, trivial⟩ fun td htd => ?_
    refine Safe.ren [(1200, 10)] rfl rfl rfl rfl ⟨rfl, fun _ => rfl, rfl, closed_set (fun _ => rfl) rfl, trivial⟩ ?_
    refine Safe.endsT Go.Proofs.Try.func28 htd (r := .sl ((10 : Nat)) ((0 : Nat)) ((1 : Nat)) ((16 : Nat)) (none)) (hp := [(0, .ro ((1 : Nat)) (L.length) (fun q => renL [((1200 : Nat), (10 : Nat))] (rowG encU L q))), (10, .vec ((38 : Nat)) ((1 : Nat)) ((16 : Nat)) (fun q => renL [((1200 : Nat), (10 : Nat))] (setRow (rowG encU (padF L)) (0 : Nat) [AV.val (Value.int IntKind.u64 (wsum ((padF L).getD (0 : Nat) default) (sumF (padF L))))] q)))]) (ob := []) rfl (by kernel_rfl) trivial rfl ⟨⟨rfl, rfl, fun _ _ => rfl⟩, ?_, trivial⟩ ⟨rfl, fun _ => rfl, rfl, fun _ => rfl, trivial⟩ rfl
    · refine ⟨rfl, rfl, rfl, fun q hq => ?_⟩
      have hq : q < 16 := hq
      show renL _ (setRow _ 0 _ q) = encU ((sealF L).getD q default)
      rw [sealF, getD_set _ _ _ _ (by rw [padF_len]; exact hq)]
      unfold setRow
      split <;> rfl
  · repeat (first | exact ⟨rfl, trivial⟩ | refine ⟨rfl, ?_⟩ | refine ⟨trivial, ?_⟩ | exact trivial)
  · show copyRow _ _ _ _ q = encU _
    rw [padF_at L q hq]
    unfold copyRow
    by_cases h : q < L.length
    · rw [if_pos ⟨Nat.zero_le _, by omega⟩, if_pos h]
      rfl
    · rw [if_neg (by omega), if_neg h]
      rfl
end Go.Proofs.Ytonjaghkiaaipaa
