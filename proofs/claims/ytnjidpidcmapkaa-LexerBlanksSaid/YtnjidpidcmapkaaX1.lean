/- Bytes: lists of numbers as strings; digits, letters, plain bytes; the first place of a byte. No conditions but those of each theorem. -/
import Derived.Test.YtnjidpidcmapkaaSyZ
import Derived.KernelRfl
import Derived.Test.YtnjidpidcmapkaaX0
import Derived.Lib.Bytealg
namespace Go.Proofs.Ytnjidpidcmapkaa
open Go.RowKit
set_option linter.unusedVariables false
set_option linter.unnecessarySimpa false
set_option linter.unusedSimpArgs false
abbrev U8 (z : Int) : AV := .val (.int .u8 z)
/-- the string of some bytes -/
def str (l : List Int) : ByteArray := ⟨(l.map fun n => UInt8.ofNat n.toNat).toArray⟩
def Bts (l : List Int) : Prop := ∀ z ∈ l, 0 ≤ z ∧ z < 256
theorem Bts.app {a b : List Int} (h : Bts a) (k : Bts b) : Bts (a ++ b) := fun z hz => (List.mem_append.1 hz).elim (h z) (k z)
theorem Bts.cons {a : Int} {b : List Int} (h : 0 ≤ a ∧ a < 256) (k : Bts b) : Bts (a :: b) := fun z hz => (List.mem_cons.1 hz).elim (fun e => e ▸ h) (k z)
theorem Bts.drop {a : List Int} (h : Bts a) (n : Nat) : Bts (a.drop n) := fun z hz => h z (List.mem_of_mem_drop hz)
theorem Bts.take {a : List Int} (h : Bts a) (n : Nat) : Bts (a.take n) := fun z hz => h z (List.mem_of_mem_take hz)
theorem Bts.at {a : List Int} (h : Bts a) (k : Nat) : 0 ≤ a.getD k 0 ∧ a.getD k 0 < 256 := by
  rw [List.getD_eq_getElem?_getD]
  cases e : a[k]? with
  | none => simp
  | some z => exact h z (List.mem_of_getElem? e)
theorem str_size (l : List Int) : (str l).size = l.length := by simp [str, ByteArray.size]
theorem u8_back {z : Int} (h : 0 ≤ z ∧ z < 256) : ((UInt8.ofNat z.toNat).toNat : Int) = z := by
  have : z.toNat % 256 = z.toNat := Nat.mod_eq_of_lt (by omega)
  rw [UInt8.toNat_ofNat', this]
  omega
theorem str_byte {l : List Int} (h : Bts l) (k : Nat) : byteAt (str l) k = l.getD k 0 := by
  unfold byteAt str
  rw [List.getD_eq_getElem?_getD]
  simp only [List.getElem?_map]
  cases e : l[k]? with
  | none => rfl
  | some z => exact u8_back (h z (List.mem_of_getElem? e))
theorem str_app (a b : List Int) : str a ++ str b = str (a ++ b) := by
  apply ByteArray.ext
  simp [str]
theorem str_extract (l : List Int) (i j : Nat) : (str l).extract i j = str ((l.take j).drop i) := by
  apply ByteArray.ext
  simp only [str, ByteArray.data_extract, List.extract_toArray, List.extract_eq_take_drop, List.map_take, List.map_drop]
  congr 1
  exact (List.drop_take ..).symm
theorem str_inj {a b : List Int} (ha : Bts a) (hb : Bts b) (h : str a = str b) : a = b := by
  have hl : a.length = b.length := by rw [← str_size, ← str_size, h]
  apply List.ext_getElem hl
  intro k h1 h2
  have e := str_byte ha k
  rw [h, str_byte hb k] at e
  simpa [List.getD_eq_getElem?_getD, h1, h2] using e.symm
theorem str_eq {a b : List Int} (ha : Bts a) (hb : Bts b) : str a = str b ↔ a = b := ⟨str_inj ha hb, fun e => by rw [e]⟩
theorem of_str (t : ByteArray) : ∃ l, Bts l ∧ t = str l := by
  refine ⟨t.data.toList.map fun b => (b.toNat : Int), fun z hz => ?_, ?_⟩
  · obtain ⟨b, _, rfl⟩ := List.mem_map.1 hz
    have := b.toNat_lt
    omega
  · apply ByteArray.ext
    simp [str, List.map_map, Function.comp_def]
def isD (b : Int) : Bool := decide (48 ≤ b ∧ b ≤ 57)
def isW (b : Int) : Bool := decide ((97 ≤ b ∧ b ≤ 122) ∨ (65 ≤ b ∧ b ≤ 90) ∨ (48 ≤ b ∧ b ≤ 57) ∨ b = 95 ∨ b = 46 ∨ b = 43 ∨ b = 45)
def isP (b : Int) : Bool := decide (32 ≤ b ∧ b ≤ 126)
set_option maxRecDepth 10000 in
set_option maxHeartbeats 4000000 in
theorem isDigit_any (b : Int) : CallOK Try.prog 49 [U8 b] [] (B (isD b)) [] := by
  refine CallOK.intro Try.call49 Try.func49 rfl rfl trivial ?_
  unfold isD
  refine (Classical.em (b ≥ (48 : Int))).elim (fun hc1 => ?ga0) (fun hc1 => ?gb0)
  case' gb0 =>
    refine Safe.ends mixed Go.Proofs.Try.func49 4 [⟨100, []⟩, ⟨200, [(1, .tt false)]⟩] (r := B (false)) (hp := []) (ob := [decide (b ≥ (48 : Int)) = false]) rfl (by kernel_rfl) ⟨(decide_eq_false hc1), trivial⟩ ?_ trivial trivial rfl
  case' ga0 =>
    refine Safe.ends mixed Go.Proofs.Try.func49 4 [⟨100, []⟩, ⟨200, [(1, .tt true)]⟩] (r := B (decide (b ≤ (57 : Int)))) (hp := []) (ob := [decide (b ≥ (48 : Int)) = true]) rfl (by kernel_rfl) ⟨(decide_eq_true hc1), trivial⟩ ?_ trivial trivial rfl
  all_goals first | exact congrArg B (decide_eq_decide.2 (by omega)) | exact congrArg B (decide_eq_false (by omega)).symm
set_option maxRecDepth 10000 in
set_option maxHeartbeats 4000000 in
theorem rdigit_any (b : Int) : CallOK Try.prog 48 [U8 b] [] (B (isD b)) [] := by
  refine CallOK.intro Try.call48 Try.func48 rfl rfl trivial ?_
  unfold isD
  refine (Classical.em (b ≥ (48 : Int))).elim (fun hc1 => ?ga1) (fun hc1 => ?gb1)
  case' gb1 =>
    refine Safe.ends mixed Go.Proofs.Try.func48 4 [⟨100, []⟩, ⟨200, [(1, .tt false)]⟩] (r := B (false)) (hp := []) (ob := [decide (b ≥ (48 : Int)) = false]) rfl (by kernel_rfl) ⟨(decide_eq_false hc1), trivial⟩ ?_ trivial trivial rfl
  case' ga1 =>
    refine Safe.ends mixed Go.Proofs.Try.func48 4 [⟨100, []⟩, ⟨200, [(1, .tt true)]⟩] (r := B (decide (b ≤ (57 : Int)))) (hp := []) (ob := [decide (b ≥ (48 : Int)) = true]) rfl (by kernel_rfl) ⟨(decide_eq_true hc1), trivial⟩ ?_ trivial trivial rfl
  all_goals first | exact congrArg B (decide_eq_decide.2 (by omega)) | exact congrArg B (decide_eq_false (by omega)).symm
set_option maxRecDepth 10000 in
set_option maxHeartbeats 4000000 in
theorem plain_any (b : Int) : CallOK Try.prog 26 [U8 b] [] (B (isP b)) [] := by
  refine CallOK.intro Try.call26 Try.func26 rfl rfl trivial ?_
  unfold isP
  refine (Classical.em (b ≥ (32 : Int))).elim (fun hc1 => ?ga2) (fun hc1 => ?gb2)
  case' gb2 =>
    refine Safe.ends mixed Go.Proofs.Try.func26 4 [⟨100, []⟩, ⟨200, [(1, .tt false)]⟩] (r := B (false)) (hp := []) (ob := [decide (b ≥ (32 : Int)) = false]) rfl (by kernel_rfl) ⟨(decide_eq_false hc1), trivial⟩ ?_ trivial trivial rfl
  case' ga2 =>
    refine Safe.ends mixed Go.Proofs.Try.func26 4 [⟨100, []⟩, ⟨200, [(1, .tt true)]⟩] (r := B (decide (b ≤ (126 : Int)))) (hp := []) (ob := [decide (b ≥ (32 : Int)) = true]) rfl (by kernel_rfl) ⟨(decide_eq_true hc1), trivial⟩ ?_ trivial trivial rfl
  all_goals first | exact congrArg B (decide_eq_decide.2 (by omega)) | exact congrArg B (decide_eq_false (by omega)).symm
/-- the first place of a byte, or -1 -/
def idxB (t : ByteArray) (c : Int) : Int := Lib.indexByte t.data.toList c.toNat.toUInt8
theorem index_ext (t : ByteArray) (c : Int) : ExtOK Try.prog 53 [S t, U8 c] (I (idxB t c)) := fun E W cargs h => by
  simp only [U8, RVs, RV] at h
  obtain ⟨y, m, rfl, rfl, y2, m2, rfl, rfl, rfl⟩ := h
  refine ⟨.int .i64 (idxB t c), ?_, by simp only [I, RV]⟩
  rw [run_callFunc_extern (P := Try.prog) (e := Extern.BytealgIndexByte.indexByte) Try.func53 (by kernel_rfl) (by kernel_rfl) (by kernel_rfl) (by kernel_rfl)]
  rw [Lib.run_indexByteString]
  rfl
theorem noEscape_ext (id : Nat) : ExtOK Try.prog 47 [.ptr id 0 0 0] (.ptr id 0 0 0) := fun E W cargs h => by
  simp only [RVs] at h
  obtain ⟨y, m, rfl, hy, rfl⟩ := h
  refine ⟨y, ?_, hy⟩
  rw [run_callFunc_extern (P := Try.prog) (e := Extern.AbiNoEscape.same) Try.func47 (by kernel_rfl) (by kernel_rfl) (by kernel_rfl) (by kernel_rfl)]
  rfl
set_option maxRecDepth 10000 in
set_option maxHeartbeats 4000000 in
theorem sindex_any (t : ByteArray) (c : Int) : CallOK Try.prog 51 [S t, U8 c] [] (I (idxB t c)) [] := by
  refine CallOK.intro Try.call51 Try.func51 rfl rfl trivial ?_
  refine Safe.ends mixed Go.Proofs.Try.func51 4 [⟨100, []⟩, ⟨200, [(2, .ext (I (idxB t c)))]⟩] (r := I (idxB t c)) (hp := []) (ob := [ExtOK Try.prog (53 : Nat) ([] ++ [AV.val (Value.string t), AV.val (Value.int IntKind.u8 c)] ++ []) (AV.val (Value.int IntKind.i64 (idxB t c)))]) rfl (by kernel_rfl) ⟨(index_ext (t) (c)), trivial⟩ rfl trivial trivial rfl
set_option maxRecDepth 10000 in
set_option maxHeartbeats 4000000 in
theorem index_any (t : ByteArray) (c : Int) : CallOK Try.prog 45 [S t, U8 c] [] (I (idxB t c)) [] := by
  refine CallOK.intro Try.call45 Try.func45 rfl rfl trivial ?_
  refine Safe.ends mixed Go.Proofs.Try.func45 4 [⟨100, []⟩, ⟨200, [(2, .call [] (I (idxB t c)) [])]⟩] (r := I (idxB t c)) (hp := []) (ob := [CallOK Try.prog (51 : Nat) ([] ++ [AV.val (Value.string t), AV.val (Value.int IntKind.u8 c)] ++ []) [] (AV.val (Value.int IntKind.i64 (idxB t c))) []]) rfl (by kernel_rfl) ⟨(sindex_any (t) (c)), trivial⟩ rfl trivial trivial rfl
theorem idx_four (b : Int) (h : 0 ≤ b ∧ b < 256) : 0 ≤ idxB { data := #[95, 46, 43, 45] } b ↔ (b = 95 ∨ b = 46 ∨ b = 43 ∨ b = 45) := by
  have key : ∀ n : Fin 256, (0 ≤ idxB { data := #[95, 46, 43, 45] } (n.val : Int) ↔ ((n.val : Int) = 95 ∨ (n.val : Int) = 46 ∨ (n.val : Int) = 43 ∨ (n.val : Int) = 45)) := by decide +kernel
  have := key ⟨b.toNat, by omega⟩
  have e : ((b.toNat : Nat) : Int) = b := by omega
  simp only [e] at this
  exact this
set_option maxRecDepth 10000 in
set_option maxHeartbeats 4000000 in
theorem letter_any (b : Int) : CallOK Try.prog 40 [U8 b] [] (B (isW b)) [] := by
  refine CallOK.intro Try.call40 Try.func40 rfl rfl trivial ?_
  have hd : isD b = true ↔ (48 ≤ b ∧ b ≤ 57) := by simp [isD]
  unfold isW
  refine (Classical.em (b ≥ (97 : Int))).elim (fun hc1 => ?ga3) (fun hc1 => ?gb3)
  case' gb3 =>
    refine (Classical.em (b ≥ (65 : Int))).elim (fun hc2 => ?ga15) (fun hc2 => ?gb15)
    case' gb15 =>
      refine (Classical.em ((isD b) = true)).elim (fun hc3 => ?ga21) (fun hc3 => ?gb21)
      case' gb21 =>
        refine (Classical.em (b = (95 : Int))).elim (fun hc4 => ?ga22) (fun hc4 => ?gb22)
        case' gb22 =>
          refine (Classical.em (b = (46 : Int))).elim (fun hc5 => ?ga23) (fun hc5 => ?gb23)
          case' gb23 =>
            refine (Classical.em (b = (43 : Int))).elim (fun hc6 => ?ga24) (fun hc6 => ?gb24)
            case' gb24 =>
              refine Safe.ends mixed Go.Proofs.Try.func40 4 [⟨100, []⟩, ⟨200, [(1, .tt false), (8, .tt false), (16, .call [] (B false) []), (20, .tt false), (24, .tt false), (28, .tt false)]⟩] (r := B (decide (b = (45 : Int)))) (hp := []) (ob := [decide (b ≥ (97 : Int)) = false, decide (b ≥ (65 : Int)) = false, CallOK Try.prog (48 : Nat) ([] ++ [AV.val (Value.int IntKind.u8 b)] ++ []) [] (AV.val (Value.bool false)) [], decide (b = (95 : Int)) = false, decide (b = (46 : Int)) = false, decide (b = (43 : Int)) = false]) rfl (by kernel_rfl) ⟨(decide_eq_false hc1), (decide_eq_false hc2), (CallOK.isB (rdigit_any (b)) (eq_false_of_ne_true hc3)), (decide_eq_false hc4), (decide_eq_false hc5), (decide_eq_false hc6), trivial⟩ ?_ trivial trivial rfl
            case' ga24 =>
              refine Safe.ends mixed Go.Proofs.Try.func40 4 [⟨100, []⟩, ⟨200, [(1, .tt false), (8, .tt false), (16, .call [] (B false) []), (20, .tt false), (24, .tt false), (28, .tt true)]⟩] (r := B (true)) (hp := []) (ob := [decide (b ≥ (97 : Int)) = false, decide (b ≥ (65 : Int)) = false, CallOK Try.prog (48 : Nat) ([] ++ [AV.val (Value.int IntKind.u8 b)] ++ []) [] (AV.val (Value.bool false)) [], decide (b = (95 : Int)) = false, decide (b = (46 : Int)) = false, decide (b = (43 : Int)) = true]) rfl (by kernel_rfl) ⟨(decide_eq_false hc1), (decide_eq_false hc2), (CallOK.isB (rdigit_any (b)) (eq_false_of_ne_true hc3)), (decide_eq_false hc4), (decide_eq_false hc5), (decide_eq_true hc6), trivial⟩ ?_ trivial trivial rfl
          case' ga23 =>
            refine Safe.ends mixed Go.Proofs.Try.func40 4 [⟨100, []⟩, ⟨200, [(1, .tt false), (8, .tt false), (16, .call [] (B false) []), (20, .tt false), (24, .tt true)]⟩] (r := B (true)) (hp := []) (ob := [decide (b ≥ (97 : Int)) = false, decide (b ≥ (65 : Int)) = false, CallOK Try.prog (48 : Nat) ([] ++ [AV.val (Value.int IntKind.u8 b)] ++ []) [] (AV.val (Value.bool false)) [], decide (b = (95 : Int)) = false, decide (b = (46 : Int)) = true]) rfl (by kernel_rfl) ⟨(decide_eq_false hc1), (decide_eq_false hc2), (CallOK.isB (rdigit_any (b)) (eq_false_of_ne_true hc3)), (decide_eq_false hc4), (decide_eq_true hc5), trivial⟩ ?_ trivial trivial rfl
        case' ga22 =>
          refine Safe.ends mixed Go.Proofs.Try.func40 4 [⟨100, []⟩, ⟨200, [(1, .tt false), (8, .tt false), (16, .call [] (B false) []), (20, .tt true)]⟩] (r := B (true)) (hp := []) (ob := [decide (b ≥ (97 : Int)) = false, decide (b ≥ (65 : Int)) = false, CallOK Try.prog (48 : Nat) ([] ++ [AV.val (Value.int IntKind.u8 b)] ++ []) [] (AV.val (Value.bool false)) [], decide (b = (95 : Int)) = true]) rfl (by kernel_rfl) ⟨(decide_eq_false hc1), (decide_eq_false hc2), (CallOK.isB (rdigit_any (b)) (eq_false_of_ne_true hc3)), (decide_eq_true hc4), trivial⟩ ?_ trivial trivial rfl
      case' ga21 =>
        refine Safe.ends mixed Go.Proofs.Try.func40 4 [⟨100, []⟩, ⟨200, [(1, .tt false), (8, .tt false), (16, .call [] (B true) [])]⟩] (r := B (true)) (hp := []) (ob := [decide (b ≥ (97 : Int)) = false, decide (b ≥ (65 : Int)) = false, CallOK Try.prog (48 : Nat) ([] ++ [AV.val (Value.int IntKind.u8 b)] ++ []) [] (AV.val (Value.bool true)) []]) rfl (by kernel_rfl) ⟨(decide_eq_false hc1), (decide_eq_false hc2), (CallOK.isB (rdigit_any (b)) hc3), trivial⟩ ?_ trivial trivial rfl
    case' ga15 =>
      refine (Classical.em (b ≤ (90 : Int))).elim (fun hc3 => ?ga16) (fun hc3 => ?gb16)
      case' gb16 =>
        refine (Classical.em ((isD b) = true)).elim (fun hc4 => ?ga17) (fun hc4 => ?gb17)
        case' gb17 =>
          refine (Classical.em (b = (95 : Int))).elim (fun hc5 => ?ga18) (fun hc5 => ?gb18)
          case' gb18 =>
            refine (Classical.em (b = (46 : Int))).elim (fun hc6 => ?ga19) (fun hc6 => ?gb19)
            case' gb19 =>
              refine (Classical.em (b = (43 : Int))).elim (fun hc7 => ?ga20) (fun hc7 => ?gb20)
              case' gb20 =>
                refine Safe.ends mixed Go.Proofs.Try.func40 4 [⟨100, []⟩, ⟨200, [(1, .tt false), (8, .tt true), (11, .tt false), (16, .call [] (B false) []), (20, .tt false), (24, .tt false), (28, .tt false)]⟩] (r := B (decide (b = (45 : Int)))) (hp := []) (ob := [decide (b ≥ (97 : Int)) = false, decide (b ≥ (65 : Int)) = true, decide (b ≤ (90 : Int)) = false, CallOK Try.prog (48 : Nat) ([] ++ [AV.val (Value.int IntKind.u8 b)] ++ []) [] (AV.val (Value.bool false)) [], decide (b = (95 : Int)) = false, decide (b = (46 : Int)) = false, decide (b = (43 : Int)) = false]) rfl (by kernel_rfl) ⟨(decide_eq_false hc1), (decide_eq_true hc2), (decide_eq_false hc3), (CallOK.isB (rdigit_any (b)) (eq_false_of_ne_true hc4)), (decide_eq_false hc5), (decide_eq_false hc6), (decide_eq_false hc7), trivial⟩ ?_ trivial trivial rfl
              case' ga20 =>
                refine Safe.ends mixed Go.Proofs.Try.func40 4 [⟨100, []⟩, ⟨200, [(1, .tt false), (8, .tt true), (11, .tt false), (16, .call [] (B false) []), (20, .tt false), (24, .tt false), (28, .tt true)]⟩] (r := B (true)) (hp := []) (ob := [decide (b ≥ (97 : Int)) = false, decide (b ≥ (65 : Int)) = true, decide (b ≤ (90 : Int)) = false, CallOK Try.prog (48 : Nat) ([] ++ [AV.val (Value.int IntKind.u8 b)] ++ []) [] (AV.val (Value.bool false)) [], decide (b = (95 : Int)) = false, decide (b = (46 : Int)) = false, decide (b = (43 : Int)) = true]) rfl (by kernel_rfl) ⟨(decide_eq_false hc1), (decide_eq_true hc2), (decide_eq_false hc3), (CallOK.isB (rdigit_any (b)) (eq_false_of_ne_true hc4)), (decide_eq_false hc5), (decide_eq_false hc6), (decide_eq_true hc7), trivial⟩ ?_ trivial trivial rfl
            case' ga19 =>
              refine Safe.ends mixed Go.Proofs.Try.func40 4 [⟨100, []⟩, ⟨200, [(1, .tt false), (8, .tt true), (11, .tt false), (16, .call [] (B false) []), (20, .tt false), (24, .tt true)]⟩] (r := B (true)) (hp := []) (ob := [decide (b ≥ (97 : Int)) = false, decide (b ≥ (65 : Int)) = true, decide (b ≤ (90 : Int)) = false, CallOK Try.prog (48 : Nat) ([] ++ [AV.val (Value.int IntKind.u8 b)] ++ []) [] (AV.val (Value.bool false)) [], decide (b = (95 : Int)) = false, decide (b = (46 : Int)) = true]) rfl (by kernel_rfl) ⟨(decide_eq_false hc1), (decide_eq_true hc2), (decide_eq_false hc3), (CallOK.isB (rdigit_any (b)) (eq_false_of_ne_true hc4)), (decide_eq_false hc5), (decide_eq_true hc6), trivial⟩ ?_ trivial trivial rfl
          case' ga18 =>
            refine Safe.ends mixed Go.Proofs.Try.func40 4 [⟨100, []⟩, ⟨200, [(1, .tt false), (8, .tt true), (11, .tt false), (16, .call [] (B false) []), (20, .tt true)]⟩] (r := B (true)) (hp := []) (ob := [decide (b ≥ (97 : Int)) = false, decide (b ≥ (65 : Int)) = true, decide (b ≤ (90 : Int)) = false, CallOK Try.prog (48 : Nat) ([] ++ [AV.val (Value.int IntKind.u8 b)] ++ []) [] (AV.val (Value.bool false)) [], decide (b = (95 : Int)) = true]) rfl (by kernel_rfl) ⟨(decide_eq_false hc1), (decide_eq_true hc2), (decide_eq_false hc3), (CallOK.isB (rdigit_any (b)) (eq_false_of_ne_true hc4)), (decide_eq_true hc5), trivial⟩ ?_ trivial trivial rfl
        case' ga17 =>
          refine Safe.ends mixed Go.Proofs.Try.func40 4 [⟨100, []⟩, ⟨200, [(1, .tt false), (8, .tt true), (11, .tt false), (16, .call [] (B true) [])]⟩] (r := B (true)) (hp := []) (ob := [decide (b ≥ (97 : Int)) = false, decide (b ≥ (65 : Int)) = true, decide (b ≤ (90 : Int)) = false, CallOK Try.prog (48 : Nat) ([] ++ [AV.val (Value.int IntKind.u8 b)] ++ []) [] (AV.val (Value.bool true)) []]) rfl (by kernel_rfl) ⟨(decide_eq_false hc1), (decide_eq_true hc2), (decide_eq_false hc3), (CallOK.isB (rdigit_any (b)) hc4), trivial⟩ ?_ trivial trivial rfl
      case' ga16 =>
        refine Safe.ends mixed Go.Proofs.Try.func40 4 [⟨100, []⟩, ⟨200, [(1, .tt false), (8, .tt true), (11, .tt true)]⟩] (r := B (true)) (hp := []) (ob := [decide (b ≥ (97 : Int)) = false, decide (b ≥ (65 : Int)) = true, decide (b ≤ (90 : Int)) = true]) rfl (by kernel_rfl) ⟨(decide_eq_false hc1), (decide_eq_true hc2), (decide_eq_true hc3), trivial⟩ ?_ trivial trivial rfl
  case' ga3 =>
    refine (Classical.em (b ≤ (122 : Int))).elim (fun hc2 => ?ga4) (fun hc2 => ?gb4)
    case' gb4 =>
      refine (Classical.em (b ≥ (65 : Int))).elim (fun hc3 => ?ga5) (fun hc3 => ?gb5)
      case' gb5 =>
        refine (Classical.em ((isD b) = true)).elim (fun hc4 => ?ga11) (fun hc4 => ?gb11)
        case' gb11 =>
          refine (Classical.em (b = (95 : Int))).elim (fun hc5 => ?ga12) (fun hc5 => ?gb12)
          case' gb12 =>
            refine (Classical.em (b = (46 : Int))).elim (fun hc6 => ?ga13) (fun hc6 => ?gb13)
            case' gb13 =>
              refine (Classical.em (b = (43 : Int))).elim (fun hc7 => ?ga14) (fun hc7 => ?gb14)
              case' gb14 =>
                refine Safe.ends mixed Go.Proofs.Try.func40 4 [⟨100, []⟩, ⟨200, [(1, .tt true), (4, .tt false), (8, .tt false), (16, .call [] (B false) []), (20, .tt false), (24, .tt false), (28, .tt false)]⟩] (r := B (decide (b = (45 : Int)))) (hp := []) (ob := [decide (b ≥ (97 : Int)) = true, decide (b ≤ (122 : Int)) = false, decide (b ≥ (65 : Int)) = false, CallOK Try.prog (48 : Nat) ([] ++ [AV.val (Value.int IntKind.u8 b)] ++ []) [] (AV.val (Value.bool false)) [], decide (b = (95 : Int)) = false, decide (b = (46 : Int)) = false, decide (b = (43 : Int)) = false]) rfl (by kernel_rfl) ⟨(decide_eq_true hc1), (decide_eq_false hc2), (decide_eq_false hc3), (CallOK.isB (rdigit_any (b)) (eq_false_of_ne_true hc4)), (decide_eq_false hc5), (decide_eq_false hc6), (decide_eq_false hc7), trivial⟩ ?_ trivial trivial rfl
              case' ga14 =>
                refine Safe.ends mixed Go.Proofs.Try.func40 4 [⟨100, []⟩, ⟨200, [(1, .tt true), (4, .tt false), (8, .tt false), (16, .call [] (B false) []), (20, .tt false), (24, .tt false), (28, .tt true)]⟩] (r := B (true)) (hp := []) (ob := [decide (b ≥ (97 : Int)) = true, decide (b ≤ (122 : Int)) = false, decide (b ≥ (65 : Int)) = false, CallOK Try.prog (48 : Nat) ([] ++ [AV.val (Value.int IntKind.u8 b)] ++ []) [] (AV.val (Value.bool false)) [], decide (b = (95 : Int)) = false, decide (b = (46 : Int)) = false, decide (b = (43 : Int)) = true]) rfl (by kernel_rfl) ⟨(decide_eq_true hc1), (decide_eq_false hc2), (decide_eq_false hc3), (CallOK.isB (rdigit_any (b)) (eq_false_of_ne_true hc4)), (decide_eq_false hc5), (decide_eq_false hc6), (decide_eq_true hc7), trivial⟩ ?_ trivial trivial rfl
            case' ga13 =>
              refine Safe.ends mixed Go.Proofs.Try.func40 4 [⟨100, []⟩, ⟨200, [(1, .tt true), (4, .tt false), (8, .tt false), (16, .call [] (B false) []), (20, .tt false), (24, .tt true)]⟩] (r := B (true)) (hp := []) (ob := [decide (b ≥ (97 : Int)) = true, decide (b ≤ (122 : Int)) = false, decide (b ≥ (65 : Int)) = false, CallOK Try.prog (48 : Nat) ([] ++ [AV.val (Value.int IntKind.u8 b)] ++ []) [] (AV.val (Value.bool false)) [], decide (b = (95 : Int)) = false, decide (b = (46 : Int)) = true]) rfl (by kernel_rfl) ⟨(decide_eq_true hc1), (decide_eq_false hc2), (decide_eq_false hc3), (CallOK.isB (rdigit_any (b)) (eq_false_of_ne_true hc4)), (decide_eq_false hc5), (decide_eq_true hc6), trivial⟩ ?_ trivial trivial rfl
          case' ga12 =>
            refine Safe.ends mixed Go.Proofs.Try.func40 4 [⟨100, []⟩, ⟨200, [(1, .tt true), (4, .tt false), (8, .tt false), (16, .call [] (B false) []), (20, .tt true)]⟩] (r := B (true)) (hp := []) (ob := [decide (b ≥ (97 : Int)) = true, decide (b ≤ (122 : Int)) = false, decide (b ≥ (65 : Int)) = false, CallOK Try.prog (48 : Nat) ([] ++ [AV.val (Value.int IntKind.u8 b)] ++ []) [] (AV.val (Value.bool false)) [], decide (b = (95 : Int)) = true]) rfl (by kernel_rfl) ⟨(decide_eq_true hc1), (decide_eq_false hc2), (decide_eq_false hc3), (CallOK.isB (rdigit_any (b)) (eq_false_of_ne_true hc4)), (decide_eq_true hc5), trivial⟩ ?_ trivial trivial rfl
        case' ga11 =>
          refine Safe.ends mixed Go.Proofs.Try.func40 4 [⟨100, []⟩, ⟨200, [(1, .tt true), (4, .tt false), (8, .tt false), (16, .call [] (B true) [])]⟩] (r := B (true)) (hp := []) (ob := [decide (b ≥ (97 : Int)) = true, decide (b ≤ (122 : Int)) = false, decide (b ≥ (65 : Int)) = false, CallOK Try.prog (48 : Nat) ([] ++ [AV.val (Value.int IntKind.u8 b)] ++ []) [] (AV.val (Value.bool true)) []]) rfl (by kernel_rfl) ⟨(decide_eq_true hc1), (decide_eq_false hc2), (decide_eq_false hc3), (CallOK.isB (rdigit_any (b)) hc4), trivial⟩ ?_ trivial trivial rfl
      case' ga5 =>
        refine (Classical.em (b ≤ (90 : Int))).elim (fun hc4 => ?ga6) (fun hc4 => ?gb6)
        case' gb6 =>
          refine (Classical.em ((isD b) = true)).elim (fun hc5 => ?ga7) (fun hc5 => ?gb7)
          case' gb7 =>
            refine (Classical.em (b = (95 : Int))).elim (fun hc6 => ?ga8) (fun hc6 => ?gb8)
            case' gb8 =>
              refine (Classical.em (b = (46 : Int))).elim (fun hc7 => ?ga9) (fun hc7 => ?gb9)
              case' gb9 =>
                refine (Classical.em (b = (43 : Int))).elim (fun hc8 => ?ga10) (fun hc8 => ?gb10)
                case' gb10 =>
                  refine Safe.ends mixed Go.Proofs.Try.func40 4 [⟨100, []⟩, ⟨200, [(1, .tt true), (4, .tt false), (8, .tt true), (11, .tt false), (16, .call [] (B false) []), (20, .tt false), (24, .tt false), (28, .tt false)]⟩] (r := B (decide (b = (45 : Int)))) (hp := []) (ob := [decide (b ≥ (97 : Int)) = true, decide (b ≤ (122 : Int)) = false, decide (b ≥ (65 : Int)) = true, decide (b ≤ (90 : Int)) = false, CallOK Try.prog (48 : Nat) ([] ++ [AV.val (Value.int IntKind.u8 b)] ++ []) [] (AV.val (Value.bool false)) [], decide (b = (95 : Int)) = false, decide (b = (46 : Int)) = false, decide (b = (43 : Int)) = false]) rfl (by kernel_rfl) ⟨(decide_eq_true hc1), (decide_eq_false hc2), (decide_eq_true hc3), (decide_eq_false hc4), (CallOK.isB (rdigit_any (b)) (eq_false_of_ne_true hc5)), (decide_eq_false hc6), (decide_eq_false hc7), (decide_eq_false hc8), trivial⟩ ?_ trivial trivial rfl
                case' ga10 =>
                  refine Safe.ends mixed Go.Proofs.Try.func40 4 [⟨100, []⟩, ⟨200, [(1, .tt true), (4, .tt false), (8, .tt true), (11, .tt false), (16, .call [] (B false) []), (20, .tt false), (24, .tt false), (28, .tt true)]⟩] (r := B (true)) (hp := []) (ob := [decide (b ≥ (97 : Int)) = true, decide (b ≤ (122 : Int)) = false, decide (b ≥ (65 : Int)) = true, decide (b ≤ (90 : Int)) = false, CallOK Try.prog (48 : Nat) ([] ++ [AV.val (Value.int IntKind.u8 b)] ++ []) [] (AV.val (Value.bool false)) [], decide (b = (95 : Int)) = false, decide (b = (46 : Int)) = false, decide (b = (43 : Int)) = true]) rfl (by kernel_rfl) ⟨(decide_eq_true hc1), (decide_eq_false hc2), (decide_eq_true hc3), (decide_eq_false hc4), (CallOK.isB (rdigit_any (b)) (eq_false_of_ne_true hc5)), (decide_eq_false hc6), (decide_eq_false hc7), (decide_eq_true hc8), trivial⟩ ?_ trivial trivial rfl
              case' ga9 =>
                refine Safe.ends mixed Go.Proofs.Try.func40 4 [⟨100, []⟩, ⟨200, [(1, .tt true), (4, .tt false), (8, .tt true), (11, .tt false), (16, .call [] (B false) []), (20, .tt false), (24, .tt true)]⟩] (r := B (true)) (hp := []) (ob := [decide (b ≥ (97 : Int)) = true, decide (b ≤ (122 : Int)) = false, decide (b ≥ (65 : Int)) = true, decide (b ≤ (90 : Int)) = false, CallOK Try.prog (48 : Nat) ([] ++ [AV.val (Value.int IntKind.u8 b)] ++ []) [] (AV.val (Value.bool false)) [], decide (b = (95 : Int)) = false, decide (b = (46 : Int)) = true]) rfl (by kernel_rfl) ⟨(decide_eq_true hc1), (decide_eq_false hc2), (decide_eq_true hc3), (decide_eq_false hc4), (CallOK.isB (rdigit_any (b)) (eq_false_of_ne_true hc5)), (decide_eq_false hc6), (decide_eq_true hc7), trivial⟩ ?_ trivial trivial rfl
            case' ga8 =>
              refine Safe.ends mixed Go.Proofs.Try.func40 4 [⟨100, []⟩, ⟨200, [(1, .tt true), (4, .tt false), (8, .tt true), (11, .tt false), (16, .call [] (B false) []), (20, .tt true)]⟩] (r := B (true)) (hp := []) (ob := [decide (b ≥ (97 : Int)) = true, decide (b ≤ (122 : Int)) = false, decide (b ≥ (65 : Int)) = true, decide (b ≤ (90 : Int)) = false, CallOK Try.prog (48 : Nat) ([] ++ [AV.val (Value.int IntKind.u8 b)] ++ []) [] (AV.val (Value.bool false)) [], decide (b = (95 : Int)) = true]) rfl (by kernel_rfl) ⟨(decide_eq_true hc1), (decide_eq_false hc2), (decide_eq_true hc3), (decide_eq_false hc4), (CallOK.isB (rdigit_any (b)) (eq_false_of_ne_true hc5)), (decide_eq_true hc6), trivial⟩ ?_ trivial trivial rfl
          case' ga7 =>
            refine Safe.ends mixed Go.Proofs.Try.func40 4 [⟨100, []⟩, ⟨200, [(1, .tt true), (4, .tt false), (8, .tt true), (11, .tt false), (16, .call [] (B true) [])]⟩] (r := B (true)) (hp := []) (ob := [decide (b ≥ (97 : Int)) = true, decide (b ≤ (122 : Int)) = false, decide (b ≥ (65 : Int)) = true, decide (b ≤ (90 : Int)) = false, CallOK Try.prog (48 : Nat) ([] ++ [AV.val (Value.int IntKind.u8 b)] ++ []) [] (AV.val (Value.bool true)) []]) rfl (by kernel_rfl) ⟨(decide_eq_true hc1), (decide_eq_false hc2), (decide_eq_true hc3), (decide_eq_false hc4), (CallOK.isB (rdigit_any (b)) hc5), trivial⟩ ?_ trivial trivial rfl
        case' ga6 =>
          refine Safe.ends mixed Go.Proofs.Try.func40 4 [⟨100, []⟩, ⟨200, [(1, .tt true), (4, .tt false), (8, .tt true), (11, .tt true)]⟩] (r := B (true)) (hp := []) (ob := [decide (b ≥ (97 : Int)) = true, decide (b ≤ (122 : Int)) = false, decide (b ≥ (65 : Int)) = true, decide (b ≤ (90 : Int)) = true]) rfl (by kernel_rfl) ⟨(decide_eq_true hc1), (decide_eq_false hc2), (decide_eq_true hc3), (decide_eq_true hc4), trivial⟩ ?_ trivial trivial rfl
    case' ga4 =>
      refine Safe.ends mixed Go.Proofs.Try.func40 4 [⟨100, []⟩, ⟨200, [(1, .tt true), (4, .tt true)]⟩] (r := B (true)) (hp := []) (ob := [decide (b ≥ (97 : Int)) = true, decide (b ≤ (122 : Int)) = true]) rfl (by kernel_rfl) ⟨(decide_eq_true hc1), (decide_eq_true hc2), trivial⟩ ?_ trivial trivial rfl
  all_goals (try simp only [hd] at *)
  all_goals first | exact congrArg B (decide_eq_decide.2 (by omega)) | exact congrArg B (decide_eq_false (by omega)).symm | exact congrArg B (decide_eq_true (by omega)).symm | (exfalso; omega)
set_option maxRecDepth 10000 in
set_option maxHeartbeats 4000000 in
theorem isWord_any (b : Int) (h : 0 ≤ b ∧ b < 256) : CallOK Try.prog 42 [U8 b] [] (B (isW b)) [] := by
  refine CallOK.intro Try.call42 Try.func42 rfl rfl trivial ?_
  have hd : isD b = true ↔ (48 ≤ b ∧ b ≤ 57) := by simp [isD]
  have hi := idx_four b h
  unfold isW
  refine (Classical.em (b ≥ (97 : Int))).elim (fun hc1 => ?ga25) (fun hc1 => ?gb25)
  case' gb25 =>
    refine (Classical.em (b ≥ (65 : Int))).elim (fun hc2 => ?ga31) (fun hc2 => ?gb31)
    case' gb31 =>
      refine (Classical.em ((isD b) = true)).elim (fun hc3 => ?ga34) (fun hc3 => ?gb34)
      case' gb34 =>
        refine Safe.ends mixed Go.Proofs.Try.func42 4 [⟨100, []⟩, ⟨200, [(1, .tt false), (8, .tt false), (16, .call [] (B false) []), (20, .call [] (I (idxB (ByteArray.mk #[(95 : UInt8), (46 : UInt8), (43 : UInt8), (45 : UInt8)]) b)) [])]⟩] (r := B (decide (idxB (ByteArray.mk #[(95 : UInt8), (46 : UInt8), (43 : UInt8), (45 : UInt8)]) b ≥ (0 : Int)))) (hp := []) (ob := [decide (b ≥ (97 : Int)) = false, decide (b ≥ (65 : Int)) = false, CallOK Try.prog (49 : Nat) ([] ++ [AV.val (Value.int IntKind.u8 b)] ++ []) [] (AV.val (Value.bool false)) [], CallOK Try.prog (45 : Nat) ([] ++ [ofV (Value.string (ByteArray.mk #[(95 : UInt8), (46 : UInt8), (43 : UInt8), (45 : UInt8)])), AV.val (Value.int IntKind.u8 b)] ++ []) [] (AV.val (Value.int IntKind.i64 (idxB (ByteArray.mk #[(95 : UInt8), (46 : UInt8), (43 : UInt8), (45 : UInt8)]) b))) []]) rfl (by kernel_rfl) ⟨(decide_eq_false hc1), (decide_eq_false hc2), (CallOK.isB (isDigit_any (b)) (eq_false_of_ne_true hc3)), (index_any (ByteArray.mk #[(95 : UInt8), (46 : UInt8), (43 : UInt8), (45 : UInt8)]) (b)), trivial⟩ ?_ trivial trivial rfl
      case' ga34 =>
        refine Safe.ends mixed Go.Proofs.Try.func42 4 [⟨100, []⟩, ⟨200, [(1, .tt false), (8, .tt false), (16, .call [] (B true) [])]⟩] (r := B (true)) (hp := []) (ob := [decide (b ≥ (97 : Int)) = false, decide (b ≥ (65 : Int)) = false, CallOK Try.prog (49 : Nat) ([] ++ [AV.val (Value.int IntKind.u8 b)] ++ []) [] (AV.val (Value.bool true)) []]) rfl (by kernel_rfl) ⟨(decide_eq_false hc1), (decide_eq_false hc2), (CallOK.isB (isDigit_any (b)) hc3), trivial⟩ ?_ trivial trivial rfl
    case' ga31 =>
      refine (Classical.em (b ≤ (90 : Int))).elim (fun hc3 => ?ga32) (fun hc3 => ?gb32)
      case' gb32 =>
        refine (Classical.em ((isD b) = true)).elim (fun hc4 => ?ga33) (fun hc4 => ?gb33)
        case' gb33 =>
          refine Safe.ends mixed Go.Proofs.Try.func42 4 [⟨100, []⟩, ⟨200, [(1, .tt false), (8, .tt true), (11, .tt false), (16, .call [] (B false) []), (20, .call [] (I (idxB (ByteArray.mk #[(95 : UInt8), (46 : UInt8), (43 : UInt8), (45 : UInt8)]) b)) [])]⟩] (r := B (decide (idxB (ByteArray.mk #[(95 : UInt8), (46 : UInt8), (43 : UInt8), (45 : UInt8)]) b ≥ (0 : Int)))) (hp := []) (ob := [decide (b ≥ (97 : Int)) = false, decide (b ≥ (65 : Int)) = true, decide (b ≤ (90 : Int)) = false, CallOK Try.prog (49 : Nat) ([] ++ [AV.val (Value.int IntKind.u8 b)] ++ []) [] (AV.val (Value.bool false)) [], CallOK Try.prog (45 : Nat) ([] ++ [ofV (Value.string (ByteArray.mk #[(95 : UInt8), (46 : UInt8), (43 : UInt8), (45 : UInt8)])), AV.val (Value.int IntKind.u8 b)] ++ []) [] (AV.val (Value.int IntKind.i64 (idxB (ByteArray.mk #[(95 : UInt8), (46 : UInt8), (43 : UInt8), (45 : UInt8)]) b))) []]) rfl (by kernel_rfl) ⟨(decide_eq_false hc1), (decide_eq_true hc2), (decide_eq_false hc3), (CallOK.isB (isDigit_any (b)) (eq_false_of_ne_true hc4)), (index_any (ByteArray.mk #[(95 : UInt8), (46 : UInt8), (43 : UInt8), (45 : UInt8)]) (b)), trivial⟩ ?_ trivial trivial rfl
        case' ga33 =>
          refine Safe.ends mixed Go.Proofs.Try.func42 4 [⟨100, []⟩, ⟨200, [(1, .tt false), (8, .tt true), (11, .tt false), (16, .call [] (B true) [])]⟩] (r := B (true)) (hp := []) (ob := [decide (b ≥ (97 : Int)) = false, decide (b ≥ (65 : Int)) = true, decide (b ≤ (90 : Int)) = false, CallOK Try.prog (49 : Nat) ([] ++ [AV.val (Value.int IntKind.u8 b)] ++ []) [] (AV.val (Value.bool true)) []]) rfl (by kernel_rfl) ⟨(decide_eq_false hc1), (decide_eq_true hc2), (decide_eq_false hc3), (CallOK.isB (isDigit_any (b)) hc4), trivial⟩ ?_ trivial trivial rfl
      case' ga32 =>
        refine Safe.ends mixed Go.Proofs.Try.func42 4 [⟨100, []⟩, ⟨200, [(1, .tt false), (8, .tt true), (11, .tt true)]⟩] (r := B (true)) (hp := []) (ob := [decide (b ≥ (97 : Int)) = false, decide (b ≥ (65 : Int)) = true, decide (b ≤ (90 : Int)) = true]) rfl (by kernel_rfl) ⟨(decide_eq_false hc1), (decide_eq_true hc2), (decide_eq_true hc3), trivial⟩ ?_ trivial trivial rfl
  case' ga25 =>
    refine (Classical.em (b ≤ (122 : Int))).elim (fun hc2 => ?ga26) (fun hc2 => ?gb26)
    case' gb26 =>
      refine (Classical.em (b ≥ (65 : Int))).elim (fun hc3 => ?ga27) (fun hc3 => ?gb27)
      case' gb27 =>
        refine (Classical.em ((isD b) = true)).elim (fun hc4 => ?ga30) (fun hc4 => ?gb30)
        case' gb30 =>
          refine Safe.ends mixed Go.Proofs.Try.func42 4 [⟨100, []⟩, ⟨200, [(1, .tt true), (4, .tt false), (8, .tt false), (16, .call [] (B false) []), (20, .call [] (I (idxB (ByteArray.mk #[(95 : UInt8), (46 : UInt8), (43 : UInt8), (45 : UInt8)]) b)) [])]⟩] (r := B (decide (idxB (ByteArray.mk #[(95 : UInt8), (46 : UInt8), (43 : UInt8), (45 : UInt8)]) b ≥ (0 : Int)))) (hp := []) (ob := [decide (b ≥ (97 : Int)) = true, decide (b ≤ (122 : Int)) = false, decide (b ≥ (65 : Int)) = false, CallOK Try.prog (49 : Nat) ([] ++ [AV.val (Value.int IntKind.u8 b)] ++ []) [] (AV.val (Value.bool false)) [], CallOK Try.prog (45 : Nat) ([] ++ [ofV (Value.string (ByteArray.mk #[(95 : UInt8), (46 : UInt8), (43 : UInt8), (45 : UInt8)])), AV.val (Value.int IntKind.u8 b)] ++ []) [] (AV.val (Value.int IntKind.i64 (idxB (ByteArray.mk #[(95 : UInt8), (46 : UInt8), (43 : UInt8), (45 : UInt8)]) b))) []]) rfl (by kernel_rfl) ⟨(decide_eq_true hc1), (decide_eq_false hc2), (decide_eq_false hc3), (CallOK.isB (isDigit_any (b)) (eq_false_of_ne_true hc4)), (index_any (ByteArray.mk #[(95 : UInt8), (46 : UInt8), (43 : UInt8), (45 : UInt8)]) (b)), trivial⟩ ?_ trivial trivial rfl
        case' ga30 =>
          refine Safe.ends mixed Go.Proofs.Try.func42 4 [⟨100, []⟩, ⟨200, [(1, .tt true), (4, .tt false), (8, .tt false), (16, .call [] (B true) [])]⟩] (r := B (true)) (hp := []) (ob := [decide (b ≥ (97 : Int)) = true, decide (b ≤ (122 : Int)) = false, decide (b ≥ (65 : Int)) = false, CallOK Try.prog (49 : Nat) ([] ++ [AV.val (Value.int IntKind.u8 b)] ++ []) [] (AV.val (Value.bool true)) []]) rfl (by kernel_rfl) ⟨(decide_eq_true hc1), (decide_eq_false hc2), (decide_eq_false hc3), (CallOK.isB (isDigit_any (b)) hc4), trivial⟩ ?_ trivial trivial rfl
      case' ga27 =>
        refine (Classical.em (b ≤ (90 : Int))).elim (fun hc4 => ?ga28) (fun hc4 => ?gb28)
        case' gb28 =>
          refine (Classical.em ((isD b) = true)).elim (fun hc5 => ?ga29) (fun hc5 => ?gb29)
          case' gb29 =>
            refine Safe.ends mixed Go.Proofs.Try.func42 4 [⟨100, []⟩, ⟨200, [(1, .tt true), (4, .tt false), (8, .tt true), (11, .tt false), (16, .call [] (B false) []), (20, .call [] (I (idxB (ByteArray.mk #[(95 : UInt8), (46 : UInt8), (43 : UInt8), (45 : UInt8)]) b)) [])]⟩] (r := B (decide (idxB (ByteArray.mk #[(95 : UInt8), (46 : UInt8), (43 : UInt8), (45 : UInt8)]) b ≥ (0 : Int)))) (hp := []) (ob := [decide (b ≥ (97 : Int)) = true, decide (b ≤ (122 : Int)) = false, decide (b ≥ (65 : Int)) = true, decide (b ≤ (90 : Int)) = false, CallOK Try.prog (49 : Nat) ([] ++ [AV.val (Value.int IntKind.u8 b)] ++ []) [] (AV.val (Value.bool false)) [], CallOK Try.prog (45 : Nat) ([] ++ [ofV (Value.string (ByteArray.mk #[(95 : UInt8), (46 : UInt8), (43 : UInt8), (45 : UInt8)])), AV.val (Value.int IntKind.u8 b)] ++ []) [] (AV.val (Value.int IntKind.i64 (idxB (ByteArray.mk #[(95 : UInt8), (46 : UInt8), (43 : UInt8), (45 : UInt8)]) b))) []]) rfl (by kernel_rfl) ⟨(decide_eq_true hc1), (decide_eq_false hc2), (decide_eq_true hc3), (decide_eq_false hc4), (CallOK.isB (isDigit_any (b)) (eq_false_of_ne_true hc5)), (index_any (ByteArray.mk #[(95 : UInt8), (46 : UInt8), (43 : UInt8), (45 : UInt8)]) (b)), trivial⟩ ?_ trivial trivial rfl
          case' ga29 =>
            refine Safe.ends mixed Go.Proofs.Try.func42 4 [⟨100, []⟩, ⟨200, [(1, .tt true), (4, .tt false), (8, .tt true), (11, .tt false), (16, .call [] (B true) [])]⟩] (r := B (true)) (hp := []) (ob := [decide (b ≥ (97 : Int)) = true, decide (b ≤ (122 : Int)) = false, decide (b ≥ (65 : Int)) = true, decide (b ≤ (90 : Int)) = false, CallOK Try.prog (49 : Nat) ([] ++ [AV.val (Value.int IntKind.u8 b)] ++ []) [] (AV.val (Value.bool true)) []]) rfl (by kernel_rfl) ⟨(decide_eq_true hc1), (decide_eq_false hc2), (decide_eq_true hc3), (decide_eq_false hc4), (CallOK.isB (isDigit_any (b)) hc5), trivial⟩ ?_ trivial trivial rfl
        case' ga28 =>
          refine Safe.ends mixed Go.Proofs.Try.func42 4 [⟨100, []⟩, ⟨200, [(1, .tt true), (4, .tt false), (8, .tt true), (11, .tt true)]⟩] (r := B (true)) (hp := []) (ob := [decide (b ≥ (97 : Int)) = true, decide (b ≤ (122 : Int)) = false, decide (b ≥ (65 : Int)) = true, decide (b ≤ (90 : Int)) = true]) rfl (by kernel_rfl) ⟨(decide_eq_true hc1), (decide_eq_false hc2), (decide_eq_true hc3), (decide_eq_true hc4), trivial⟩ ?_ trivial trivial rfl
    case' ga26 =>
      refine Safe.ends mixed Go.Proofs.Try.func42 4 [⟨100, []⟩, ⟨200, [(1, .tt true), (4, .tt true)]⟩] (r := B (true)) (hp := []) (ob := [decide (b ≥ (97 : Int)) = true, decide (b ≤ (122 : Int)) = true]) rfl (by kernel_rfl) ⟨(decide_eq_true hc1), (decide_eq_true hc2), trivial⟩ ?_ trivial trivial rfl
  all_goals (try simp only [hd] at *)
  all_goals first | exact congrArg B (decide_eq_decide.2 (by omega)) | exact congrArg B (decide_eq_false (by omega)).symm | exact congrArg B (decide_eq_true (by omega)).symm | (exfalso; omega)
end Go.Proofs.Ytnjidpidcmapkaa
