/- strings.CutSuffix, strings.IndexByte and the small functions of layer 8 that need no loop over a text. No conditions but those of each theorem. -/
import Derived.Test.YtdpclmogfnigdaaRows
import Derived.WalkKit
import Derived.ProofKit
import Derived.OpenShut
import Derived.LoopTactic
import Derived.Outline
import Derived.Below
import Derived.WalkLawsBesides
import Derived.WalkSpells
import Derived.Deep.QuietTactic
import Derived.BigQuiet
import Derived.Laws.BitsAllLaws
import Derived.Laws.OwnMore
import Derived.Laws.AppendOwn
import Derived.OwnWalk
import Derived.Lib.SmallJoins
import Derived.StillTailTactics
import Derived.Lib.Strings
import Derived.Lib.Slices
import Derived.Lib.Walk
import Derived.Lib.Bytealg
namespace Go.Proofs.Ytdpclmogfnigdaa
open Go.ChangeShapes Go.WideShapes Go.ChangeAt Go.RowKit
set_option linter.unusedVariables false
set_option linter.unusedSimpArgs false

theorem hid {p : Prop} (h : p) : Hid p := h
theorem bt {W a b : World} (h : Below W.heap.size W a) (k : Below a.heap.size a b) : Below W.heap.size W b := h.trans (k.mono h.size)

/-- a text without a suffix, and whether it had it -/
def cutS (l p : List UInt8) : List UInt8 × Bool := (Lib.trimSuffix l p, Lib.hasSuffix l p)
def bs (l : List UInt8) : ByteArray := ⟨l.toArray⟩
theorem bs_data (l : List UInt8) : (bs l).data.toList = l := rfl
theorem bs_self (s : ByteArray) : bs s.data.toList = s := Lib.mk_data s
theorem bs_size (l : List UInt8) : (bs l).size = l.length := rfl

set_option maxHeartbeats 1000000 in
theorem cut_any (s p : ByteArray) (w : World) (hs : s.size ≤ 9223372036854775807) :
    Calls Try.prog 49 #[.string s, .string p] w fun e w' => e = .returned (.tuple #[.string (bs (cutS s.data.toList p.data.toList).1), .bool (cutS s.data.toList p.data.toList).2]) ∧ w' = w := by
  have hw : p.size ≤ s.size → ((s.size : Int) - (p.size : Int) + 9223372036854775808) % 18446744073709551616 - 9223372036854775808 = ((s.size - p.size : Nat) : Int) := fun _ => by omega
  unfold cutS bs
  by_cases h : p.size ≤ s.size
  · by_cases he : ((s.extract (s.size - p.size) s.size).toList == p.toList) = true
    · have h2 := Lib.trimSuffix_hit s p h he
      have h3 := Lib.hasSuffix_raw s p
      rw [he, decide_eq_true h, Bool.and_true] at h3
      go_enter Try.func49, Try.ntmps49
      go_wp2
      all_goals first
        | (go_ret2; exact ⟨by rw [h2, ← h3]; rfl, rfl⟩)
        | (exfalso; simp_all)
    · have he : ((s.extract (s.size - p.size) s.size).toList == p.toList) = false := by simpa using he
      have h3 := Lib.hasSuffix_raw s p
      have h2 := Lib.trimSuffix_miss s p (by rw [he, Bool.and_false])
      rw [he, Bool.and_false] at h3
      go_enter Try.func49, Try.ntmps49
      go_wp2
      all_goals first
        | (go_ret2; exact ⟨by rw [h2, ← h3]; rfl, rfl⟩)
        | (exfalso; simp_all)
  · have h3 := Lib.hasSuffix_raw s p
    have h2 := Lib.trimSuffix_miss s p (by rw [decide_eq_false h, Bool.false_and])
    rw [decide_eq_false h, Bool.false_and] at h3
    have H2 := hid h2
    have H3 := hid h3
    clear hw h2 h3
    go_enter Try.func49, Try.ntmps49
    go_wp2
    go_ret2
    exact ⟨by rw [H2.out, ← H3.out]; rfl, rfl⟩

set_option maxHeartbeats 1000000 in
set_option maxRecDepth 100000 in
theorem at_in (s : ByteArray) (c : Int) (w : World) :
    Calls Try.prog 51 #[.string s, .int .u8 c] w fun e w' => e = .returned (.int .i64 (Lib.indexByte s.data.toList c.toNat.toUInt8)) ∧ w' = w := by
  go_enter Try.func51, Try.ntmps51
  go_wp2
  rw [run_callFunc_extern Try.func54 (by kernel_rfl) (by kernel_rfl) (by kernel_rfl) (e := Extern.BytealgIndexByte.indexByte) (by kernel_rfl), Lib.run_indexByteString]
  simp only [Result.andThen]
  rw [Oper.upon_value]
  go_wp2
  go_ret
  exact ⟨rfl, rfl⟩
theorem at_any (s : ByteArray) (c : Int) (w : World) :
    Calls Try.prog 44 #[.string s, .int .u8 c] w fun e w' => e = .returned (.int .i64 (Lib.indexByte s.data.toList c.toNat.toUInt8)) ∧ w' = w := by
  go_enter Try.func44, Try.ntmps44
  go_wp2_with fail
  refine (at_in _ _ _).mono ?_
  rintro e w' ⟨rfl, rfl⟩
  go_wp2_with fail
  go_ret
  exact ⟨rfl, rfl⟩

def sLog : List UInt8 := [95, 108, 111, 103]
def sData : List UInt8 := [95, 100, 97, 116, 97]
def sMeta : List UInt8 := [95, 109, 101, 116, 97]
def sSpare : List UInt8 := [95, 115, 112, 97, 114, 101]
def sLeg : List UInt8 := [95, 108, 101, 103]
theorem texts_any (w : World) : Calls Try.prog 43 #[] w fun e w' => e = .returned (.agg #[.string (bs sLog), .string (bs sData), .string (bs sMeta), .string (bs sSpare)]) ∧ Below w.heap.size w w' := by
  go_enter Try.func43, Try.ntmps43
  go_wp2
  refine bodyPost_ret (v := .agg #[.string (bs sLog), .string (bs sData), .string (bs sMeta), .string (bs sSpare)]) (by simp [results, Try.results43, go_sem]; exact ⟨rfl, rfl, rfl, rfl⟩) rfl ⟨rfl, ?_⟩
  exact (Below.refl _ _).alloc (Nat.le_refl _) _
theorem bytes_any (w : World) : Calls Try.prog 40 #[] w fun e w' => e = .returned (.agg #[.int .u64 288063250384289792, .int .u64 576460745995190270]) ∧ Below w.heap.size w w' := by
  go_enter Try.func40, Try.ntmps40
  go_wp2
  refine bodyPost_ret (v := .agg #[.int .u64 288063250384289792, .int .u64 576460745995190270]) (by simp [results, Try.results40, go_sem]) rfl ⟨rfl, ?_⟩
  exact (Below.refl _ _).alloc (Nat.le_refl _) _

/-- the byte c is in the set of two words -/
def inSet (x y : Int) (c : Nat) : Bool := decide (c < 128) && (if c < 64 then bits BinOp.and IntKind.u64 (x / 2 ^ c) 1 == 1 else bits BinOp.and IntKind.u64 (y / 2 ^ (c - 64)) 1 == 1)
set_option maxHeartbeats 1000000 in
theorem has_any (x y : Int) (c : Nat) (hc : c < 256) (w : World) :
    Calls Try.prog 50 #[.agg #[.int .u64 x, .int .u64 y], .int .u8 (c : Int)] w fun e w' => e = .returned (.bool (inSet x y c)) ∧ w' = w.alloc (.cells #[.int .u64 x, .int .u64 y] 51) := by
  by_cases h : (c : Int) < 128
  · by_cases h1 : (c : Int) < 64
    · have h2 : (c : Int) / 64 = 0 := by omega
      have h3 : (c : Int) % 64 = c := by omega
      have hv := hid (show inSet x y c = (bits BinOp.and IntKind.u64 (x / 2 ^ c) 1 == 1) by unfold inSet; rw [decide_eq_true (by omega), if_pos (by omega), Bool.true_and])
      go_enter Try.func50, Try.ntmps50
      go_wp2
      go_ret
      exact ⟨by rw [hv.out]; rfl, rfl⟩
    · obtain ⟨d, rfl⟩ : ∃ d, c = 64 + d := ⟨c - 64, by omega⟩
      have h2 : ((64 + d : Nat) : Int) / 64 = 1 := by omega
      have h3 : ((64 + d : Nat) : Int) % 64 = d := by omega
      have hv := hid (show inSet x y (64 + d) = (bits BinOp.and IntKind.u64 (y / 2 ^ d) 1 == 1) by unfold inSet; rw [decide_eq_true (by omega), if_neg (by omega), Bool.true_and, Nat.add_sub_cancel_left])
      generalize hk : ((64 + d : Nat) : Int) = k at *
      go_enter Try.func50, Try.ntmps50
      go_wp2
      go_ret
      exact ⟨by rw [hv.out]; rfl, rfl⟩
  · have hv := hid (show inSet x y c = false by unfold inSet; rw [decide_eq_false (by omega), Bool.false_and])
    go_enter Try.func50, Try.ntmps50
    go_wp2
    go_ret
    exact ⟨by rw [hv.out]; rfl, rfl⟩
end Go.Proofs.Ytdpclmogfnigdaa
