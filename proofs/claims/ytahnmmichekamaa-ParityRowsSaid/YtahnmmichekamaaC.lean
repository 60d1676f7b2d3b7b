/- Contracts of the functions of layer 18 (parity) on words: Xor and Rebuild, and the exclusive or of the reference. No conditions but those of each theorem. -/
import Derived.Test.YtahnmmichekamaaRows
import Derived.WalkKit
import Derived.ProofKit
import Derived.OpenShut
import Derived.LoopTactic
import Derived.Outline
import Derived.Below
import Derived.WalkLawsBesides
import Derived.WalkSpells
import Derived.Deep.QuietTactic
import Derived.BigQuiet
import Derived.RegionTactic
namespace Go.Proofs.Ytahnmmichekamaa
open Go.ChangeShapes Go.WideShapes Go.ChangeAt Go.RowKit
set_option linter.unusedVariables false
theorem bcell {W w1 : World} (hb : Below W.heap.size W w1) : (∀ b o, b < W.heap.size → w1.cell? ⟨b, o, none⟩ = W.cell? ⟨b, o, none⟩) ∧ (∀ b o, b < W.heap.size → w1.frozen? ⟨b, o, none⟩ = W.frozen? ⟨b, o, none⟩) :=
  ⟨fun b o h => hb.cell (p := ⟨b, o, none⟩) h, fun b o h => hb.frozen (p := ⟨b, o, none⟩) h⟩
theorem hid {p : Prop} (h : p) : Hid p := h
theorem bt {W a b : World} (h : Below W.heap.size W a) (k : Below a.heap.size a b) : Below W.heap.size W b := h.trans (k.mono h.size)

theorem xor2 (a b : Int) (w : World) : Calls Try.prog 27 #[.int .u64 a, .int .u64 b] w fun e w' => e = .returned (.int .u64 (bits .xor .u64 a b)) ∧ w = w' := by
  go_enter Try.func27, Try.ntmps27
  go_wp2
  go_ret
  exact ⟨rfl, rfl⟩

def xo (zs : List Int) : Nat → Int
  | 0 => 0
  | k + 1 => bits .xor .u64 (xo zs k) (zs.getD k 0)

/-- what is known of a slice of words -/
def Sl (w : World) (a : Option Addr) (len : Nat) (zs : List Int) : Prop :=
  ∀ j, j < len → ∃ b off, a = some ⟨b, off, none⟩ ∧ w.cell? ⟨b, off + j, none⟩ = some (.int .u64 (zs.getD j 0))

theorem fold_any (a : Option Addr) (len cap : Nat) (zs : List Int) (w : World) (hbig : len ≤ 9223372036854775807) (hc : Sl w a len zs) :
    Calls Try.prog 26 #[.slice a len cap, .func (.func 27) #[] #[]] w fun e w' => e = .returned (.int .u64 (xo zs len)) ∧ w = w' := by
  have HC := hid hc
  clear hc
  go_enter Try.func26, Try.ntmps26
  go_wp2
  go_loop [5, 10] (fun m i => ∃ k : Nat, k ≤ len ∧ i = .int .i64 k ∧ m = .int .u64 (xo zs k)) (fun _ i => len - (intOf i).toNat)
  case atStart => exact ⟨0, by omega, rfl, rfl⟩
  case round =>
    obtain ⟨k, hk, rfl, rfl⟩ := hrel
    by_cases hlt : k < len
    · obtain ⟨b, off, rfl, hck⟩ := HC.out k hlt
      have hn := hid (show xo zs (k + 1) = bits .xor .u64 (xo zs k) (zs.getD k 0) from rfl)
      go_wp2_with (first | (go_at_call 27; refine (xor2 _ _ _).mono ?_; rintro e w1 ⟨rfl, rfl⟩))
      go_round
      case rel => exact ⟨k + 1, by omega, by go_num, by rw [hn.out]; simp only [List.getD_eq_getElem?_getD]⟩
      case measure => simp [intOf]; omega
    · obtain rfl : k = len := by omega
      go_wp2
      go_ret
      exact ⟨rfl, rfl⟩

theorem xor_any (a : Option Addr) (len cap : Nat) (zs : List Int) (w : World) (hbig : len ≤ 9223372036854775807) (hc : Sl w a len zs) :
    Calls Try.prog 16 #[.slice a len cap] w fun e w' => e = .returned (.int .u64 (xo zs len)) ∧ w = w' := by
  have HC := hid hc
  clear hc
  go_enter Try.func16, Try.ntmps16
  go_wp2_with (first | (go_at_call 26; refine (fold_any _ _ _ _ _ hbig HC.out).mono ?_; rintro e w1 ⟨rfl, rfl⟩))
  go_ret
  exact ⟨rfl, rfl⟩

theorem xor_q (a : Option Addr) (len cap : Nat) (zs : List Int) (w : World) (hbig : len ≤ 9223372036854775807) (hc : Sl w a len zs) :
    Calls Try.prog 16 #[.slice a len cap] w fun e w' => e = .returned (.int .u64 (xo zs len)) ∧ w' = w :=
  (xor_any a len cap zs w hbig hc).mono fun _ _ ⟨he, hw⟩ => ⟨he, hw.symm⟩

theorem rxor_any (a : Option Addr) (len cap : Nat) (zs : List Int) (w : World) (hbig : len ≤ 9223372036854775807) (hc : Sl w a len zs) :
    Calls Try.prog 17 #[.slice a len cap] w fun e w' => e = .returned (.int .u64 (xo zs len)) ∧ w = w' := by
  have HC := hid hc
  clear hc
  go_enter Try.func17, Try.ntmps17
  go_wp2
  go_loop [3, 4] (fun m i => ∃ k : Nat, k ≤ len ∧ i = .int .i64 k ∧ m = .int .u64 (xo zs k)) (fun _ i => len - (intOf i).toNat)
  case atStart => exact ⟨0, by omega, rfl, rfl⟩
  case round =>
    obtain ⟨k, hk, rfl, rfl⟩ := hrel
    by_cases hlt : k < len
    · obtain ⟨b, off, rfl, hck⟩ := HC.out k hlt
      have hn := hid (show xo zs (k + 1) = bits .xor .u64 (xo zs k) (zs.getD k 0) from rfl)
      go_wp2
      go_round
      case rel => exact ⟨k + 1, by omega, by go_num, by rw [hn.out]; simp only [List.getD_eq_getElem?_getD]⟩
      case measure => simp [intOf]; omega
    · obtain rfl : k = len := by omega
      go_wp2
      go_ret
      exact ⟨rfl, rfl⟩

theorem within_yes (a m : Int) (h0 : 0 ≤ a) (h1 : a ≤ m) (w : World) :
    Calls Try.prog 20 #[.int .i64 a, .int .i64 m] w fun e w' => e = .returned (.bool true) ∧ w = w' := by
  go_enter Try.func20, Try.ntmps20
  go_wp2
  go_ret
  exact ⟨rfl, rfl⟩
theorem within_no (a m : Int) (h : a < 0 ∨ m < a) (w : World) :
    Calls Try.prog 20 #[.int .i64 a, .int .i64 m] w fun e w' => e = .returned (.bool false) ∧ w = w' := by
  by_cases h0 : 0 ≤ a
  · have h1 : m < a := by omega
    have hd : decide (a ≤ m) = false := by simp; omega
    clear h
    go_enter Try.func20, Try.ntmps20
    go_wp2
    go_ret
    exact ⟨rfl, rfl⟩
  · clear h
    go_enter Try.func20, Try.ntmps20
    go_wp2
    go_ret
    exact ⟨rfl, rfl⟩

theorem rebuild_ok (a : Option Addr) (len cap : Nat) (zs : List Int) (m : Nat) (w : World) (hbig : len ≤ 9223372036854775807) (hc : Sl w a len zs) (hm : m < len) :
    Calls Try.prog 14 #[.slice a len cap, .int .i64 m] w fun e w' => e = .returned (.tuple #[.int .u64 (bits .xor .u64 (xo zs len) (zs.getD m 0)), .int .i64 0]) ∧ Below w.heap.size w w' := by
  obtain ⟨b, off, rfl, hck⟩ := hc m hm
  have HC := hid hc
  clear hc
  have hm0 : (0 : Int) ≤ m := by omega
  have hm1 : (m : Int) ≤ (len : Int) - 1 := by omega
  go_enter Try.func14, Try.ntmps14
  go_wp2_with (first | (go_at_call 20; refine (within_yes _ _ hm0 hm1 _).mono ?_; rintro e w1 ⟨rfl, rfl⟩))
  go_quiet ((go_at_call 16; exact Calls.quiet_of_same (xor_q _ len cap zs _ hbig HC.out)))
  go_wp2

  go_ret2
  exact ⟨rfl, below_drewN (Below.refl _ _) _⟩

theorem rebuild_no (a : Option Addr) (len cap : Nat) (m : Int) (w : World) (hbig : len ≤ 9223372036854775807) (hm : m < 0 ∨ (len : Int) - 1 < m) :
    Calls Try.prog 14 #[.slice a len cap, .int .i64 m] w fun e w' => e = .returned (.tuple #[.int .u64 0, .int .i64 1]) ∧ Below w.heap.size w w' := by
  have HM := hid hm
  clear hm
  go_enter Try.func14, Try.ntmps14
  go_wp2_with (first | (go_at_call 20; refine (within_no _ _ HM.out _).mono ?_; rintro e w1 ⟨rfl, rfl⟩))
  go_ret2
  exact ⟨rfl, Below.refl _ _⟩
end Go.Proofs.Ytahnmmichekamaa
