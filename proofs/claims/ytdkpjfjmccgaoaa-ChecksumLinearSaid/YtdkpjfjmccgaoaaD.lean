/- Bytes and Short of layer 1, and the sanity check. No conditions but those of each theorem. -/
import Derived.Test.YtdkpjfjmccgaoaaC
import Derived.Lib.SlBytesConst
namespace Go.Proofs.Ytdkpjfjmccgaoaa
open Go.ChangeShapes Go.WideShapes Go.ChangeAt Go.RowKit
set_option linter.unusedVariables false

/-- a byte into the register -/
def fd (r c : Nat) : Nat := (r / 256) ^^^ sh8 ((r % 256) ^^^ c)
theorem fd_lt (r c : Nat) (h : r < 4294967296) (hc : c < 256) : fd r c < 4294967296 := by
  have h1 : (r % 256) ^^^ c < 2 ^ 8 := Nat.xor_lt_two_pow (by omega) (by omega)
  have h2 := sh8_lt ((r % 256) ^^^ c) (by omega)
  have h3 : (r / 256) ^^^ sh8 ((r % 256) ^^^ c) < 2 ^ 32 := Nat.xor_lt_two_pow (by omega) (by omega)
  exact h3

theorem TabV.one {cs : Array Value} (h : TabV cs) : cs.all (·.oneCell') = true := by
  rw [Array.all_eq_true]
  intro x hx
  have := h.2 x (by have := h.1; omega)
  rw [Array.getElem?_eq_getElem hx] at this
  rw [Option.some.inj this]; rfl

/-- the table lies in block B -/
def InB (B : Nat) (w : World) : Prop := ∀ x, x < 256 → w.cell? ⟨B, x, none⟩ = some (.int .u32 (sh8 x : Nat))

def By (w : World) (a : Option Addr) (len : Nat) (bs : List Nat) : Prop :=
  ∀ j, j < len → bs.getD j 0 < 256 ∧ ∃ b off, a = some ⟨b, off, none⟩ ∧ w.cell? ⟨b, off + j, none⟩ = some (.int .u8 (bs.getD j 0 : Nat))

/-- the register behind the first k bytes -/
def fds (r : Nat) (bs : List Nat) : Nat → Nat
  | 0 => r
  | k + 1 => fd (fds r bs k) (bs.getD k 0)

/-- all bits turned -/
def nt (r : Nat) : Nat := 4294967295 ^^^ r
theorem nt_lt (r : Nat) (h : r < 4294967296) : nt r < 4294967296 := by
  have h1 : 4294967295 ^^^ r < 2 ^ 32 := Nat.xor_lt_two_pow (by omega) (by omega)
  exact h1
theorem nt_eq (r : Nat) (h : r < 4294967296) : bits .xor .u32 IntKind.u32.max (r : Int) = (nt r : Nat) := by
  rw [show IntKind.u32.max = ((4294967295 : Nat) : Int) by decide, u32_xor_nat _ _ (by omega) h]
  rfl

theorem fds_lt (r : Nat) (bs : List Nat) (h : r < 4294967296) {len : Nat} (hb : ∀ j, j < len → bs.getD j 0 < 256) (k : Nat) (hk : k ≤ len) : fds r bs k < 4294967296 := by
  induction k with
  | zero => exact h
  | succ k ih => exact fd_lt _ _ (ih (by omega)) (hb k (by omega))

theorem idx_lt (r c : Nat) (hc : c < 256) : (r % 256) ^^^ c < 256 := by
  have h1 : (r % 256) ^^^ c < 2 ^ 8 := Nat.xor_lt_two_pow (by omega) (by omega)
  exact h1

theorem idx_eq (r c : Nat) (h : r < 4294967296) (hc : c < 256) : bits .xor .u8 ((r : Int) % 256) (c : Int) = (((r % 256) ^^^ c : Nat) : Int) := by
  have : ((r : Int) % 256) = ((r % 256 : Nat) : Int) := by omega
  rw [this, u8_xor_nat _ _ (by omega) hc]

theorem fd_eq (r c : Nat) (h : r < 4294967296) (hc : c < 256) : bits .xor .u32 ((r : Int) / 256) (sh8 ((r % 256) ^^^ c) : Nat) = (fd r c : Nat) := by
  have := sh8_lt ((r % 256) ^^^ c) (by have := idx_lt r c hc; omega)
  rw [show ((r : Int) / 256) = ((r / 256 : Nat) : Int) by omega, u32_xor_nat _ _ (by omega) this]
  rfl

theorem inB_new (w1 : World) (cs : Array Value) (h : TabV cs) : InB w1.heap.size ((w1.alloc (Obj.cells Z256 45)).setRow w1.heap.size cs) := by
  intro x hx
  rw [cell_setRow_same _ _ x Z256 cs 45 (0, 0) (heap_alloc_new _ _)]
  exact h.2 x hx

theorem below_new (w w1 : World) (cs : Array Value) (h : Below w.heap.size w w1) : Below w.heap.size w ((w1.alloc (Obj.cells Z256 45)).setRow w1.heap.size cs) :=
  (h.alloc h.size _).trans ⟨rfl, rfl, rfl, by simp, fun k hk => setRow_other _ _ _ _ (by have := h.size; omega)⟩

theorem By.kept {w w' : World} {a : Option Addr} {len : Nat} {bs : List Nat} (h : By w a len bs) (hb : Below w.heap.size w w') : By w' a len bs := by
  intro j hj
  obtain ⟨h1, b, off, e, hc⟩ := h j hj
  have hB : b < w.heap.size := block_lt_of_cell hc
  exact ⟨h1, b, off, e, (hb.cell (p := ⟨b, off + j, none⟩) hB).trans hc⟩

set_option maxRecDepth 100000 in
theorem bytes_any (a : Option Addr) (len cap : Nat) (bs : List Nat) (w : World) (hbig : len ≤ 9223372036854775807) (hb : By w a len bs) :
    Calls Try.prog 11 #[.slice a len cap] w fun e w' => e = .returned (.int .u32 (nt (fds 4294967295 bs len) : Nat)) ∧ Below w.heap.size w w' := by
  have hz := zero45
  have HB := hid hb
  clear hb
  go_enter Try.func11, Try.ntmps11
  go_wp2_with (first | (go_at_call 21; refine (table_any _).mono ?_; rintro e w1 ⟨cs, rfl, hV, hb1⟩; have HV := hid hV; clear hV; have hi := hid (show (Try.prog.info? 45).map (·.size) = some cs.size by rw [HV.out.1]; kernel_rfl); have h1c := hid (HV.out.one)) | (refine wpList_store_row rfl 45 _ _ rfl _ cs rfl rfl 45 Z256 (heap_alloc_new _ _) hi.out (by rw [HV.out.1]; rfl) h1c.out ?_))
  have hI := hid (inB_new w1 cs HV.out)
  have hb5 := hid (below_new w w1 cs hb1)
  have HB5 := hid (By.kept HB.out hb5.out)
  generalize hw5 : (w1.alloc (Obj.cells Z256 45)).setRow w1.heap.size cs = w5 at hI hb5 HB5 ⊢
  clear hw5 hz
  go_loop [4, 10] (fun r i => ∃ k : Nat, k ≤ len ∧ i = .int .i64 (k : Int) ∧ r = .int .u32 (fds 4294967295 bs k : Nat)) (fun _ i => len - (intOf i).toNat)
  case atStart => exact ⟨0, by omega, rfl, rfl⟩
  case round =>
    obtain ⟨k, hk, rfl, rfl⟩ := hrel
    by_cases hlt : k < len
    · obtain ⟨hc, b, off, rfl, hck⟩ := HB5.out k hlt
      have hn := hid (show fds 4294967295 bs (k + 1) = fd (fds 4294967295 bs k) (bs.getD k 0) from rfl)
      have hr := fds_lt 4294967295 bs (by omega) (fun j hj => (HB5.out j hj).1) k (by omega)
      generalize fds 4294967295 bs k = r at hn hr ⊢
      generalize bs.getD k 0 = c at hn hc hck
      have he := idx_eq r c hr hc
      have hi := idx_lt r c hc
      have hx := hI.out _ hi
      have hf := hid (fd_eq r c hr hc)
      generalize hid' : (r % 256) ^^^ c = x at he hi hx hf
      clear hid'
      have hi2 : (x : Int) < 256 := by omega
      go_wp2_with fail
      go_round
      case rel => exact ⟨k + 1, by omega, by go_num, by rw [hn.out, hf.out]⟩
      case measure => simp [intOf]; omega
    · obtain rfl : k = len := by omega
      have hlt' : ¬ (k : Int) < (k : Int) := by omega
      have hr := fds_lt 4294967295 bs (by omega) (fun j hj => (HB5.out j hj).1) k (by omega)
      go_wp2_with fail
      go_ret
      exact ⟨by rw [← nt_eq _ hr]; rfl, hb5.out⟩

theorem short_any (r : Nat) (h : r < 4294967296) (w : World) :
    Calls Try.prog 17 #[.int .u32 (r : Int)] w fun e w' => e = .returned (.int .u16 ((r / 65536) ^^^ (r % 65536) : Nat)) ∧ w = w' := by
  have H := hid (show bits .xor .u16 ((r : Int) / 65536) (IntKind.u16.wrap (r : Int)) = ((r / 65536) ^^^ (r % 65536) : Nat) by
    have : IntKind.u16.wrap (r : Int) = ((r % 65536 : Nat) : Int) := by simp [IntKind.wrap, IntKind.bits, IntKind.signed]
    rw [this, show ((r : Int) / 65536) = ((r / 65536 : Nat) : Int) by omega, u16_xor_nat _ _ (by omega) (by omega)])
  go_enter Try.func17, Try.ntmps17
  go_wp2
  go_ret
  exact ⟨by rw [← H.out]; rfl, rfl⟩

theorem nine : nt (fds 4294967295 [49, 50, 51, 52, 53, 54, 55, 56, 57] 9) = 3808858755 := by decide +kernel

theorem bytes_awake (w : World) :
    Calls Try.prog 11 #[.slice (some ⟨w.heap.size, 0, none⟩) 9 9] (w.alloc (.cells #[.int .u8 49, .int .u8 50, .int .u8 51, .int .u8 52, .int .u8 53, .int .u8 54, .int .u8 55, .int .u8 56, .int .u8 57] 5 (9, 10))) fun e w' => e = .returned (.int .u32 3808858755) ∧ Below w.heap.size w w' := by
  have h := bytes_any (some ⟨w.heap.size, 0, none⟩) 9 9 [49, 50, 51, 52, 53, 54, 55, 56, 57] (w.alloc (.cells #[.int .u8 49, .int .u8 50, .int .u8 51, .int .u8 52, .int .u8 53, .int .u8 54, .int .u8 55, .int .u8 56, .int .u8 57] 5 (9, 10))) (by omega) (fun j hj => ⟨by
    match j, hj with
    | 0, _ => decide
    | 1, _ => decide
    | 2, _ => decide
    | 3, _ => decide
    | 4, _ => decide
    | 5, _ => decide
    | 6, _ => decide
    | 7, _ => decide
    | 8, _ => decide, w.heap.size, 0, rfl, by
    rw [cell_of_row _ _ _ _ 5 (9, 10) (heap_alloc_new _ _)]
    match j, hj with
    | 0, _ => rfl
    | 1, _ => rfl
    | 2, _ => rfl
    | 3, _ => rfl
    | 4, _ => rfl
    | 5, _ => rfl
    | 6, _ => rfl
    | 7, _ => rfl
    | 8, _ => rfl⟩)
  rw [nine] at h
  exact h.mono fun e w' ⟨he, hb⟩ => ⟨he, ((Below.refl _ _).alloc (Nat.le_refl _) _).trans (hb.mono (by simp))⟩

theorem short_awake (w : World) : Calls Try.prog 17 #[.int .u32 65539] w fun e w' => e = .returned (.int .u16 2) ∧ w = w' := by
  have h := short_any 65539 (by omega) w
  exact h

theorem awake_ok (w : World) :
    Calls Try.prog 10 #[] w fun e w' => e = .returned (.bool true) ∧ Below w.heap.size w w' := by
  have kc := fun (w : World) (C : Array Value) (n c : Nat) => Lib.run_convert_bytes_const (P := Try.prog) w 22 5 C n c Try.underlying22 Try.underlying5
  go_enter Try.func10, Try.ntmps10
  go_wp2_with fail
  refine (bytes_awake _).mono ?_
  rintro e w1 ⟨rfl, hb1⟩
  go_wp2_with fail
  refine (short_awake _).mono ?_
  rintro e w2 ⟨rfl, rfl⟩
  go_wp2_with fail
  go_ret
  exact ⟨rfl, hb1⟩

/-- what the walk is told of a slice of integers that came in: it is nil, or it leads to a row of 'cap' cells, the numbers 'zs', each fitting its kind -/
def IsRow (k : IntKind) (w : World) (a : Option Addr) (len cap : Nat) (zs : List Int) : Prop :=
  (a = none ∧ len = 0 ∧ cap = 0 ∧ zs = []) ∨
  ∃ x, a = some x ∧ len ≤ cap ∧ cap ≤ maxLen ∧ zs.length = cap ∧ (∀ i, i < zs.length → w.cell? (x.add i) = some (.int k (zs.getD i 0))) ∧ ∀ n ∈ zs, (Lit.int k n).wf = true
end Go.Proofs.Ytdkpjfjmccgaoaa
