/- Bytes and Short of layer 1, and the sanity check. No conditions but those of each theorem. -/
import Derived.Test.YtonjaghkiaaipaaOAC
import Derived.Lib.SlBytesConst
namespace Go.Proofs.Ytonjaghkiaaipaa.OldA
open Go.ChangeShapes Go.WideShapes Go.ChangeAt Go.RowKit
set_option linter.unusedVariables false

/-- a byte into the register -/
def fd (r c : Nat) : Nat := (r / 256) ^^^ sh8 ((r % 256) ^^^ c)
theorem fd_lt (r c : Nat) (h : r < 4294967296) (hc : c < 256) : fd r c < 4294967296 := by
  have h1 : (r % 256) ^^^ c < 2 ^ 8 := Nat.xor_lt_two_pow (by omega) (by omega)
  have h2 := sh8_lt ((r % 256) ^^^ c) (by omega)
  have h3 : (r / 256) ^^^ sh8 ((r % 256) ^^^ c) < 2 ^ 32 := Nat.xor_lt_two_pow (by omega) (by omega)
  exact h3

theorem TabV.one {cs : Array Value} (h : TabV cs) : cs.all (·.oneCell') = true := by
  rw [Array.all_eq_true]
  intro x hx
  have := h.2 x (by have := h.1; omega)
  rw [Array.getElem?_eq_getElem hx] at this
  rw [Option.some.inj this]; rfl

/-- the table lies in block B -/
def InB (B : Nat) (w : World) : Prop := ∀ x, x < 256 → w.cell? ⟨B, x, none⟩ = some (.int .u32 (sh8 x : Nat))

def By (w : World) (a : Option Addr) (len : Nat) (bs : List Nat) : Prop :=
  ∀ j, j < len → bs.getD j 0 < 256 ∧ ∃ b off, a = some ⟨b, off, none⟩ ∧ w.cell? ⟨b, off + j, none⟩ = some (.int .u8 (bs.getD j 0 : Nat))

/-- the register behind the first k bytes -/
def fds (r : Nat) (bs : List Nat) : Nat → Nat
  | 0 => r
  | k + 1 => fd (fds r bs k) (bs.getD k 0)

/-- all bits turned -/
def nt (r : Nat) : Nat := 4294967295 ^^^ r
theorem nt_lt (r : Nat) (h : r < 4294967296) : nt r < 4294967296 := by
  have h1 : 4294967295 ^^^ r < 2 ^ 32 := Nat.xor_lt_two_pow (by omega) (by omega)
  exact h1
theorem nt_eq (r : Nat) (h : r < 4294967296) : bits .xor .u32 IntKind.u32.max (r : Int) = (nt r : Nat) := by
  rw [show IntKind.u32.max = ((4294967295 : Nat) : Int) by decide, u32_xor_nat _ _ (by omega) h]
  rfl

theorem fds_lt (r : Nat) (bs : List Nat) (h : r < 4294967296) {len : Nat} (hb : ∀ j, j < len → bs.getD j 0 < 256) (k : Nat) (hk : k ≤ len) : fds r bs k < 4294967296 := by
  induction k with
  | zero => exact h
  | succ k ih => exact fd_lt _ _ (ih (by omega)) (hb k (by omega))

theorem idx_lt (r c : Nat) (hc : c < 256) : (r % 256) ^^^ c < 256 := by
  have h1 : (r % 256) ^^^ c < 2 ^ 8 := Nat.xor_lt_two_pow (by omega) (by omega)
  exact h1

theorem idx_eq (r c : Nat) (h : r < 4294967296) (hc : c < 256) : bits .xor .u8 ((r : Int) % 256) (c : Int) = (((r % 256) ^^^ c : Nat) : Int) := by
  have : ((r : Int) % 256) = ((r % 256 : Nat) : Int) := by omega
  rw [this, u8_xor_nat _ _ (by omega) hc]

theorem fd_eq (r c : Nat) (h : r < 4294967296) (hc : c < 256) : bits .xor .u32 ((r : Int) / 256) (sh8 ((r % 256) ^^^ c) : Nat) = (fd r c : Nat) := by
  have := sh8_lt ((r % 256) ^^^ c) (by have := idx_lt r c hc; omega)
  rw [show ((r : Int) / 256) = ((r / 256 : Nat) : Int) by omega, u32_xor_nat _ _ (by omega) this]
  rfl

theorem inB_new (w1 : World) (cs : Array Value) (h : TabV cs) : InB w1.heap.size ((w1.alloc (Obj.cells Z256 94)).setRow w1.heap.size cs) := by
  intro x hx
  rw [cell_setRow_same _ _ x Z256 cs 94 (0, 0) (heap_alloc_new _ _)]
  exact h.2 x hx

theorem below_new (w w1 : World) (cs : Array Value) (h : Below w.heap.size w w1) : Below w.heap.size w ((w1.alloc (Obj.cells Z256 94)).setRow w1.heap.size cs) :=
  (h.alloc h.size _).trans ⟨rfl, rfl, rfl, by simp, fun k hk => setRow_other _ _ _ _ (by have := h.size; omega)⟩

theorem By.kept {w w' : World} {a : Option Addr} {len : Nat} {bs : List Nat} (h : By w a len bs) (hb : Below w.heap.size w w') : By w' a len bs := by
  intro j hj
  obtain ⟨h1, b, off, e, hc⟩ := h j hj
  have hB : b < w.heap.size := block_lt_of_cell hc
  exact ⟨h1, b, off, e, (hb.cell (p := ⟨b, off + j, none⟩) hB).trans hc⟩

set_option maxRecDepth 100000 in
theorem short_any (r : Nat) (h : r < 4294967296) (w : World) :
    Calls Try.prog 55 #[.int .u32 (r : Int)] w fun e w' => e = .returned (.int .u16 ((r / 65536) ^^^ (r % 65536) : Nat)) ∧ w = w' := by
  have H := hid (show bits .xor .u16 ((r : Int) / 65536) (IntKind.u16.wrap (r : Int)) = ((r / 65536) ^^^ (r % 65536) : Nat) by
    have : IntKind.u16.wrap (r : Int) = ((r % 65536 : Nat) : Int) := by simp [IntKind.wrap, IntKind.bits, IntKind.signed]
    rw [this, show ((r : Int) / 65536) = ((r / 65536 : Nat) : Int) by omega, u16_xor_nat _ _ (by omega) (by omega)])
  go_enter Try.func55, Try.ntmps55
  go_wp2
  go_ret
  exact ⟨by rw [← H.out]; rfl, rfl⟩

theorem nine : nt (fds 4294967295 [49, 50, 51, 52, 53, 54, 55, 56, 57] 9) = 3808858755 := by decide +kernel

theorem short_awake (w : World) : Calls Try.prog 55 #[.int .u32 65539] w fun e w' => e = .returned (.int .u16 2) ∧ w = w' := by
  have h := short_any 65539 (by omega) w
  exact h

/-- what the walk is told of a slice of integers that came in: it is nil, or it leads to a row of 'cap' cells, the numbers 'zs', each fitting its kind -/
def IsRow (k : IntKind) (w : World) (a : Option Addr) (len cap : Nat) (zs : List Int) : Prop :=
  (a = none ∧ len = 0 ∧ cap = 0 ∧ zs = []) ∨
  ∃ x, a = some x ∧ len ≤ cap ∧ cap ≤ maxLen ∧ zs.length = cap ∧ (∀ i, i < zs.length → w.cell? (x.add i) = some (.int k (zs.getD i 0))) ∧ ∀ n ∈ zs, (Lit.int k n).wf = true
end Go.Proofs.Ytonjaghkiaaipaa.OldA
