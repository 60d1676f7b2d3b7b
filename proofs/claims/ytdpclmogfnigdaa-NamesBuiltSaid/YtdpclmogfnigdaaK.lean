/- Numbers from a list: New, Raw, N and Range of the statements' builder. No conditions but those of each theorem. -/
import Derived.Test.YtdpclmogfnigdaaJ
namespace Go.Proofs.Ytdpclmogfnigdaa
open Go.ChangeShapes Go.WideShapes Go.ChangeAt Go.RowKit
set_option linter.unusedVariables false
set_option linter.unusedSimpArgs false

/-- numbers that came in, in blocks below n₀ -/
def Nums (n₀ : Nat) (W : World) (a : Option Addr) (len : Nat) : Prop :=
  len = 0 ∨ ∃ b off, a = some ⟨b, off, none⟩ ∧ b < n₀ ∧ ∀ j, j < len → ∃ z : Int, -9223372036854775808 ≤ z ∧ z ≤ 9223372036854775807 ∧ W.cell? ⟨b, off + j, none⟩ = some (.int .i64 z)
theorem Nums.below {n₀ : Nat} {A B : World} (h : Below n₀ A B) {a : Option Addr} {len : Nat} : Nums n₀ A a len → Nums n₀ B a len
  | .inl e => .inl e
  | .inr ⟨b, off, e, hb, hc⟩ => .inr ⟨b, off, e, hb, fun j hj => by
      obtain ⟨z, h1, h2, h3⟩ := hc j hj
      exact ⟨z, h1, h2, (h.cell (p := ⟨b, off + j, none⟩) hb).trans h3⟩⟩
/-- a reader of numbers lies in block B -/
def SrcOK (n₀ B : Nat) (W : World) : Prop :=
  ∃ (a : Option Addr) (len cap at' : Nat), W.heap[B]? = some (.cells #[.slice a len cap, .int .i64 (at' : Int)] 47 (0, 0)) ∧ at' ≤ len ∧ len ≤ 1000 ∧ Nums n₀ W a len
theorem SrcOK.lt {n₀ B : Nat} {W : World} (h : SrcOK n₀ B W) : B < W.heap.size := by
  obtain ⟨a, len, cap, at', hb, _⟩ := h
  exact (Array.getElem?_eq_some_iff.1 hb).1
/-- what keeps block B and all below n₀ keeps the reader -/
theorem SrcOK.kept {n₀ B : Nat} {W W' : World} {row : Option Nat} (h : SrcOK n₀ B W) (hg : W.grownBy W' row) (hB : some B ≠ row) (hn : n₀ ≤ W.heap.size) (hr : ∀ k, row = some k → n₀ ≤ k) : SrcOK n₀ B W' := by
  obtain ⟨a, len, cap, at', hb, h1, h2, h3⟩ := h
  exact ⟨a, len, cap, at', (hg.block B (Array.getElem?_eq_some_iff.1 hb).1 hB).trans hb, h1, h2, h3.below ((Below.refl n₀ W).grown hg hn hr)⟩
theorem grown_drewN (W : World) (n : Nat) (row : Option Nat) : W.grownBy (W.drewN n) row := ⟨rfl, rfl, rfl, Nat.le_refl _, fun _ _ _ => rfl⟩
theorem grown_trans {A B C : World} {row : Option Nat} (h : A.grownBy B row) (k : B.grownBy C row) : A.grownBy C row :=
  ⟨k.os.trans h.os, k.tape.trans h.tape, k.output.trans h.output, Nat.le_trans h.size k.size, fun i hi hne => (k.block i (Nat.lt_of_lt_of_le hi h.size) hne).trans (h.block i hi hne)⟩
theorem grown_cell (W : World) (B off : Nat) (v : Value) : W.grownBy (W.setCell ⟨B, off, none⟩ v) (some B) :=
  ⟨rfl, rfl, rfl, by simp, fun i _ hne => heap_setCell_other _ _ _ _ (fun e => hne (by rw [e]))⟩

set_option maxHeartbeats 1000000 in
theorem raw_ok (n₀ B : Nat) (hB : n₀ ≤ B) (W : World) (hS : SrcOK n₀ B W) :
    Calls Try.prog 37 #[.pointer (some ⟨B, 0, none⟩)] W fun e W' => ∃ z : Int, -9223372036854775808 ≤ z ∧ z ≤ 9223372036854775807 ∧ e = .returned (.int .i64 z) ∧ Hid (W.grownBy W' (some B) ∧ SrcOK n₀ B W') := by
  obtain ⟨a, len, cap, k, hb, h1, h2, h3⟩ := hS
  have HB := hid hb
  have HN := hid h3
  have c0 : W.cell? ⟨B, 0, none⟩ = some (.slice a len cap) := by rw [cell_of_row _ _ _ _ _ _ hb]; rfl
  have c1 : W.cell? ⟨B, 1, none⟩ = some (.int .i64 (k : Int)) := by rw [cell_of_row _ _ _ _ _ _ hb]; rfl
  have f1 : W.frozen? ⟨B, 1, none⟩ = false := frozen_of_row _ _ _ _ _ hb
  clear hb h3
  by_cases hlt : k < len
  · obtain ⟨b, off, rfl, hbn, hc⟩ := HN.out.resolve_left (by omega)
    obtain ⟨z, z1, z2, hz⟩ := hc k hlt
    have hlt2 : ¬ (len : Int) ≤ (k : Int) := by omega
    have hne : b ≠ B := by omega
    clear hc
    go_enter Try.func37, Try.ntmps37
    go_wp2_with fail
    go_quiet (fail)
    go_wp2_with fail
    have HB1 := hid (show (W.drewN nq).heap[B]? = _ from HB.out)
    have HB2 := hid (heap_setCell_same (W.drewN nq) B 1 #[.slice (some ⟨b, off, none⟩) len cap, .int .i64 (k : Int)] 47 (.int .i64 ((k : Int) + 1)) HB1.out)
    have g1 := hid (grown_trans (grown_drewN W nq (some B)) (grown_cell (W.drewN nq) B 1 (.int .i64 ((k : Int) + 1))))
    have HW2 := hid (show (W.setCell ⟨B, 1, none⟩ (.int .i64 ((k : Int) + 1))).drewN nq = (W.drewN nq).setCell ⟨B, 1, none⟩ (.int .i64 ((k : Int) + 1)) from rfl)
    have HS2 := hid (show SrcOK n₀ B ((W.drewN nq).setCell ⟨B, 1, none⟩ (.int .i64 ((k : Int) + 1))) from ⟨_, len, cap, k + 1, by rw [HB2.out]; rfl, by omega, h2, HN.out.below ((show Below n₀ W (W.drewN nq) from ⟨rfl, rfl, rfl, Nat.le_refl _, fun _ _ => rfl⟩).setCell (p := ⟨B, 1, none⟩) hB _)⟩)
    generalize (W.drewN nq).setCell ⟨B, 1, none⟩ (.int .i64 ((k : Int) + 1)) = W2 at *
    have d0 : W2.cell? ⟨B, 0, none⟩ = some (.slice (some ⟨b, off, none⟩) len cap) := by rw [cell_of_row _ _ _ _ _ _ HB2.out]; rfl
    have d1 : W2.cell? ⟨B, 1, none⟩ = some (.int .i64 ((k : Int) + 1)) := by rw [cell_of_row _ _ _ _ _ _ HB2.out]; rfl
    have d2 : W2.cell? ⟨b, off + k, none⟩ = some (.int .i64 z) := by
      have hlt3 : b < W.heap.size := block_lt_of_cell hz
      exact (World.cell?_of_block (a := ⟨b, off + k, none⟩) (g1.out.block b hlt3 (fun e => hne (Option.some.inj e)))).trans hz
    clear c0 c1 f1 hz
    go_quiet (fail)
    go_wp2_with fail
    go_ret
    exact ⟨z, z1, z2, rfl, grown_trans g1.out (grown_drewN _ _ _), HS2.out⟩
  · obtain rfl : k = len := by omega
    have hlt2 : (k : Int) ≤ (k : Int) := by omega
    go_enter Try.func37, Try.ntmps37
    go_wp2_with fail
    go_quiet (fail)
    go_wp2_with fail
    go_ret
    exact ⟨0, by omega, by omega, rfl, grown_drewN _ _ _, ⟨a, k, cap, k, HB.out, by omega, h2, HN.out⟩⟩

theorem n_ok (n₀ B : Nat) (hB : n₀ ≤ B) (m : Int) (hm : 1 ≤ m) (hm2 : m ≤ 1000000) (W : World) (hS : SrcOK n₀ B W) :
    Calls Try.prog 13 #[.pointer (some ⟨B, 0, none⟩), .int .i64 m] W fun e W' => ∃ z : Int, 0 ≤ z ∧ z < m ∧ e = .returned (.int .i64 z) ∧ Hid (W.grownBy W' (some B) ∧ SrcOK n₀ B W') := by
  have HS := hid hS
  have hm3 : ¬ m < 1 := by omega
  have hne : (m == 0) = false := beq_eq_false_iff_ne.2 (by omega)
  clear hS
  go_enter Try.func13, Try.ntmps13
  go_wp2_with fail
  refine (raw_ok n₀ B hB W HS.out).mono ?_
  rintro e W1 ⟨z, z1, z2, rfl, H1⟩
  obtain ⟨y, hy⟩ : ∃ y, z.tmod m = y := ⟨_, rfl⟩
  have y1 : -m < y ∧ y < m := by
    rw [← hy]
    have h1 := Int.tmod_lt_of_pos z (show 0 < m by omega)
    have h2 := Int.tmod_lt_of_pos (-z) (show 0 < m by omega)
    rw [Int.neg_tmod] at h2
    omega
  obtain ⟨y1, y2⟩ := y1
  have w1 : IntKind.i64.wrap y = y := IntWalk.i64_in _ (by omega)
  by_cases hneg : y < 0
  · go_wp2_with fail
    go_ret
    exact ⟨y + m, by omega, by omega, rfl, H1⟩
  · go_wp2_with fail
    go_ret
    exact ⟨y, by omega, by omega, rfl, H1⟩

theorem range_ok (n₀ B : Nat) (hB : n₀ ≤ B) (lo hi : Int) (h1 : lo ≤ hi) (h2 : -100000 ≤ lo) (h3 : hi ≤ 100000) (W : World) (hS : SrcOK n₀ B W) :
    Calls Try.prog 12 #[.pointer (some ⟨B, 0, none⟩), .int .i64 lo, .int .i64 hi] W fun e W' => ∃ z : Int, lo ≤ z ∧ z ≤ hi ∧ e = .returned (.int .i64 z) ∧ Hid (W.grownBy W' (some B) ∧ SrcOK n₀ B W') := by
  have HS := hid hS
  clear hS
  have HN := hid (n_ok n₀ B hB (hi - lo + 1) (by omega) (by omega) W HS.out)
  go_enter Try.func12, Try.ntmps12
  go_wp2_with fail
  refine HN.out.mono ?_
  rintro e W1 ⟨z, z1, z2, rfl, H1⟩
  have z3 : z ≤ hi - lo := by omega
  go_wp2_with fail
  go_ret
  exact ⟨lo + z, by omega, by omega, rfl, H1⟩

/-- what the walk is told of a slice of integers that came in: it is nil, or it leads to a row of 'cap' cells, the numbers 'zs', each fitting its kind -/
def IsRow (k : IntKind) (w : World) (a : Option Addr) (len cap : Nat) (zs : List Int) : Prop :=
  (a = none ∧ len = 0 ∧ cap = 0 ∧ zs = []) ∨
  ∃ x, a = some x ∧ len ≤ cap ∧ cap ≤ maxLen ∧ zs.length = cap ∧ (∀ i, i < zs.length → w.cell? (x.add i) = some (.int k (zs.getD i 0))) ∧ ∀ n ∈ zs, (Lit.int k n).wf = true
theorem nums_of {w : World} {a : Option Addr} {len cap : Nat} {zs : List Int} (h : IsRow .i64 w a len cap zs) : Nums w.heap.size w a len ∧ (len ≤ cap ∧ cap ≤ maxLen) := by
  rcases h with ⟨rfl, rfl, rfl, rfl⟩ | ⟨x, rfl, hl, hm, hz, hcell, hwz⟩
  · exact ⟨.inl rfl, Nat.le_refl _, Nat.zero_le _⟩
  · refine ⟨?_, hl, hm⟩
    by_cases h0 : len = 0
    · exact .inl h0
    · obtain ⟨b, off, spot⟩ := x
      have hc := hcell 0 (by omega)
      have hspot : spot = none := by simpa [Addr.add] using World.cell?_spot hc
      subst hspot
      refine .inr ⟨b, off, rfl, ?_, fun j hj => ?_⟩
      · have hc' : w.cell? ⟨b, off, none⟩ = some (.int .i64 (zs.getD 0 0)) := by simpa [Addr.add] using hc
        exact block_lt_of_cell hc'
      · have hj2 : j < zs.length := by omega
        have := hcell j hj2
        have hw := hwz (zs.getD j 0) (by rw [List.getD_eq_getElem?_getD, List.getElem?_eq_getElem hj2]; exact List.getElem_mem hj2)
        simp [Lit.wf, IntKind.min, IntKind.max, IntKind.signed, IntKind.bits] at hw
        refine ⟨zs.getD j 0, by simpa using hw.1, by simpa using hw.2, ?_⟩
        by_cases e : j = 0
        · subst e; simpa [Addr.add] using this
        · simpa [Addr.add, e] using this
theorem Nums.take {n₀ : Nat} {W : World} {a : Option Addr} {len m : Nat} (h : Nums n₀ W a len) (hm : m ≤ len) : Nums n₀ W a m := by
  rcases h with h | ⟨b, off, e, hb, hc⟩
  · exact .inl (by omega)
  · exact .inr ⟨b, off, e, hb, fun j hj => hc j (by omega)⟩

theorem new_ok (a : Option Addr) (len cap : Nat) (w : World) (hN : Nums w.heap.size w a len) (hl : len ≤ cap) (hc : cap ≤ 9223372036854775807) :
    Calls Try.prog 10 #[.slice a len cap] w fun e w' => e = .returned (.pointer (some ⟨w.heap.size, 0, none⟩)) ∧ Hid (SrcOK w.heap.size w.heap.size w') ∧ Below w.heap.size w w' := by
  have HN := hid hN
  clear hN
  by_cases h : 1000 < (len : Int)
  · have h2 : (1000 : Int) ≤ (cap : Int) := by omega
    go_enter Try.func10, Try.ntmps10
    go_wp2_with fail
    go_ret
    refine ⟨rfl, ⟨a, 1000, cap, 0, heap_alloc_new _ _, by omega, by omega, ((HN.out.take (by omega)).below ((Below.refl _ _).alloc (Nat.le_refl _) _))⟩, (Below.refl _ _).alloc (Nat.le_refl _) _⟩
  · go_enter Try.func10, Try.ntmps10
    go_wp2_with fail
    go_ret
    refine ⟨rfl, ⟨a, len, cap, 0, heap_alloc_new _ _, by omega, by omega, (HN.out.below ((Below.refl _ _).alloc (Nat.le_refl _) _))⟩, (Below.refl _ _).alloc (Nat.le_refl _) _⟩

theorem grown_row {A B : World} (h : A.grownBy B none) (row : Option Nat) : A.grownBy B row :=
  ⟨h.os, h.tape, h.output, h.size, fun i hi hne => h.block i hi (fun e => by cases e)⟩
theorem grown_alloc (A : World) (o : Obj) (row : Option Nat) : A.grownBy (A.alloc o) row := grown_row (World.grownBy_alloc A o none) row
/-- texts of at most 30 bytes lie in block b -/
def Texts (W : World) (b n : Nat) : Prop := ∀ j, j < n → ∃ t : ByteArray, t.size ≤ 30 ∧ W.cell? ⟨b, j, none⟩ = some (.string t)
set_option maxHeartbeats 1000000 in
theorem word_ok (n₀ B : Nat) (hB : n₀ ≤ B) (b n : Nat) (hn : 1 ≤ n) (hn2 : n ≤ 1000) (W : World) (hne : b ≠ B) (hb : b < W.heap.size) (hT : Texts W b n) (hS : SrcOK n₀ B W) :
    Calls Try.prog 36 #[.pointer (some ⟨B, 0, none⟩), .slice (some ⟨b, 0, none⟩) n n] W fun e W' => ∃ t : ByteArray, t.size ≤ 30 ∧ e = .returned (.string t) ∧ Hid (W.grownBy W' (some B) ∧ SrcOK n₀ B W') := by
  have HN := hid (n_ok n₀ B hB n (by omega) (by omega) W hS)
  have HT := hid hT
  clear hT hS
  go_enter Try.func36, Try.ntmps36
  go_wp2_with fail
  refine HN.out.mono ?_
  rintro e W1 ⟨z, z1, z2, rfl, H1⟩
  obtain ⟨k, rfl⟩ : ∃ k : Nat, z = k := ⟨z.toNat, by omega⟩
  obtain ⟨t, ht, hc⟩ := HT.out k (by omega)
  have c1 : W1.cell? ⟨b, k, none⟩ = some (.string t) := (World.cell?_of_block (a := ⟨b, k, none⟩) (H1.out.1.block b hb (fun e => hne (Option.some.inj e)))).trans hc
  go_wp2_with fail
  go_ret
  exact ⟨t, ht, rfl, H1⟩

theorem texts_alloc (W : World) (cs : Array Value) (n : Nat) (e : TypeId) (f : Nat × Nat) (h : ∀ j, j < n → ∃ t : ByteArray, t.size ≤ 30 ∧ cs[j]? = some (.string t)) : Texts (W.alloc (.cells cs e f)) W.heap.size n := by
  intro j hj
  obtain ⟨t, h1, h2⟩ := h j hj
  exact ⟨t, h1, by rw [cell_of_row _ _ _ cs e f (heap_alloc_new _ _), h2]⟩
set_option maxHeartbeats 2000000 in
theorem built_ok (n₀ B : Nat) (hB : n₀ ≤ B) (W : World) (hn : n₀ ≤ W.heap.size) (hS : SrcOK n₀ B W) :
    Calls Try.prog 11 #[.pointer (some ⟨B, 0, none⟩)] W fun e W' => ∃ t : ByteArray, t.size ≤ 120 ∧ e = .returned (.string t) ∧ Hid (W.grownBy W' (some B) ∧ SrcOK n₀ B W') := by
  have hlt := hS.lt
  have HS := hid hS
  clear hS
  go_enter Try.func11, Try.ntmps11
  go_wp2_with fail
  have HT := hid (texts_alloc W #[.string ⟨#[]⟩, .string ⟨#[97]⟩, .string ⟨#[100, 97, 116, 97]⟩, .string ⟨#[120, 46, 121, 43, 122]⟩, .string ⟨#[45, 97]⟩, .string ⟨#[46, 97]⟩, .string ⟨#[48]⟩, .string ⟨#[97, 98, 99, 100, 101, 102, 103, 104, 105, 106, 107, 108, 109, 110, 111, 112, 113, 114, 115, 116, 117, 118, 119, 120]⟩, .string ⟨#[97, 98, 99, 100, 101, 102, 103, 104, 105, 106, 107, 108, 109, 110, 111, 112, 113, 114, 115, 116, 117, 118, 119, 120, 121]⟩, .string ⟨#[95]⟩] 10 9 (0, 0) (fun j hj => by
    match j, hj with
    | 0, _ => exact ⟨_, by decide, rfl⟩
    | 1, _ => exact ⟨_, by decide, rfl⟩
    | 2, _ => exact ⟨_, by decide, rfl⟩
    | 3, _ => exact ⟨_, by decide, rfl⟩
    | 4, _ => exact ⟨_, by decide, rfl⟩
    | 5, _ => exact ⟨_, by decide, rfl⟩
    | 6, _ => exact ⟨_, by decide, rfl⟩
    | 7, _ => exact ⟨_, by decide, rfl⟩
    | 8, _ => exact ⟨_, by decide, rfl⟩
    | 9, _ => exact ⟨_, by decide, rfl⟩))
  have HW := hid (word_ok n₀ B hB W.heap.size 10 (by omega) (by omega) _ (by omega) (by simp) HT.out (HS.out.kept (grown_alloc W _ none) (by simp) hn (fun k e => by cases e)))
  have HG := hid (grown_alloc W (.cells #[.string ⟨#[]⟩, .string ⟨#[97]⟩, .string ⟨#[100, 97, 116, 97]⟩, .string ⟨#[120, 46, 121, 43, 122]⟩, .string ⟨#[45, 97]⟩, .string ⟨#[46, 97]⟩, .string ⟨#[48]⟩, .string ⟨#[97, 98, 99, 100, 101, 102, 103, 104, 105, 106, 107, 108, 109, 110, 111, 112, 113, 114, 115, 116, 117, 118, 119, 120]⟩, .string ⟨#[97, 98, 99, 100, 101, 102, 103, 104, 105, 106, 107, 108, 109, 110, 111, 112, 113, 114, 115, 116, 117, 118, 119, 120, 121]⟩, .string ⟨#[95]⟩] 9) (some B))
  refine HW.out.mono ?_
  rintro e W1 ⟨t0, ht0, rfl, H1⟩
  have G1 := hid (grown_trans HG.out H1.out.1)
  have HS1 := hid H1.out.2
  clear HG HT HW H1
  go_wp2_with fail
  refine (n_ok n₀ B hB 4 (by omega) (by omega) W1 HS1.out).mono ?_
  rintro e W2 ⟨z, z0, z4, rfl, H2⟩
  have G2 := hid (grown_trans G1.out H2.out.1)
  have HS2 := hid H2.out.2
  clear H2 G1 HS1
  go_wp2_with fail
  go_loopw [3, 4] (fun sv iv wr => ∃ (i : Int) (t : ByteArray), 0 ≤ i ∧ i < 4 ∧ sv = .string t ∧ t.size ≤ 30 + 30 * (3 - i.toNat) ∧ iv = .int .i64 i ∧ Hid (W.grownBy wr (some B)) ∧ Hid (SrcOK n₀ B wr)) (fun _ iv _ => (intOf iv).toNat)
  case atStart => exact ⟨z, t0, z0, z4, rfl, by omega, rfl, G2, HS2⟩
  case round =>
    obtain ⟨i, t, i0, i4, rfl, ht, rfl, HG, HSr⟩ := hrel
    by_cases h0 : 0 < i
    · have HT := hid (texts_alloc wr #[.string ⟨#[95, 108, 101, 103, 48]⟩, .string ⟨#[95, 108, 101, 103, 55]⟩, .string ⟨#[95, 108, 101, 103, 56]⟩, .string ⟨#[95, 108, 111, 103]⟩, .string ⟨#[95, 100, 97, 116, 97]⟩, .string ⟨#[95, 109, 101, 116, 97]⟩, .string ⟨#[95, 115, 112, 97, 114, 101]⟩, .string ⟨#[95, 108, 101, 103]⟩, .string ⟨#[95]⟩, .string ⟨#[47]⟩, .string ⟨#[61]⟩] 11 9 (0, 0) (fun j hj => by
        match j, hj with
        | 0, _ => exact ⟨_, by decide, rfl⟩
        | 1, _ => exact ⟨_, by decide, rfl⟩
        | 2, _ => exact ⟨_, by decide, rfl⟩
        | 3, _ => exact ⟨_, by decide, rfl⟩
        | 4, _ => exact ⟨_, by decide, rfl⟩
        | 5, _ => exact ⟨_, by decide, rfl⟩
        | 6, _ => exact ⟨_, by decide, rfl⟩
        | 7, _ => exact ⟨_, by decide, rfl⟩
        | 8, _ => exact ⟨_, by decide, rfl⟩
        | 9, _ => exact ⟨_, by decide, rfl⟩
        | 10, _ => exact ⟨_, by decide, rfl⟩))
      have hwn : n₀ ≤ wr.heap.size := Nat.le_trans hn HG.out.size
      have hBlt := HSr.out.lt
      have HW := hid (word_ok n₀ B hB wr.heap.size 11 (by omega) (by omega) _ (by omega) (by simp) HT.out (HSr.out.kept (grown_alloc wr _ none) (by simp) hwn (fun k e => by cases e)))
      have HG2 := hid (grown_trans HG.out (grown_alloc wr (.cells #[.string ⟨#[95, 108, 101, 103, 48]⟩, .string ⟨#[95, 108, 101, 103, 55]⟩, .string ⟨#[95, 108, 101, 103, 56]⟩, .string ⟨#[95, 108, 111, 103]⟩, .string ⟨#[95, 100, 97, 116, 97]⟩, .string ⟨#[95, 109, 101, 116, 97]⟩, .string ⟨#[95, 115, 112, 97, 114, 101]⟩, .string ⟨#[95, 108, 101, 103]⟩, .string ⟨#[95]⟩, .string ⟨#[47]⟩, .string ⟨#[61]⟩] 9) (some B)))
      clear HT HSr HG
      go_wp2_with fail
      refine HW.out.mono ?_
      rintro e W3 ⟨u, hu, rfl, H3⟩
      have G3 := hid (grown_trans HG2.out H3.out.1)
      have HS3 := hid H3.out.2
      have hsz : (t ++ u).size = t.size + u.size := by simp
      obtain ⟨tu, htu⟩ : ∃ tu, tu = t ++ u := ⟨_, rfl⟩
      rw [← htu] at hsz
      have htu2 := htu.symm
      clear HG2 HW H3 htu
      go_wp2_with fail
      go_roundw
      case rel => exact ⟨i - 1, tu, by omega, by omega, rfl, by omega, rfl, G3, HS3⟩
      case measure => simp [intOf]; omega
    · go_wp2_with fail
      go_ret
      exact ⟨t, by omega, rfl, HG.out, HSr.out⟩
end Go.Proofs.Ytdpclmogfnigdaa
