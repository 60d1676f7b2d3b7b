/- Numbers from a list: New, Raw, N and Range of the statements' builder. No conditions but those of each theorem. -/
import Derived.Test.YtablogkafbajaaaO
namespace Go.Proofs.Ytablogkafbajaaa
open Go.ChangeShapes Go.WideShapes Go.ChangeAt Go.RowKit
set_option linter.unusedVariables false
set_option linter.unusedSimpArgs false

/-- numbers that came in, in blocks below n₀ -/
def Nums (n₀ : Nat) (W : World) (a : Option Addr) (len : Nat) : Prop :=
  len = 0 ∨ ∃ b off, a = some ⟨b, off, none⟩ ∧ b < n₀ ∧ ∀ j, j < len → ∃ z : Int, -9223372036854775808 ≤ z ∧ z ≤ 9223372036854775807 ∧ W.cell? ⟨b, off + j, none⟩ = some (.int .i64 z)
theorem Nums.below {n₀ : Nat} {A B : World} (h : Below n₀ A B) {a : Option Addr} {len : Nat} : Nums n₀ A a len → Nums n₀ B a len
  | .inl e => .inl e
  | .inr ⟨b, off, e, hb, hc⟩ => .inr ⟨b, off, e, hb, fun j hj => by
      obtain ⟨z, h1, h2, h3⟩ := hc j hj
      exact ⟨z, h1, h2, (h.cell (p := ⟨b, off + j, none⟩) hb).trans h3⟩⟩
/-- a reader of numbers lies in block B -/
def SrcOK (n₀ B : Nat) (W : World) : Prop :=
  ∃ (a : Option Addr) (len cap at' : Nat), W.heap[B]? = some (.cells #[.slice a len cap, .int .i64 (at' : Int)] 56 (0, 0)) ∧ at' ≤ len ∧ len ≤ 1000 ∧ Nums n₀ W a len
theorem SrcOK.lt {n₀ B : Nat} {W : World} (h : SrcOK n₀ B W) : B < W.heap.size := by
  obtain ⟨a, len, cap, at', hb, _⟩ := h
  exact (Array.getElem?_eq_some_iff.1 hb).1
/-- what keeps block B and all below n₀ keeps the reader -/
theorem SrcOK.kept {n₀ B : Nat} {W W' : World} {row : Option Nat} (h : SrcOK n₀ B W) (hg : W.grownBy W' row) (hB : some B ≠ row) (hn : n₀ ≤ W.heap.size) (hr : ∀ k, row = some k → n₀ ≤ k) : SrcOK n₀ B W' := by
  obtain ⟨a, len, cap, at', hb, h1, h2, h3⟩ := h
  exact ⟨a, len, cap, at', (hg.block B (Array.getElem?_eq_some_iff.1 hb).1 hB).trans hb, h1, h2, h3.below ((Below.refl n₀ W).grown hg hn hr)⟩

set_option maxHeartbeats 1000000 in
theorem raw_ok (n₀ B : Nat) (hB : n₀ ≤ B) (W : World) (hS : SrcOK n₀ B W) :
    Calls Try.prog 46 #[.pointer (some ⟨B, 0, none⟩)] W fun e W' => ∃ z : Int, -9223372036854775808 ≤ z ∧ z ≤ 9223372036854775807 ∧ e = .returned (.int .i64 z) ∧ Hid (W.grownBy W' (some B) ∧ SrcOK n₀ B W') := by
  obtain ⟨a, len, cap, k, hb, h1, h2, h3⟩ := hS
  have HB := hid hb
  have HN := hid h3
  have c0 : W.cell? ⟨B, 0, none⟩ = some (.slice a len cap) := by rw [cell_of_row _ _ _ _ _ _ hb]; rfl
  have c1 : W.cell? ⟨B, 1, none⟩ = some (.int .i64 (k : Int)) := by rw [cell_of_row _ _ _ _ _ _ hb]; rfl
  have f1 : W.frozen? ⟨B, 1, none⟩ = false := frozen_of_row _ _ _ _ _ hb
  clear hb h3
  by_cases hlt : k < len
  · obtain ⟨b, off, rfl, hbn, hc⟩ := HN.out.resolve_left (by omega)
    obtain ⟨z, z1, z2, hz⟩ := hc k hlt
    have hlt2 : ¬ (len : Int) ≤ (k : Int) := by omega
    have hne : b ≠ B := by omega
    clear hc
    go_enter Try.func46, Try.ntmps46
    go_wp2_with fail
    go_quiet (fail)
    go_wp2_with fail
    have HB1 := hid (show (W.drewN nq).heap[B]? = _ from HB.out)
    have HB2 := hid (heap_setCell_same (W.drewN nq) B 1 #[.slice (some ⟨b, off, none⟩) len cap, .int .i64 (k : Int)] 56 (.int .i64 ((k : Int) + 1)) HB1.out)
    have g1 := hid (grown_trans (grown_drewN W nq (some B)) (grown_cell (W.drewN nq) B 1 (.int .i64 ((k : Int) + 1))))
    have HW2 := hid (show (W.setCell ⟨B, 1, none⟩ (.int .i64 ((k : Int) + 1))).drewN nq = (W.drewN nq).setCell ⟨B, 1, none⟩ (.int .i64 ((k : Int) + 1)) from rfl)
    have HS2 := hid (show SrcOK n₀ B ((W.drewN nq).setCell ⟨B, 1, none⟩ (.int .i64 ((k : Int) + 1))) from ⟨_, len, cap, k + 1, by rw [HB2.out]; rfl, by omega, h2, HN.out.below ((show Below n₀ W (W.drewN nq) from ⟨rfl, rfl, rfl, Nat.le_refl _, fun _ _ => rfl⟩).setCell (p := ⟨B, 1, none⟩) hB _)⟩)
    generalize (W.drewN nq).setCell ⟨B, 1, none⟩ (.int .i64 ((k : Int) + 1)) = W2 at *
    have d0 : W2.cell? ⟨B, 0, none⟩ = some (.slice (some ⟨b, off, none⟩) len cap) := by rw [cell_of_row _ _ _ _ _ _ HB2.out]; rfl
    have d1 : W2.cell? ⟨B, 1, none⟩ = some (.int .i64 ((k : Int) + 1)) := by rw [cell_of_row _ _ _ _ _ _ HB2.out]; rfl
    have d2 : W2.cell? ⟨b, off + k, none⟩ = some (.int .i64 z) := by
      have hlt3 : b < W.heap.size := block_lt_of_cell hz
      exact (World.cell?_of_block (a := ⟨b, off + k, none⟩) (g1.out.block b hlt3 (fun e => hne (Option.some.inj e)))).trans hz
    clear c0 c1 f1 hz
    go_quiet (fail)
    go_wp2_with fail
    go_ret
    exact ⟨z, z1, z2, rfl, grown_trans g1.out (grown_drewN _ _ _), HS2.out⟩
  · obtain rfl : k = len := by omega
    have hlt2 : (k : Int) ≤ (k : Int) := by omega
    go_enter Try.func46, Try.ntmps46
    go_wp2_with fail
    go_quiet (fail)
    go_wp2_with fail
    go_ret
    exact ⟨0, by omega, by omega, rfl, grown_drewN _ _ _, ⟨a, k, cap, k, HB.out, by omega, h2, HN.out⟩⟩

theorem n_ok (n₀ B : Nat) (hB : n₀ ≤ B) (m : Int) (hm : 1 ≤ m) (hm2 : m ≤ 1000000) (W : World) (hS : SrcOK n₀ B W) :
    Calls Try.prog 28 #[.pointer (some ⟨B, 0, none⟩), .int .i64 m] W fun e W' => ∃ z : Int, 0 ≤ z ∧ z < m ∧ e = .returned (.int .i64 z) ∧ Hid (W.grownBy W' (some B) ∧ SrcOK n₀ B W') := by
  have HS := hid hS
  have hm3 : ¬ m < 1 := by omega
  have hne : (m == 0) = false := beq_eq_false_iff_ne.2 (by omega)
  clear hS
  go_enter Try.func28, Try.ntmps28
  go_wp2_with fail
  refine (raw_ok n₀ B hB W HS.out).mono ?_
  rintro e W1 ⟨z, z1, z2, rfl, H1⟩
  obtain ⟨y, hy⟩ : ∃ y, z.tmod m = y := ⟨_, rfl⟩
  have y1 : -m < y ∧ y < m := by
    rw [← hy]
    have h1 := Int.tmod_lt_of_pos z (show 0 < m by omega)
    have h2 := Int.tmod_lt_of_pos (-z) (show 0 < m by omega)
    rw [Int.neg_tmod] at h2
    omega
  obtain ⟨y1, y2⟩ := y1
  have w1 : IntKind.i64.wrap y = y := IntWalk.i64_in _ (by omega)
  by_cases hneg : y < 0
  · go_wp2_with fail
    go_ret
    exact ⟨y + m, by omega, by omega, rfl, H1⟩
  · go_wp2_with fail
    go_ret
    exact ⟨y, by omega, by omega, rfl, H1⟩

theorem range_ok (n₀ B : Nat) (hB : n₀ ≤ B) (lo hi : Int) (h1 : lo ≤ hi) (h2 : -100000 ≤ lo) (h3 : hi ≤ 100000) (W : World) (hS : SrcOK n₀ B W) :
    Calls Try.prog 16 #[.pointer (some ⟨B, 0, none⟩), .int .i64 lo, .int .i64 hi] W fun e W' => ∃ z : Int, lo ≤ z ∧ z ≤ hi ∧ e = .returned (.int .i64 z) ∧ Hid (W.grownBy W' (some B) ∧ SrcOK n₀ B W') := by
  have HS := hid hS
  clear hS
  have HN := hid (n_ok n₀ B hB (hi - lo + 1) (by omega) (by omega) W HS.out)
  go_enter Try.func16, Try.ntmps16
  go_wp2_with fail
  refine HN.out.mono ?_
  rintro e W1 ⟨z, z1, z2, rfl, H1⟩
  have z3 : z ≤ hi - lo := by omega
  go_wp2_with fail
  go_ret
  exact ⟨lo + z, by omega, by omega, rfl, H1⟩

/-- what the walk is told of a slice of integers that came in: it is nil, or it leads to a row of 'cap' cells, the numbers 'zs', each fitting its kind -/
def IsRow (k : IntKind) (w : World) (a : Option Addr) (len cap : Nat) (zs : List Int) : Prop :=
  (a = none ∧ len = 0 ∧ cap = 0 ∧ zs = []) ∨
  ∃ x, a = some x ∧ len ≤ cap ∧ cap ≤ maxLen ∧ zs.length = cap ∧ (∀ i, i < zs.length → w.cell? (x.add i) = some (.int k (zs.getD i 0))) ∧ ∀ n ∈ zs, (Lit.int k n).wf = true
theorem nums_of {w : World} {a : Option Addr} {len cap : Nat} {zs : List Int} (h : IsRow .i64 w a len cap zs) : Nums w.heap.size w a len ∧ (len ≤ cap ∧ cap ≤ maxLen) := by
  rcases h with ⟨rfl, rfl, rfl, rfl⟩ | ⟨x, rfl, hl, hm, hz, hcell, hwz⟩
  · exact ⟨.inl rfl, Nat.le_refl _, Nat.zero_le _⟩
  · refine ⟨?_, hl, hm⟩
    by_cases h0 : len = 0
    · exact .inl h0
    · obtain ⟨b, off, spot⟩ := x
      have hc := hcell 0 (by omega)
      have hspot : spot = none := by simpa [Addr.add] using World.cell?_spot hc
      subst hspot
      refine .inr ⟨b, off, rfl, ?_, fun j hj => ?_⟩
      · have hc' : w.cell? ⟨b, off, none⟩ = some (.int .i64 (zs.getD 0 0)) := by simpa [Addr.add] using hc
        exact block_lt_of_cell hc'
      · have hj2 : j < zs.length := by omega
        have := hcell j hj2
        have hw := hwz (zs.getD j 0) (by rw [List.getD_eq_getElem?_getD, List.getElem?_eq_getElem hj2]; exact List.getElem_mem hj2)
        simp [Lit.wf, IntKind.min, IntKind.max, IntKind.signed, IntKind.bits] at hw
        refine ⟨zs.getD j 0, by simpa using hw.1, by simpa using hw.2, ?_⟩
        by_cases e : j = 0
        · subst e; simpa [Addr.add] using this
        · simpa [Addr.add, e] using this
theorem Nums.take {n₀ : Nat} {W : World} {a : Option Addr} {len m : Nat} (h : Nums n₀ W a len) (hm : m ≤ len) : Nums n₀ W a m := by
  rcases h with h | ⟨b, off, e, hb, hc⟩
  · exact .inl (by omega)
  · exact .inr ⟨b, off, e, hb, fun j hj => hc j (by omega)⟩

theorem new_ok (a : Option Addr) (len cap : Nat) (w : World) (hN : Nums w.heap.size w a len) (hl : len ≤ cap) (hc : cap ≤ 9223372036854775807) :
    Calls Try.prog 14 #[.slice a len cap] w fun e w' => e = .returned (.pointer (some ⟨w.heap.size, 0, none⟩)) ∧ Hid (SrcOK w.heap.size w.heap.size w') ∧ Below w.heap.size w w' := by
  have HN := hid hN
  clear hN
  by_cases h : 1000 < (len : Int)
  · have h2 : (1000 : Int) ≤ (cap : Int) := by omega
    go_enter Try.func14, Try.ntmps14
    go_wp2_with fail
    go_ret
    refine ⟨rfl, ⟨a, 1000, cap, 0, heap_alloc_new _ _, by omega, by omega, ((HN.out.take (by omega)).below ((Below.refl _ _).alloc (Nat.le_refl _) _))⟩, (Below.refl _ _).alloc (Nat.le_refl _) _⟩
  · go_enter Try.func14, Try.ntmps14
    go_wp2_with fail
    go_ret
    refine ⟨rfl, ⟨a, len, cap, 0, heap_alloc_new _ _, by omega, by omega, (HN.out.below ((Below.refl _ _).alloc (Nat.le_refl _) _))⟩, (Below.refl _ _).alloc (Nat.le_refl _) _⟩


/-- the first m numbers of an argument -/
theorem arg_of {w : World} {a : Option Addr} {len cap : Nat} {zs : List Int} (h : IsRow .i64 w a len cap zs) (m : Nat) (h1 : 1 ≤ m) (hm : m ≤ len) : ∃ X : List Int, X.length = m ∧ Arg w.heap.size w a X := by
  rcases h with ⟨rfl, rfl, rfl, rfl⟩ | ⟨x, rfl, hl, hc, hz, hcell, hwz⟩
  · omega
  · obtain ⟨b, off, spot⟩ := x
    have hc0 := hcell 0 (by omega)
    have hspot : spot = none := by simpa [Addr.add] using World.cell?_spot hc0
    subst hspot
    refine ⟨zs.take m, by simp; omega, b, off, rfl, ?_, fun j hj => ?_⟩
    · have hc' : w.cell? ⟨b, off, none⟩ = some (.int .i64 (zs.getD 0 0)) := by simpa [Addr.add] using hc0
      exact block_lt_of_cell hc'
    · have hj' : j < m := by simp at hj; omega
      have := hcell j (by omega)
      have e : ge (zs.take m) j = zs.getD j 0 := by
        unfold ge
        rw [List.getElem?_take_of_lt hj', List.getD_eq_getElem?_getD]
      rw [e]
      by_cases e : j = 0
      · subst e; simpa [Addr.add] using this
      · simpa [Addr.add, e] using this
set_option maxHeartbeats 1000000 in
theorem pick_ok (n₀ B : Nat) (hB : n₀ ≤ B) (b c : Nat) (L : List Int) (hn : 1 ≤ L.length) (hn2 : L.length ≤ 1000) (W : World) (hne : b ≠ B) (hR : Row W b c L) (hS : SrcOK n₀ B W) :
    Calls Try.prog 37 #[.pointer (some ⟨B, 0, none⟩), .slice (some ⟨b, 0, none⟩) L.length c] W fun e W' => ∃ j : Nat, j < L.length ∧ e = .returned (.int .i64 (ge L j)) ∧ Hid (W.grownBy W' (some B) ∧ SrcOK n₀ B W') := by
  have HN := hid (n_ok n₀ B hB L.length (by omega) (by omega) W hS)
  have HR := hid hR
  clear hR hS
  go_enter Try.func37, Try.ntmps37
  go_wp2_with fail
  refine HN.out.mono ?_
  rintro e W1 ⟨z, z1, z2, rfl, H1⟩
  obtain ⟨k, rfl⟩ : ∃ k : Nat, z = k := ⟨z.toNat, by omega⟩
  have hk : k < L.length := by omega
  have c1 := (HR.out.kept H1.out.1 (fun e => hne (Option.some.inj e))).at k hk
  go_wp2_with fail
  go_ret
  exact ⟨k, hk, rfl, H1⟩
end Go.Proofs.Ytablogkafbajaaa
