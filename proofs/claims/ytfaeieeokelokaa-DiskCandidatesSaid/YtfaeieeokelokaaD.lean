/- The program's small calls: has, Count, Down, Writes, Unflushed, the checks of a place. No conditions but those of each theorem. -/
import Derived.Test.YtfaeieeokelokaaC
namespace Go.Proofs.Ytfaeieeokelokaa
open Go.ChangeShapes Go.WideShapes Go.ChangeAt Go.RowKit
set_option linter.unusedVariables false
set_option linter.unusedSimpArgs false

section
variable {W : World} {A : Nat} {c : Co} {k : Dk}
theorem DA.c0 (h : DA W A c k) : W.cell? ⟨A, 0, none⟩ = some (.slice c.ua k.U.length c.uc) := World.ownsRow.cellAt h.blk 0 (by omega)
theorem DA.c1 (h : DA W A c k) : W.cell? ⟨A, 1, none⟩ = some (.map (some c.mb)) := World.ownsRow.cellAt h.blk 1 (by omega)
theorem DA.c2 (h : DA W A c k) : W.cell? ⟨A, 2, none⟩ = some (.slice c.fa k.F.length c.fc) := World.ownsRow.cellAt h.blk 2 (by omega)
theorem DA.c3 (h : DA W A c k) : W.cell? ⟨A, 3, none⟩ = some (.int .i64 k.fuse) := World.ownsRow.cellAt h.blk 3 (by omega)
theorem DA.c4 (h : DA W A c k) : W.cell? ⟨A, 4, none⟩ = some (.bool k.down) := World.ownsRow.cellAt h.blk 4 (by omega)
theorem DA.c5 (h : DA W A c k) : W.cell? ⟨A, 5, none⟩ = some (.int .i64 k.wr) := World.ownsRow.cellAt h.blk 5 (by omega)
theorem DA.fz (h : DA W A c k) (j : Nat) : W.frozen? ⟨A, j, none⟩ = false := World.ownsRow.frozenAt h.blk j
theorem DA.lt (h : DA W A c k) : A < W.heap.size := own_lt h.blk
theorem DA.unit (h : DA W A c k) {d : Nat} (hd : d < k.U.length) : ∃ ub, c.ua = some ⟨ub, 0, none⟩ ∧ ub < W.heap.size ∧
    W.cell? ⟨ub, d * 3, none⟩ = some (.slice (some ⟨(gb c.bs d).n, 0, none⟩) (gu k.U d).now.length (gb c.bs d).cn) ∧
    W.cell? ⟨ub, d * 3 + 1, none⟩ = some (.slice (some ⟨(gb c.bs d).d, 0, none⟩) (gu k.U d).now.length (gb c.bs d).cd) ∧
    W.cell? ⟨ub, d * 3 + 2, none⟩ = some (.bool (gu k.U d).mis) ∧ ∀ j, W.frozen? ⟨ub, j, none⟩ = false := by
  obtain ⟨ub, hub⟩ := own_pos h.ru (by omega)
  have h1 := h.ru
  rw [hub] at h1
  refine ⟨ub, hub, own_lt h1, ?_, ?_, ?_, fun j => World.ownsRow.frozenAt h1 j⟩
  · show W.cell? ⟨ub, d * 3 + 0, none⟩ = _
    rw [World.ownsRow.cellAt h1 _ (lt_mul (j := 0) hd (by omega)), ck_at (j := 0) _ hd (by omega)]; rfl
  · rw [World.ownsRow.cellAt h1 _ (lt_mul (j := 1) hd (by omega)), ck_at (j := 1) _ hd (by omega)]; rfl
  · rw [World.ownsRow.cellAt h1 _ (lt_mul (j := 2) hd (by omega)), ck_at (j := 2) _ hd (by omega)]; rfl
end
/-- is there a disk? -/
def hd (k : Dk) (d : Int) : Bool := decide (0 ≤ d) && decide (d < (k.U.length : Int))
/-- is there a sector? -/
def hs (k : Dk) (d t : Int) : Bool := hd k d && (decide (0 ≤ t) && decide (t < ((gu k.U d.toNat).now.length : Int)))
set_option maxHeartbeats 4000000 in
theorem has_ok {W : World} {A : Nat} {c : Co} {k : Dk} (h : DA W A c k) (d : Int) :
    Calls Try.prog 43 #[.pointer (some ⟨A, 0, none⟩), .int .i64 d] W fun e W' => e = .returned (.bool (hd k d)) ∧ W' = W := by
  have c0 := h.c0
  have hb := h.b8
  have HH := hid (show hd k d = (decide (0 ≤ d) && decide (d < (k.U.length : Int))) from rfl)
  clear h
  generalize hd k d = res at *
  by_cases h0 : 0 ≤ d
  · by_cases h1 : d < (k.U.length : Int)
    · rw [decide_eq_true h0, decide_eq_true h1] at HH
      go_enter Try.func43, Try.ntmps43
      go_wp2_with fail
      go_ret
      exact ⟨by rw [HH.out]; rfl, rfl⟩
    · rw [decide_eq_true h0, decide_eq_false h1] at HH
      go_enter Try.func43, Try.ntmps43
      go_wp2_with fail
      go_ret
      exact ⟨by rw [HH.out]; rfl, rfl⟩
  · rw [decide_eq_false h0] at HH
    go_enter Try.func43, Try.ntmps43
    go_wp2_with fail
    go_ret
    exact ⟨by rw [HH.out]; rfl, rfl⟩
set_option maxHeartbeats 4000000 in
theorem down_ok {W : World} {A : Nat} {c : Co} {k : Dk} (h : DA W A c k) :
    Calls Try.prog 23 #[.pointer (some ⟨A, 0, none⟩)] W fun e W' => e = .returned (.bool k.down) ∧ W' = W := by
  have c0 := h.c4
  clear h
  go_enter Try.func23, Try.ntmps23
  go_wp2_with fail
  go_ret
  exact ⟨rfl, rfl⟩
set_option maxHeartbeats 4000000 in
theorem writes_ok {W : World} {A : Nat} {c : Co} {k : Dk} (h : DA W A c k) :
    Calls Try.prog 24 #[.pointer (some ⟨A, 0, none⟩)] W fun e W' => e = .returned (.int .i64 k.wr) ∧ W' = W := by
  have c0 := h.c5
  clear h
  go_enter Try.func24, Try.ntmps24
  go_wp2_with fail
  go_ret
  exact ⟨rfl, rfl⟩
set_option maxHeartbeats 4000000 in
theorem unfl_ok {W : World} {A : Nat} {c : Co} {k : Dk} (h : DA W A c k) :
    Calls Try.prog 20 #[.pointer (some ⟨A, 0, none⟩)] W fun e W' => e = .returned (.int .i64 (k.F.length : Int)) ∧ W' = W := by
  have c0 := h.c2
  clear h
  go_enter Try.func20, Try.ntmps20
  go_wp2_with fail
  go_ret
  exact ⟨rfl, rfl⟩
set_option maxHeartbeats 4000000 in
theorem count_ok {W : World} {A : Nat} {c : Co} {k : Dk} (h : DA W A c k) :
    Calls Try.prog 58 #[.pointer (some ⟨A, 0, none⟩)] W fun e W' => e = .returned (.int .i64 (k.U.length : Int)) ∧ W' = W := by
  have c0 := h.c0
  clear h
  go_enter Try.func58, Try.ntmps58
  go_wp2_with fail
  go_ret
  exact ⟨rfl, rfl⟩
set_option maxHeartbeats 4000000 in
theorem power_ok {W : World} {A : Nat} {c : Co} {k : Dk} (h : DA W A c k) (d t : Int) :
    Calls Try.prog 38 #[.pointer (some ⟨A, 0, none⟩), .agg #[.int .i64 d, .int .i64 t]] W fun e W' => e = .returned (.int .i64 (if k.down then 5 else 0)) ∧ Below W.heap.size W W' := by
  have c0 := h.c4
  have HL := h.lt
  clear h
  generalize k.down = b at *
  cases b with
  | true =>
    go_enter Try.func38, Try.ntmps38
    go_wp2_with fail
    go_ret
    exact ⟨rfl, (Below.refl _ _).alloc (Nat.le_refl _) _⟩
  | false =>
    go_enter Try.func38, Try.ntmps38
    go_wp2_with fail
    go_ret
    exact ⟨rfl, (Below.refl _ _).alloc (Nat.le_refl _) _⟩
set_option maxHeartbeats 4000000 in
theorem missing_ok {W : World} {A : Nat} {c : Co} {k : Dk} (h : DA W A c k) (d : Nat) (hd : d < k.U.length) (t : Int) :
    Calls Try.prog 40 #[.pointer (some ⟨A, 0, none⟩), .agg #[.int .i64 (d : Int), .int .i64 t]] W fun e W' => e = .returned (.int .i64 (if (gu k.U d).mis then 6 else 0)) ∧ Below W.heap.size W W' := by
  have c0 := h.c0
  have HL := h.lt
  obtain ⟨ub, hub, hul, -, -, c1, -⟩ := h.unit hd
  rw [hub] at c0
  have h8 := h.b8
  clear h hub
  generalize (gu k.U d).mis = b at *
  cases b with
  | true =>
    go_enter Try.func40, Try.ntmps40
    go_wp2_with fail
    go_quiet (fail)
    go_wp2_with fail
    go_ret
    exact ⟨rfl, ((Below.refl _ _).alloc (Nat.le_refl _) _).trans (bdn _ _ _)⟩
  | false =>
    go_enter Try.func40, Try.ntmps40
    go_wp2_with fail
    go_quiet (fail)
    go_wp2_with fail
    go_ret
    exact ⟨rfl, ((Below.refl _ _).alloc (Nat.le_refl _) _).trans (bdn _ _ _)⟩
end Go.Proofs.Ytfaeieeokelokaa
