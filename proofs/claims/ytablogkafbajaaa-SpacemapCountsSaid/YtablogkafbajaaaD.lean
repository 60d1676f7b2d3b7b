/- The program's Len, Count, Was, isFree, Free, Alloc, Inc and Dec. No conditions but those of each theorem. -/
import Derived.Test.YtablogkafbajaaaC
namespace Go.Proofs.Ytablogkafbajaaa
open Go.ChangeShapes Go.WideShapes Go.ChangeAt Go.RowKit
set_option linter.unusedVariables false
set_option linter.unusedSimpArgs false

theorem SM.below {ty : TypeId} {W W' : World} {M a ca b cb : Nat} {X Y : List Int} (h : SM ty W M a ca b cb X Y) (hb : Below W.heap.size W W') : SM ty W' M a ca b cb X Y :=
  h.kept (grown_below hb) (by simp) (by simp) (by simp)
/-- a block that neither state uses -/
def fr (X Y : List Int) (j : Nat) : Bool := ge X j == 0 && ge Y j == 0
set_option maxHeartbeats 4000000 in
theorem len_ok {M a ca b cb : Nat} {X Y : List Int} {W : World} (h : SM 66 W M a ca b cb X Y) :
    Calls Try.prog 29 #[.pointer (some ⟨M, 0, none⟩)] W fun e W' => e = .returned (.int .i64 (X.length : Int)) ∧ Below W.heap.size W W' := by
  have c0 := h.c0
  clear h
  go_enter Try.func29, Try.ntmps29
  go_wp2_with fail
  go_ret
  exact ⟨rfl, Below.refl _ _⟩
set_option maxHeartbeats 4000000 in
theorem count_ok {M a ca b cb : Nat} {X Y : List Int} {W : World} (h : SM 66 W M a ca b cb X Y) (k : Int) :
    Calls Try.prog 20 #[.pointer (some ⟨M, 0, none⟩), .int .i64 k] W fun e W' => e = .returned (.int .i64 (gt X k)) ∧ Below W.heap.size W W' := by
  have HG := hid (get_ok M 0 a ca X k W h.cx.big h.c0 h.ra)
  have c0 := h.c0
  clear h
  generalize gt X k = res at *
  go_enter Try.func20, Try.ntmps20
  go_wp2_with fail
  refine HG.out.mono ?_
  rintro e w1 ⟨rfl, hb1⟩
  have HB1 := hid hb1
  clear hb1
  go_wp2_with fail
  go_ret
  exact ⟨rfl, HB1.out⟩
set_option maxHeartbeats 4000000 in
theorem was_ok {M a ca b cb : Nat} {X Y : List Int} {W : World} (h : SM 66 W M a ca b cb X Y) (k : Int) :
    Calls Try.prog 19 #[.pointer (some ⟨M, 0, none⟩), .int .i64 k] W fun e W' => e = .returned (.int .i64 (gt Y k)) ∧ Below W.heap.size W W' := by
  have HG := hid (get_ok M 1 b cb Y k W h.cy.big (by rw [h.len]; exact h.c1) h.rb)
  have c0 := h.c0
  have c1 := h.c1
  clear h
  generalize gt Y k = res at *
  go_enter Try.func19, Try.ntmps19
  go_wp2_with fail
  refine HG.out.mono ?_
  rintro e w1 ⟨rfl, hb1⟩
  have HB1 := hid hb1
  clear hb1
  go_wp2_with fail
  go_ret
  exact ⟨rfl, HB1.out⟩
set_option maxHeartbeats 4000000 in
theorem free_ok {M a ca b cb : Nat} {X Y : List Int} {W : World} (h : SM 66 W M a ca b cb X Y) (j : Nat) (hj : j < X.length) :
    Calls Try.prog 42 #[.pointer (some ⟨M, 0, none⟩), .int .i64 (j : Int)] W fun e W' => e = .returned (.bool (fr X Y j)) ∧ Below W.heap.size W W' := by
  have c0 := h.c0
  have c1 := h.c1
  have c2 := h.ra.at j hj
  have c3 := h.rb.at j (by rw [h.len]; exact hj)
  have hj' : (j : Int) < (X.length : Int) := by omega
  have HF := hid (show fr X Y j = (ge X j == 0 && ge Y j == 0) from rfl)
  generalize fr X Y j = res at *
  clear h
  generalize ge X j = x at *
  generalize ge Y j = y at *
  by_cases hx : x = 0
  · by_cases hy : y = 0
    · subst hx hy
      go_enter Try.func42, Try.ntmps42
      go_wp2_with fail
      go_ret
      exact ⟨by rw [HF.out]; rfl, Below.refl _ _⟩
    · subst hx
      have hy' : (y == 0) = false := by simpa using hy
      rw [hy'] at HF
      go_enter Try.func42, Try.ntmps42
      go_wp2_with fail
      go_ret
      exact ⟨by rw [HF.out]; rfl, Below.refl _ _⟩
  · have hx' : (x == 0) = false := by simpa using hx
    rw [hx'] at HF
    go_enter Try.func42, Try.ntmps42
    go_wp2_with fail
    go_ret
    exact ⟨by rw [HF.out]; rfl, Below.refl _ _⟩
/-- the number of free blocks among the first k -/
def nf (X Y : List Int) : Nat → Nat
  | 0 => 0
  | k + 1 => nf X Y k + if fr X Y k then 1 else 0
theorem nf_le (X Y : List Int) (k : Nat) : nf X Y k ≤ k := by
  induction k with
  | zero => exact Nat.le_refl _
  | succ k ih => unfold nf; split <;> omega
set_option maxHeartbeats 4000000 in
theorem nfree_ok {M a ca b cb : Nat} {X Y : List Int} {W : World} (h : SM 66 W M a ca b cb X Y) :
    Calls Try.prog 17 #[.pointer (some ⟨M, 0, none⟩)] W fun e W' => e = .returned (.int .i64 (nf X Y X.length : Int)) ∧ Below W.heap.size W W' := by
  have c0 := h.c0
  have hbig := h.cx.big
  have H := hid h
  clear h
  go_enter Try.func17, Try.ntmps17
  go_wp2_with fail
  go_loopw [3, 12] (fun nv iv wr => ∃ k : Nat, k ≤ X.length ∧ nv = .int .i64 (nf X Y k : Int) ∧ iv = .int .i64 (k : Int) ∧ Hid (Below W.heap.size W wr)) (fun _ iv _ => X.length - (intOf iv).toNat)
  case atStart => exact ⟨0, by omega, rfl, rfl, hid (Below.refl _ _)⟩
  case round =>
    obtain ⟨k, hk, rfl, rfl, HB⟩ := hrel
    clear c0
    by_cases hlt : k < X.length
    · have hlt' : (k : Int) < (X.length : Int) := by omega
      have HF := hid (free_ok (H.out.below HB.out) k hlt)
      have HN := hid (show nf X Y (k + 1) = nf X Y k + if fr X Y k then 1 else 0 from rfl)
      have hle := nf_le X Y k
      generalize fr X Y k = f at *
      generalize nf X Y k = n at *
      cases f with
      | true =>
        go_wp2_with fail
        refine HF.out.mono ?_
        rintro e w1 ⟨rfl, hb1⟩
        have HB1 := hid (bt HB.out hb1)
        clear hb1
        go_wp2_with fail
        go_roundw
        case rel => exact ⟨k + 1, by omega, by rw [HN.out]; go_num, by go_num, HB1⟩
        case measure => simp [intOf]; omega
      | false =>
        go_wp2_with fail
        refine HF.out.mono ?_
        rintro e w1 ⟨rfl, hb1⟩
        have HB1 := hid (bt HB.out hb1)
        clear hb1
        go_wp2_with fail
        go_roundw
        case rel => exact ⟨k + 1, by omega, by rw [HN.out]; go_num, by go_num, HB1⟩
        case measure => simp [intOf]; omega
    · obtain rfl : k = X.length := by omega
      have hlt' : ¬ (X.length : Int) < (X.length : Int) := by omega
      go_wp2_with fail
      go_ret
      exact ⟨rfl, HB.out⟩
/-- the least free block -/
def al (X Y : List Int) : Option Nat := (List.range X.length).find? (fr X Y)
theorem al_some {X Y : List Int} {k : Nat} (hk : k < X.length) (h1 : fr X Y k = true) (h2 : ∀ j, j < k → fr X Y j = false) : al X Y = some k := by
  unfold al
  rw [List.find?_range_eq_some]
  refine ⟨h1, by simpa using hk, fun j hj => by simp [h2 j hj]⟩
theorem al_none {X Y : List Int} (h2 : ∀ j, j < X.length → fr X Y j = false) : al X Y = none := by
  unfold al
  rw [List.find?_eq_none]
  intro j hj
  rw [h2 j (by simpa using hj)]
  simp
def alV (X Y : List Int) : Int := match al X Y with | some k => (k : Int) | none => 0
def alE (X Y : List Int) : Int := match al X Y with | some _ => 0 | none => 14
def alX (X Y : List Int) : List Int := match al X Y with | some k => X.set k 1 | none => X
set_option maxHeartbeats 4000000 in
theorem alloc_ok {M a ca b cb : Nat} {X Y : List Int} {W : World} (h : SM 66 W M a ca b cb X Y) :
    Calls Try.prog 18 #[.pointer (some ⟨M, 0, none⟩)] W fun e W' => e = .returned (.tuple #[.int .i64 (alV X Y), .int .i64 (alE X Y)]) ∧ Hid (SM 66 W' M a ca b cb (alX X Y) Y ∧ W.grownBy W' (some a)) := by
  have c0 := h.c0
  have hbig := h.cx.big
  have H := hid h
  clear h
  go_enter Try.func18, Try.ntmps18
  go_wp2_with fail
  go_loopw [12] (fun iv wr => ∃ k : Nat, k ≤ X.length ∧ iv = .int .i64 (k : Int) ∧ Hid (∀ j, j < k → fr X Y j = false) ∧ Hid (Below W.heap.size W wr)) (fun iv _ => X.length - (intOf iv).toNat)
  case atStart => exact ⟨0, by omega, rfl, hid (fun j hj => by omega), hid (Below.refl _ _)⟩
  case round =>
    obtain ⟨k, hk, rfl, HN, HB⟩ := hrel
    clear c0
    by_cases hlt : k < X.length
    · have hlt' : (k : Int) < (X.length : Int) := by omega
      have HF := hid (free_ok (H.out.below HB.out) k hlt)
      by_cases hf : fr X Y k = true
      · have HA := hid (al_some hlt hf HN.out)
        rw [hf] at HF
        clear hf HN
        go_wp2_with fail
        refine HF.out.mono ?_
        rintro e w1 ⟨rfl, hb1⟩
        have HB1 := hid (bt HB.out hb1)
        have H1 := hid (H.out.below HB1.out)
        have c0 := H1.out.c0
        have c1 := H1.out.ra.at k hlt
        have c2 := H1.out.ra.frozen k
        clear hb1
        go_wp2_with fail
        go_ret2
        refine ⟨by unfold alV alE; rw [HA.out]; rfl, hid ⟨?_, grown_trans (grown_row (grown_below HB1.out) _) (grown_cell _ _ _ _)⟩⟩
        unfold alX
        rw [HA.out]
        exact H1.out.set k 1 (by omega) (by omega)
      · have hf : fr X Y k = false := by simpa using hf
        rw [hf] at HF
        have HN2 := hid (show ∀ j, j < k + 1 → fr X Y j = false from fun j hj => by
          by_cases e : j = k
          · rw [e]; exact hf
          · exact HN.out j (by omega))
        clear hf HN
        go_wp2_with fail
        refine HF.out.mono ?_
        rintro e w1 ⟨rfl, hb1⟩
        have HB1 := hid (bt HB.out hb1)
        clear hb1
        go_wp2_with fail
        go_roundw
        case rel => exact ⟨k + 1, by omega, by go_num, HN2, HB1⟩
        case measure => simp [intOf]; omega
    · obtain rfl : k = X.length := by omega
      have hlt' : ¬ (X.length : Int) < (X.length : Int) := by omega
      have HA := hid (al_none HN.out)
      go_wp2_with fail
      go_ret2
      refine ⟨by unfold alV alE; rw [HA.out]; rfl, hid ⟨?_, grown_row (grown_below HB.out) _⟩⟩
      unfold alX
      rw [HA.out]
      exact H.out.below HB.out
end Go.Proofs.Ytablogkafbajaaa
