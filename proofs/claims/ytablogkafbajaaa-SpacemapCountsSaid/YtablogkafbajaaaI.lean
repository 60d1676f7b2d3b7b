/- The reference's functions. No conditions but those of each theorem. -/
import Derived.Test.YtablogkafbajaaaH
namespace Go.Proofs.Ytablogkafbajaaa
open Go.ChangeShapes Go.WideShapes Go.ChangeAt Go.RowKit
set_option linter.unusedVariables false
set_option linter.unusedSimpArgs false

set_option maxHeartbeats 4000000 in
theorem at_ok (a : Nat) (ca : Nat) (X : List Int) (b : Int) (W : World) (hR : Row W a ca X) :
    Calls Try.prog 44 #[.slice (some ⟨a, 0, none⟩) X.length ca, .int .i64 b] W fun e W' => e = .returned (.int .i64 (gt X b)) ∧ W' = W := by
  by_cases h : 0 ≤ b ∧ b < (X.length : Int)
  · obtain ⟨j, rfl⟩ : ∃ j : Nat, b = j := ⟨b.toNat, by omega⟩
    have hj : j < X.length := by omega
    have c1 := hR.at j hj
    have HG := hid (show gt X (j : Int) = ge X j by unfold gt; rw [if_pos h]; rfl)
    have d1 : ¬ (X.length : Int) ≤ (j : Int) := by omega
    clear hR
    generalize gt X (j : Int) = res at *
    go_enter Try.func44, Try.ntmps44
    go_wp2_with fail
    go_ret
    exact ⟨by rw [HG.out]; rfl, rfl⟩
  · have HG := hid (show gt X b = 0 by unfold gt; rw [if_neg h])
    generalize gt X b = res at *
    by_cases h0 : b < 0
    · go_enter Try.func44, Try.ntmps44
      go_wp2_with fail
      go_ret
      exact ⟨by rw [HG.out]; rfl, rfl⟩
    · have d1 : (X.length : Int) ≤ b := by omega
      go_enter Try.func44, Try.ntmps44
      go_wp2_with fail
      go_ret
      exact ⟨by rw [HG.out]; rfl, rfl⟩
set_option maxHeartbeats 4000000 in
theorem rcount_ok {M a ca b cb : Nat} {X Y : List Int} {W : World} (h : SM 51 W M a ca b cb X Y) (k : Int) :
    Calls Try.prog 21 #[.pointer (some ⟨M, 0, none⟩), .int .i64 k] W fun e W' => e = .returned (.int .i64 (gt X k)) ∧ W' = W := by
  have HG := hid (at_ok a ca X k W h.ra)
  skip
  have c0 := h.c0
  clear h
  generalize gt X k = res at *
  go_enter Try.func21, Try.ntmps21
  go_wp2_with fail
  refine HG.out.mono ?_
  rintro e w1 ⟨rfl, rfl⟩
  go_wp2_with fail
  go_ret
  exact ⟨rfl, rfl⟩
set_option maxHeartbeats 4000000 in
theorem rwas_ok {M a ca b cb : Nat} {X Y : List Int} {W : World} (h : SM 51 W M a ca b cb X Y) (k : Int) :
    Calls Try.prog 35 #[.pointer (some ⟨M, 0, none⟩), .int .i64 k] W fun e W' => e = .returned (.int .i64 (gt Y k)) ∧ W' = W := by
  have HG := hid (at_ok b cb Y k W h.rb)
  rw [h.len] at HG
  have c0 := h.c1
  clear h
  generalize gt Y k = res at *
  go_enter Try.func35, Try.ntmps35
  go_wp2_with fail
  refine HG.out.mono ?_
  rintro e w1 ⟨rfl, rfl⟩
  go_wp2_with fail
  go_ret
  exact ⟨rfl, rfl⟩
set_option maxHeartbeats 4000000 in
theorem rinc_ok {M a ca b cb : Nat} {X Y : List Int} {W : World} (h : SM 51 W M a ca b cb X Y) (k : Int) :
    Calls Try.prog 39 #[.pointer (some ⟨M, 0, none⟩), .int .i64 k] W fun e W' => e = .returned (.int .i64 (incE X k)) ∧ Hid (SM 51 W' M a ca b cb (incX X k) Y ∧ W.grownBy W' (some a)) := by
  have d0 := h.c0
  have H := hid h
  clear h
  by_cases hi : inr X k
  · obtain ⟨j, rfl⟩ : ∃ j : Nat, k = j := ⟨k.toNat, by unfold inr at hi; omega⟩
    have hj : j < X.length := by unfold inr at hi; omega
    have hj' : (j : Int) < (X.length : Int) := by omega
    have hE : incE X (j : Int) = (if ge X j = 0 then 12 else if ge X j = 65535 then 4 else 0) := by unfold incE; rw [if_pos hi]; rfl
    have hX : incX X (j : Int) = if incE X (j : Int) = 0 then X.set j (ge X j + 1) else X := rfl
    have hv := H.out.cx.val j hj
    have d1 := H.out.ra.at j hj
    have d2 := H.out.ra.frozen j
    by_cases h0 : ge X j = 0
    · rw [if_pos h0] at hE
      rw [hE, if_neg (by decide)] at hX
      have HE := hid hE; have HX := hid hX
      rw [h0] at d1
      clear hE hX
      go_enter Try.func39, Try.ntmps39
      go_wp2_with fail
      go_ret
      exact ⟨by rw [HE.out]; rfl, hid ⟨by rw [HX.out]; exact H.out, World.grownBy.refl _ _⟩⟩
    · rw [if_neg h0] at hE
      by_cases h1 : ge X j = 65535
      · rw [if_pos h1] at hE
        rw [hE, if_neg (by decide)] at hX
        have HE := hid hE; have HX := hid hX
        rw [h1] at d1
        clear hE hX
        go_enter Try.func39, Try.ntmps39
        go_wp2_with fail
        go_ret
        exact ⟨by rw [HE.out]; rfl, hid ⟨by rw [HX.out]; exact H.out, World.grownBy.refl _ _⟩⟩
      · rw [if_neg h1] at hE
        rw [hE, if_pos rfl] at hX
        have HE := hid hE; have HX := hid hX
        have HS := hid (H.out.set j (ge X j + 1) (by omega) (by omega))
        generalize ge X j = x at *
        clear hE hX
        go_enter Try.func39, Try.ntmps39
        go_wp2_with fail
        go_ret
        exact ⟨by rw [HE.out]; rfl, hid ⟨by rw [HX.out]; exact HS.out, grown_cell _ _ _ _⟩⟩
  · have hE : incE X k = 1 := by unfold incE; rw [if_neg hi]
    have hX : incX X k = X := by unfold incX; rw [hE, if_neg (by decide)]
    have HE := hid hE; have HX := hid hX
    clear hE hX
    by_cases h0 : k < 0
    · go_enter Try.func39, Try.ntmps39
      go_wp2_with fail
      go_ret
      exact ⟨by rw [HE.out]; rfl, hid ⟨by rw [HX.out]; exact H.out, World.grownBy.refl _ _⟩⟩
    · have h1 : (X.length : Int) ≤ k := by unfold inr at hi; omega
      go_enter Try.func39, Try.ntmps39
      go_wp2_with fail
      go_ret
      exact ⟨by rw [HE.out]; rfl, hid ⟨by rw [HX.out]; exact H.out, World.grownBy.refl _ _⟩⟩
set_option maxHeartbeats 4000000 in
theorem rdec_ok {M a ca b cb : Nat} {X Y : List Int} {W : World} (h : SM 51 W M a ca b cb X Y) (k : Int) :
    Calls Try.prog 40 #[.pointer (some ⟨M, 0, none⟩), .int .i64 k] W fun e W' => e = .returned (.int .i64 (decE X k)) ∧ Hid (SM 51 W' M a ca b cb (decX X k) Y ∧ W.grownBy W' (some a)) := by
  have d0 := h.c0
  have H := hid h
  clear h
  by_cases hi : inr X k
  · obtain ⟨j, rfl⟩ : ∃ j : Nat, k = j := ⟨k.toNat, by unfold inr at hi; omega⟩
    have hj : j < X.length := by unfold inr at hi; omega
    have hj' : (j : Int) < (X.length : Int) := by omega
    have hE : decE X (j : Int) = (if ge X j = 0 then 12 else 0) := by unfold decE; rw [if_pos hi]; rfl
    have hX : decX X (j : Int) = if decE X (j : Int) = 0 then X.set j (ge X j - 1) else X := rfl
    have hv := H.out.cx.val j hj
    have d1 := H.out.ra.at j hj
    have d2 := H.out.ra.frozen j
    by_cases h0 : ge X j = 0
    · rw [if_pos h0] at hE
      rw [hE, if_neg (by decide)] at hX
      have HE := hid hE; have HX := hid hX
      rw [h0] at d1
      clear hE hX
      go_enter Try.func40, Try.ntmps40
      go_wp2_with fail
      go_ret
      exact ⟨by rw [HE.out]; rfl, hid ⟨by rw [HX.out]; exact H.out, World.grownBy.refl _ _⟩⟩
    · rw [if_neg h0] at hE
      rw [hE, if_pos rfl] at hX
      have HE := hid hE; have HX := hid hX
      have HS := hid (H.out.set j (ge X j - 1) (by omega) (by omega))
      generalize ge X j = x at *
      clear hE hX
      go_enter Try.func40, Try.ntmps40
      go_wp2_with fail
      go_ret
      exact ⟨by rw [HE.out]; rfl, hid ⟨by rw [HX.out]; exact HS.out, grown_cell _ _ _ _⟩⟩
  · have hE : decE X k = 1 := by unfold decE; rw [if_neg hi]
    have hX : decX X k = X := by unfold decX; rw [hE, if_neg (by decide)]
    have HE := hid hE; have HX := hid hX
    clear hE hX
    by_cases h0 : k < 0
    · go_enter Try.func40, Try.ntmps40
      go_wp2_with fail
      go_ret
      exact ⟨by rw [HE.out]; rfl, hid ⟨by rw [HX.out]; exact H.out, World.grownBy.refl _ _⟩⟩
    · have h1 : (X.length : Int) ≤ k := by unfold inr at hi; omega
      go_enter Try.func40, Try.ntmps40
      go_wp2_with fail
      go_ret
      exact ⟨by rw [HE.out]; rfl, hid ⟨by rw [HX.out]; exact H.out, World.grownBy.refl _ _⟩⟩
set_option maxHeartbeats 4000000 in
theorem rfree_ok {M a ca b cb : Nat} {X Y : List Int} {W : World} (h : SM 51 W M a ca b cb X Y) :
    Calls Try.prog 34 #[.pointer (some ⟨M, 0, none⟩)] W fun e W' => e = .returned (.int .i64 (nf X Y X.length : Int)) ∧ Below W.heap.size W W' := by
  have hbig := h.cx.big
  have H := hid h
  clear h
  go_enter Try.func34, Try.ntmps34
  go_wp2_with fail
  go_loopw [3, 4] (fun nv iv wr => ∃ k : Nat, k ≤ X.length ∧ nv = .int .i64 (nf X Y k : Int) ∧ iv = .int .i64 (k : Int) ∧ Hid (Below W.heap.size W wr)) (fun _ iv _ => X.length - (intOf iv).toNat)
  case atStart => exact ⟨0, by omega, rfl, rfl, hid (Below.refl _ _)⟩
  case round =>
    obtain ⟨k, hk, rfl, rfl, HB⟩ := hrel
    have H1 := hid (H.out.below HB.out)
    have c0 := H1.out.c0
    by_cases hlt : k < X.length
    · have hlt' : (k : Int) < (X.length : Int) := by omega
      have c1 := H1.out.c1
      have c2 := H1.out.ra.at k hlt
      have c3 := H1.out.rb.at k (by rw [H1.out.len]; exact hlt)
      have HN := hid (show nf X Y (k + 1) = nf X Y k + if (ge X k == 0 && ge Y k == 0) then 1 else 0 from rfl)
      have hle := nf_le X Y k
      generalize ge X k = x at *
      generalize ge Y k = y at *
      generalize nf X Y k = n at *
      by_cases hx : x = 0
      · by_cases hy : y = 0
        · subst hx hy
          go_wp2_with fail
          go_roundw
          case rel => exact ⟨k + 1, by omega, by rw [HN.out]; go_num, by go_num, HB⟩
          case measure => simp [intOf]; omega
        · subst hx
          have hy' : (y == 0) = false := by simpa using hy
          rw [hy'] at HN
          go_wp2_with fail
          go_roundw
          case rel => exact ⟨k + 1, by omega, by rw [HN.out]; go_num, by go_num, HB⟩
          case measure => simp [intOf]; omega
      · have hx' : (x == 0) = false := by simpa using hx
        rw [hx'] at HN
        go_wp2_with fail
        go_roundw
        case rel => exact ⟨k + 1, by omega, by rw [HN.out]; go_num, by go_num, HB⟩
        case measure => simp [intOf]; omega
    · obtain rfl : k = X.length := by omega
      have hlt' : ¬ (X.length : Int) < (X.length : Int) := by omega
      go_wp2_with fail
      go_ret
      exact ⟨rfl, HB.out⟩
set_option maxHeartbeats 4000000 in
theorem ralloc_ok {M a ca b cb : Nat} {X Y : List Int} {W : World} (h : SM 51 W M a ca b cb X Y) :
    Calls Try.prog 38 #[.pointer (some ⟨M, 0, none⟩)] W fun e W' => e = .returned (.tuple #[.int .i64 (alV X Y), .int .i64 (alE X Y)]) ∧ Hid (SM 51 W' M a ca b cb (alX X Y) Y ∧ W.grownBy W' (some a)) := by
  have hbig := h.cx.big
  have H := hid h
  clear h
  go_enter Try.func38, Try.ntmps38
  go_wp2_with fail
  go_loopw [4] (fun iv wr => ∃ k : Nat, k ≤ X.length ∧ iv = .int .i64 (k : Int) ∧ Hid (∀ j, j < k → fr X Y j = false) ∧ Hid (Below W.heap.size W wr)) (fun iv _ => X.length - (intOf iv).toNat)
  case atStart => exact ⟨0, by omega, rfl, hid (fun j hj => by omega), hid (Below.refl _ _)⟩
  case round =>
    obtain ⟨k, hk, rfl, HN, HB⟩ := hrel
    have H1 := hid (H.out.below HB.out)
    have c0 := H1.out.c0
    by_cases hlt : k < X.length
    · have hlt' : (k : Int) < (X.length : Int) := by omega
      have c1 := H1.out.c1
      have c2 := H1.out.ra.at k hlt
      have c3 := H1.out.rb.at k (by rw [H1.out.len]; exact hlt)
      have c4 := H1.out.ra.frozen k
      have hfr : fr X Y k = (ge X k == 0 && ge Y k == 0) := rfl
      by_cases hf : fr X Y k = true
      · have HA := hid (al_some hlt hf HN.out)
        rw [hfr] at hf
        simp at hf
        obtain ⟨hx, hy⟩ := hf
        rw [hx] at c2
        rw [hy] at c3
        clear HN hx hy hfr
        go_wp2_with fail
        go_ret2
        refine ⟨by unfold alV alE; rw [HA.out]; rfl, hid ⟨?_, grown_trans (grown_row (grown_below HB.out) _) (grown_cell _ _ _ _)⟩⟩
        unfold alX
        rw [HA.out]
        exact H1.out.set k 1 (by omega) (by omega)
      · have hf : fr X Y k = false := by simpa using hf
        have HN2 := hid (show ∀ j, j < k + 1 → fr X Y j = false from fun j hj => by
          by_cases e : j = k
          · rw [e]; exact hf
          · exact HN.out j (by omega))
        rw [hfr] at hf
        clear HN hfr
        generalize ge X k = x at *
        generalize ge Y k = y at *
        by_cases hx : x = 0
        · subst hx
          have hy : (y == 0) = false := by simpa using hf
          clear hf
          go_wp2_with fail
          go_roundw
          case rel => exact ⟨k + 1, by omega, by go_num, HN2, HB⟩
          case measure => simp [intOf]; omega
        · have hx' : (x == 0) = false := by simpa using hx
          clear hf
          go_wp2_with fail
          go_roundw
          case rel => exact ⟨k + 1, by omega, by go_num, HN2, HB⟩
          case measure => simp [intOf]; omega
    · obtain rfl : k = X.length := by omega
      have hlt' : ¬ (X.length : Int) < (X.length : Int) := by omega
      have HA := hid (al_none HN.out)
      go_wp2_with fail
      go_ret2
      refine ⟨by unfold alV alE; rw [HA.out]; rfl, hid ⟨?_, grown_row (grown_below HB.out) _⟩⟩
      unfold alX
      rw [HA.out]
      exact H.out.below HB.out
end Go.Proofs.Ytablogkafbajaaa
