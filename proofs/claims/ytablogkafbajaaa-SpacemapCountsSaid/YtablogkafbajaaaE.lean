/- The program's Inc, Dec, slices.Clone, Counts. No conditions but those of each theorem. -/
import Derived.Test.YtablogkafbajaaaD
namespace Go.Proofs.Ytablogkafbajaaa
open Go.ChangeShapes Go.WideShapes Go.ChangeAt Go.RowKit
set_option linter.unusedVariables false
set_option linter.unusedSimpArgs false

def inr (X : List Int) (b : Int) : Prop := 0 ≤ b ∧ b < (X.length : Int)
instance (X : List Int) (b : Int) : Decidable (inr X b) := by unfold inr; infer_instance
def incE (X : List Int) (b : Int) : Int := if inr X b then (if ge X b.toNat = 0 then 12 else if ge X b.toNat = 65535 then 4 else 0) else 1
def incX (X : List Int) (b : Int) : List Int := if incE X b = 0 then X.set b.toNat (ge X b.toNat + 1) else X
def decE (X : List Int) (b : Int) : Int := if inr X b then (if ge X b.toNat = 0 then 12 else 0) else 1
def decX (X : List Int) (b : Int) : List Int := if decE X b = 0 then X.set b.toNat (ge X b.toNat - 1) else X
theorem inr_no {X : List Int} {b : Int} (h : ¬ inr X b) : (decide (0 ≤ b) && decide (b < (X.length : Int))) = false := by
  rw [Bool.and_eq_false_iff]
  by_cases h0 : 0 ≤ b
  · right; exact decide_eq_false (fun h1 => h ⟨h0, h1⟩)
  · left; exact decide_eq_false h0
theorem inr_yes {X : List Int} {b : Int} (h : inr X b) : (decide (0 ≤ b) && decide (b < (X.length : Int))) = true := by
  rw [decide_eq_true h.1, decide_eq_true h.2]; rfl
set_option maxHeartbeats 4000000 in
theorem inc_ok {M a ca b cb : Nat} {X Y : List Int} {W : World} (h : SM 66 W M a ca b cb X Y) (k : Int) :
    Calls Try.prog 30 #[.pointer (some ⟨M, 0, none⟩), .int .i64 k] W fun e W' => e = .returned (.int .i64 (incE X k)) ∧ Hid (SM 66 W' M a ca b cb (incX X k) Y ∧ W.grownBy W' (some a)) := by
  have HH := hid (has_ok M 0 a ca X.length k W h.cx.big h.c0)
  have c0 := h.c0
  have H := hid h
  clear h
  by_cases hi : inr X k
  · obtain ⟨j, rfl⟩ : ∃ j : Nat, k = j := ⟨k.toNat, by unfold inr at hi; omega⟩
    have hj : j < X.length := by unfold inr at hi; omega
    have hj' : (j : Int) < (X.length : Int) := by omega
    rw [inr_yes hi] at HH
    have hE : incE X (j : Int) = (if ge X j = 0 then 12 else if ge X j = 65535 then 4 else 0) := by unfold incE; rw [if_pos hi]; rfl
    have hX : incX X (j : Int) = if incE X (j : Int) = 0 then X.set j (ge X j + 1) else X := rfl
    have hv := H.out.cx.val j hj
    by_cases h0 : ge X j = 0
    · rw [if_pos h0] at hE
      rw [hE, if_neg (by decide)] at hX
      have HE := hid hE; have HX := hid hX
      clear hE hX
      go_enter Try.func30, Try.ntmps30
      go_wp2_with fail
      refine HH.out.mono ?_
      rintro e w1 ⟨rfl, hb1⟩
      have HB1 := hid hb1
      have H1 := hid (H.out.below hb1)
      have d0 := H1.out.c0
      have d1 := H1.out.ra.at j hj
      rw [h0] at d1
      clear hb1 c0
      go_wp2_with fail
      go_ret
      exact ⟨by rw [HE.out]; rfl, hid ⟨by rw [HX.out]; exact H1.out, grown_row (grown_below HB1.out) _⟩⟩
    · rw [if_neg h0] at hE
      by_cases h1 : ge X j = 65535
      · rw [if_pos h1] at hE
        rw [hE, if_neg (by decide)] at hX
        have HE := hid hE; have HX := hid hX
        clear hE hX
        go_enter Try.func30, Try.ntmps30
        go_wp2_with fail
        refine HH.out.mono ?_
        rintro e w1 ⟨rfl, hb1⟩
        have HB1 := hid hb1
        have H1 := hid (H.out.below hb1)
        have d0 := H1.out.c0
        have d1 := H1.out.ra.at j hj
        rw [h1] at d1
        clear hb1 c0
        go_wp2_with fail
        go_ret
        exact ⟨by rw [HE.out]; rfl, hid ⟨by rw [HX.out]; exact H1.out, grown_row (grown_below HB1.out) _⟩⟩
      · rw [if_neg h1] at hE
        rw [hE, if_pos rfl] at hX
        have HE := hid hE; have HX := hid hX
        clear hE hX
        go_enter Try.func30, Try.ntmps30
        go_wp2_with fail
        refine HH.out.mono ?_
        rintro e w1 ⟨rfl, hb1⟩
        have HB1 := hid hb1
        have H1 := hid (H.out.below hb1)
        have d0 := H1.out.c0
        have d1 := H1.out.ra.at j hj
        have d2 := H1.out.ra.frozen j
        have HS := hid (H1.out.set j (ge X j + 1) (by omega) (by omega))
        generalize ge X j = x at *
        clear hb1 c0
        go_wp2_with fail
        go_ret
        exact ⟨by rw [HE.out]; rfl, hid ⟨by rw [HX.out]; exact HS.out, grown_trans (grown_row (grown_below HB1.out) _) (grown_cell _ _ _ _)⟩⟩
  · have hE : incE X k = 1 := by unfold incE; rw [if_neg hi]
    have hX : incX X k = X := by unfold incX; rw [hE, if_neg (by decide)]
    rw [inr_no hi] at HH
    have HE := hid hE; have HX := hid hX
    clear hE hX
    go_enter Try.func30, Try.ntmps30
    go_wp2_with fail
    refine HH.out.mono ?_
    rintro e w1 ⟨rfl, hb1⟩
    have HB1 := hid hb1
    have H1 := hid (H.out.below hb1)
    clear hb1 c0
    go_wp2_with fail
    go_ret
    exact ⟨by rw [HE.out]; rfl, hid ⟨by rw [HX.out]; exact H1.out, grown_row (grown_below HB1.out) _⟩⟩
set_option maxHeartbeats 4000000 in
theorem dec_ok {M a ca b cb : Nat} {X Y : List Int} {W : World} (h : SM 66 W M a ca b cb X Y) (k : Int) :
    Calls Try.prog 31 #[.pointer (some ⟨M, 0, none⟩), .int .i64 k] W fun e W' => e = .returned (.int .i64 (decE X k)) ∧ Hid (SM 66 W' M a ca b cb (decX X k) Y ∧ W.grownBy W' (some a)) := by
  have HH := hid (has_ok M 0 a ca X.length k W h.cx.big h.c0)
  have c0 := h.c0
  have H := hid h
  clear h
  by_cases hi : inr X k
  · obtain ⟨j, rfl⟩ : ∃ j : Nat, k = j := ⟨k.toNat, by unfold inr at hi; omega⟩
    have hj : j < X.length := by unfold inr at hi; omega
    have hj' : (j : Int) < (X.length : Int) := by omega
    rw [inr_yes hi] at HH
    have hE : decE X (j : Int) = (if ge X j = 0 then 12 else 0) := by unfold decE; rw [if_pos hi]; rfl
    have hX : decX X (j : Int) = if decE X (j : Int) = 0 then X.set j (ge X j - 1) else X := rfl
    have hv := H.out.cx.val j hj
    by_cases h0 : ge X j = 0
    · rw [if_pos h0] at hE
      rw [hE, if_neg (by decide)] at hX
      have HE := hid hE; have HX := hid hX
      clear hE hX
      go_enter Try.func31, Try.ntmps31
      go_wp2_with fail
      refine HH.out.mono ?_
      rintro e w1 ⟨rfl, hb1⟩
      have HB1 := hid hb1
      have H1 := hid (H.out.below hb1)
      have d0 := H1.out.c0
      have d1 := H1.out.ra.at j hj
      rw [h0] at d1
      clear hb1 c0
      go_wp2_with fail
      go_ret
      exact ⟨by rw [HE.out]; rfl, hid ⟨by rw [HX.out]; exact H1.out, grown_row (grown_below HB1.out) _⟩⟩
    · rw [if_neg h0] at hE
      rw [hE, if_pos rfl] at hX
      have HE := hid hE; have HX := hid hX
      clear hE hX
      go_enter Try.func31, Try.ntmps31
      go_wp2_with fail
      refine HH.out.mono ?_
      rintro e w1 ⟨rfl, hb1⟩
      have HB1 := hid hb1
      have H1 := hid (H.out.below hb1)
      have d0 := H1.out.c0
      have d1 := H1.out.ra.at j hj
      have d2 := H1.out.ra.frozen j
      have HS := hid (H1.out.set j (ge X j - 1) (by omega) (by omega))
      generalize ge X j = x at *
      clear hb1 c0
      go_wp2_with fail
      go_ret
      exact ⟨by rw [HE.out]; rfl, hid ⟨by rw [HX.out]; exact HS.out, grown_trans (grown_row (grown_below HB1.out) _) (grown_cell _ _ _ _)⟩⟩
  · have hE : decE X k = 1 := by unfold decE; rw [if_neg hi]
    have hX : decX X k = X := by unfold decX; rw [hE, if_neg (by decide)]
    rw [inr_no hi] at HH
    have HE := hid hE; have HX := hid hX
    clear hE hX
    go_enter Try.func31, Try.ntmps31
    go_wp2_with fail
    refine HH.out.mono ?_
    rintro e w1 ⟨rfl, hb1⟩
    have HB1 := hid hb1
    have H1 := hid (H.out.below hb1)
    clear hb1 c0
    go_wp2_with fail
    go_ret
    exact ⟨by rw [HE.out]; rfl, hid ⟨by rw [HX.out]; exact H1.out, grown_row (grown_below HB1.out) _⟩⟩

/-- integers that lie somewhere below block n -/
def Arg (n : Nat) (W : World) (a : Option Addr) (X : List Int) : Prop :=
  ∃ b off, a = some ⟨b, off, none⟩ ∧ b < n ∧ ∀ j, j < X.length → W.cell? ⟨b, off + j, none⟩ = some (.int .i64 (ge X j))
theorem Row.arg {w : World} {g cap : Nat} {X : List Int} (h : Row w g cap X) : Arg w.heap.size w (some ⟨g, 0, none⟩) X :=
  ⟨g, 0, rfl, h.lt, fun j hj => by rw [Nat.zero_add]; exact h.at j hj⟩
theorem Arg.below {n : Nat} {A B : World} {a : Option Addr} {X : List Int} (h : Arg n A a X) (hb : Below n A B) : Arg n B a X := by
  obtain ⟨b, off, e, h1, h2⟩ := h
  exact ⟨b, off, e, h1, fun j hj => (hb.cell (p := ⟨b, off + j, none⟩) h1).trans (h2 j hj)⟩
theorem Arg.news {n : Nat} {W : World} {x : Addr} {X : List Int} (h : Arg n W (some x) X) : ∀ j u, (vi X)[j]? = some u → W.cell? (x.add j) = some u := by
  obtain ⟨b, off, e, h1, h2⟩ := h
  obtain rfl := Option.some.inj e
  intro j u hu
  have hj : j < X.length := by have := (List.getElem?_eq_some_iff.1 hu).1; rwa [vi_len] at this
  rw [vi_at X j hj] at hu
  have ea : (⟨b, off, none⟩ : Addr).add j = ⟨b, off + j, none⟩ := by
    by_cases e : j = 0
    · subst e; simp [Addr.add]
    · simp [Addr.add, e]
  rw [ea, h2 j hj, hu]
theorem Try.info3 : (Try.prog.info? 3).map (fun i => (i.zero, i.size, i.bytes)) = some (some (.int .i64 0), 1, 8) := by kernel_rfl
theorem row_of {W : World} {base n : Nat} {v : Value} {X : List Int} (h : W.ownsRow base 3 1 v n (vi X)) (h1 : 1 ≤ X.length) (hn : n = X.length) : ∃ g cap, v = .slice (some ⟨g, 0, none⟩) X.length cap ∧ base ≤ g ∧ Row W g cap X := by
  subst hn
  rcases h.2 with ⟨_, h0⟩ | ⟨g, cap, cur, hv, hb, hh, r1, r2, r3, r4⟩
  · omega
  · exact ⟨g, cap, hv, hb, h.1, .inr ⟨g, cap, cur, rfl, Nat.zero_le _, hh, r1, r2, r3, r4⟩⟩
set_option maxHeartbeats 4000000 in
theorem clone_ok (a : Option Addr) (cap : Nat) (X : List Int) (W : World) (h1 : 1 ≤ X.length) (hbig : X.length ≤ 1000000) (hA : Arg W.heap.size W a X) :
    Calls Try.prog 36 #[.slice a X.length cap] W fun e W' => ∃ g c, e = .returned (.slice (some ⟨g, 0, none⟩) X.length c) ∧ W.heap.size ≤ g ∧ Hid (Row W' g c X ∧ Below W.heap.size W W') := by
  have q22 : ∀ (w : World) (a : Option Addr) (n c n' c' : Nat), (binOp .eql 22 (.slice a n c) (.slice none n' c')).run Try.prog w = .ok (.bool a.isNone) w := fun w a n c n' c' => Lib.run_eql_slice_nil w _ _ a n c n' c' Try.underlying22
  obtain ⟨x, rfl⟩ : ∃ x, a = some x := by obtain ⟨b, off, e, _⟩ := hA; exact ⟨_, e⟩
  obtain ⟨i0, hi, hz0, hz1, hz2⟩ := info_parts Try.info3
  have HI := hid hi; have HZ0 := hid hz0; have HZ1 := hid hz1; have HZ2 := hid hz2
  clear hi hz0 hz1 hz2
  have HLn := hid (show (vi X).length = X.length * 1 by rw [vi_len]; omega)
  have HB := hid ((Below.refl W.heap.size W).alloc (Nat.le_refl _) (.cells #[] 3))
  have HR1 := hid (hA.below HB.out)
  have HO := hid (World.ownsRow_made (base := W.heap.size) (e := 3) (size := 1) W #[] 0 (Nat.le_refl _) (by unfold maxLen; omega) rfl)
  have hs1 : (W.alloc (.cells #[] 3)).heap.size = W.heap.size + 1 := by simp
  clear hA
  go_enter Try.func36, Try.ntmps36
  go_wp2_with (first | (at_builtin; refine wpList_append_own _ rfl _ _ 22 rfl W.heap.size 3 i0 (.int .i64 0) 1 8 Try.underlying22 HI.out HZ0.out HZ1.out HZ2.out rfl (by decide) (.slice (some ⟨W.heap.size, 0, none⟩) 0 0) 0 [] rfl HO.out x X.length cap (vi X) rfl HLn.out HR1.out.news (one_vi X) (by unfold maxLen; omega) (by omega) (by omega) ?_; intro v4 w4 hown4 hgrow4 _))
  go_ret
  obtain ⟨g, c, rfl, hb, hR⟩ := row_of (n := X.length) (by simpa using hown4) h1 rfl
  refine ⟨g, c, rfl, hb, hid ⟨hR, HB.out.grown hgrow4 (by omega) (fun k e => ?_)⟩⟩
  have : W.heap.size = k := by simpa [Value.ownBlock] using e
  omega
set_option maxHeartbeats 4000000 in
theorem counts_ok {M a ca b cb : Nat} {X Y : List Int} {W : World} (h : SM 66 W M a ca b cb X Y) :
    Calls Try.prog 27 #[.pointer (some ⟨M, 0, none⟩)] W fun e W' => ∃ g c, e = .returned (.slice (some ⟨g, 0, none⟩) X.length c) ∧ W.heap.size ≤ g ∧ Hid (Row W' g c X ∧ Below W.heap.size W W') := by
  have HC := hid (clone_ok (some ⟨a, 0, none⟩) ca X W h.cx.pos (by have := h.cx.big; omega) h.ra.arg)
  have c0 := h.c0
  clear h
  go_enter Try.func27, Try.ntmps27
  go_wp2_with fail
  refine HC.out.mono ?_
  rintro e w1 ⟨g, c, rfl, hg, H1⟩
  go_wp2_with fail
  go_ret
  exact ⟨g, c, rfl, hg, H1⟩
end Go.Proofs.Ytablogkafbajaaa
