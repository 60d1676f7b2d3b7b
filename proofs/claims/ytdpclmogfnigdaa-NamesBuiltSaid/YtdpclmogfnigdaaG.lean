/- Leg, Part, Parent and Root of layer 8. No conditions but those of each theorem. -/
import Derived.Test.YtdpclmogfnigdaaF
namespace Go.Proofs.Ytdpclmogfnigdaa
open Go.ChangeShapes Go.WideShapes Go.ChangeAt Go.RowKit
set_option linter.unusedVariables false
set_option linter.unusedSimpArgs false

/-- Parent's answer -/
def parL (l : List UInt8) : List UInt8 × Bool := if hidL l then stripL l else ([], false)
def rootL (l : List UInt8) : List UInt8 := if hidL l then bareL l else l
set_option maxHeartbeats 4000000 in
theorem par_any (s : ByteArray) (hs : s.size ≤ 9223372036854775806) (w : World) :
    Calls Try.prog 19 #[.string s] w fun e w' => e = .returned (.tuple #[.string (bs (parL s.data.toList).1), .bool (parL s.data.toList).2]) ∧ Below w.heap.size w w' := by
  have HH := hid (hid_any s hs)
  have HS := hid (strip_any s hs)
  have HE := hid (show parL s.data.toList = if hidL s.data.toList then stripL s.data.toList else ([], false) from rfl)
  generalize hidL s.data.toList = hb at *
  generalize stripL s.data.toList = st at *
  generalize parL s.data.toList = x at *
  cases hb with
  | true =>
    rw [if_pos rfl] at HE
    go_enter Try.func19, Try.ntmps19
    go_wp2_with fail
    refine (HH.out _).mono ?_
    rintro e w1 ⟨rfl, hb1⟩
    have HB1 := hid hb1
    clear hb1
    go_wp2_with fail
    refine (HS.out _).mono ?_
    rintro e w2 ⟨rfl, hb2⟩
    have HB2 := hid (bt HB1.out hb2)
    clear hb2
    go_wp2_with fail
    go_ret2
    exact ⟨by rw [HE.out]; rfl, HB2.out⟩
  | false =>
    rw [if_neg (by simp)] at HE
    go_enter Try.func19, Try.ntmps19
    go_wp2_with fail
    refine (HH.out _).mono ?_
    rintro e w1 ⟨rfl, hb1⟩
    have HB1 := hid hb1
    clear hb1
    go_wp2_with fail
    go_ret2
    exact ⟨by rw [HE.out]; rfl, HB1.out⟩
set_option maxHeartbeats 4000000 in
theorem root_any (s : ByteArray) (hs : s.size ≤ 9223372036854775806) (w : World) :
    Calls Try.prog 20 #[.string s] w fun e w' => e = .returned (.string (bs (rootL s.data.toList))) ∧ Below w.heap.size w w' := by
  have HH := hid (hid_any s hs)
  have HS := hid (bare_any s hs)
  have HE := hid (show rootL s.data.toList = if hidL s.data.toList then bareL s.data.toList else s.data.toList from rfl)
  generalize hidL s.data.toList = hb at *
  generalize bareL s.data.toList = st at *
  generalize rootL s.data.toList = x at *
  cases hb with
  | true =>
    rw [if_pos rfl] at HE
    go_enter Try.func20, Try.ntmps20
    go_wp2_with fail
    refine (HH.out _).mono ?_
    rintro e w1 ⟨rfl, hb1⟩
    have HB1 := hid hb1
    clear hb1
    go_wp2_with fail
    refine (HS.out _).mono ?_
    rintro e w2 ⟨rfl, hb2⟩
    have HB2 := hid (bt HB1.out hb2)
    clear hb2
    go_wp2_with fail
    go_ret
    exact ⟨by rw [HE.out]; rfl, HB2.out⟩
  | false =>
    rw [if_neg (by simp)] at HE
    go_enter Try.func20, Try.ntmps20
    go_wp2_with fail
    refine (HH.out _).mono ?_
    rintro e w1 ⟨rfl, hb1⟩
    have HB1 := hid hb1
    clear hb1
    go_wp2_with fail
    go_ret
    exact ⟨by rw [HE.out, bs_self]; rfl, HB1.out⟩

/-- Part's answer -/
def partL (l : List UInt8) (k : Int) : List UInt8 × Int := if decide (1 ≤ k) && decide (k ≤ 4) then extL l (sx (k - 1).toNat) true else extL l [] false
set_option maxHeartbeats 4000000 in
theorem part_any (s : ByteArray) (k : Int) (hs : s.size ≤ 9223372036854775000) (w : World) :
    Calls Try.prog 18 #[.string s, .int .i64 k] w fun e w' => e = .returned (.tuple #[.string (bs (partL s.data.toList k).1), .int .i64 (partL s.data.toList k).2]) ∧ Below w.heap.size w w' := by
  by_cases h1 : 1 ≤ k
  · by_cases h2 : k ≤ 4
    · have HE := hid (show partL s.data.toList k = extL s.data.toList (sx (k - 1).toNat) true by unfold partL; rw [decide_eq_true h1, decide_eq_true h2]; rfl)
      have hk : k = 1 ∨ k = 2 ∨ k = 3 ∨ k = 4 := by omega
      have hsz : (bs (sx (k - 1).toNat)).size ≤ 100 := by rcases hk with rfl | rfl | rfl | rfl <;> decide
      have HX := hid (fun w => ext_any s (bs (sx (k - 1).toNat)) true (by omega) hsz (by omega) w)
      simp only [bs_data] at HX
      have HX := hid HX.out
      generalize partL s.data.toList k = x at *
      clear hsz h1 h2
      have j0 := ix0
      have j1 := ix1
      have j2 := ix2
      have j3 := ix3
      rcases hk with rfl | rfl | rfl | rfl
      all_goals
        go_enter Try.func18, Try.ntmps18
        go_wp2_with fail
        refine (texts_any _).mono ?_
        rintro e w1 ⟨rfl, hb1⟩
        have HB1 := hid hb1
        clear hb1
        go_wp2_with fail
        refine (HX.out _).mono ?_
        rintro e w2 ⟨rfl, hb2⟩
        have HB2 := hid (bt HB1.out hb2)
        clear hb2
        go_wp2_with fail
        go_ret2
        exact ⟨by rw [HE.out]; rfl, HB2.out⟩
    · have HE := hid (show partL s.data.toList k = extL s.data.toList [] false by unfold partL; rw [decide_eq_false h2, Bool.and_false]; rfl)
      have HX := hid (fun w => ext_any s ⟨#[]⟩ false (by omega) (by decide) (by show s.size + 0 ≤ _; omega) w)
      generalize partL s.data.toList k = x at *
      have h3 : (4 : Int) < k := by omega
      go_enter Try.func18, Try.ntmps18
      go_wp2_with fail
      refine (HX.out _).mono ?_
      rintro e w2 ⟨rfl, hb2⟩
      have HB2 := hid hb2
      clear hb2
      go_wp2_with fail
      go_ret2
      exact ⟨by rw [HE.out]; rfl, HB2.out⟩
  · have HE := hid (show partL s.data.toList k = extL s.data.toList [] false by unfold partL; rw [decide_eq_false h1, Bool.false_and]; rfl)
    have HX := hid (fun w => ext_any s ⟨#[]⟩ false (by omega) (by decide) (by show s.size + 0 ≤ _; omega) w)
    generalize partL s.data.toList k = x at *
    have h3 : k < (1 : Int) := by omega
    go_enter Try.func18, Try.ntmps18
    go_wp2_with fail
    refine (HX.out _).mono ?_
    rintro e w2 ⟨rfl, hb2⟩
    have HB2 := hid hb2
    clear hb2
    go_wp2_with fail
    go_ret2
    exact ⟨by rw [HE.out]; rfl, HB2.out⟩

/-- Leg's answer -/
def legT (l : List UInt8) (k : Int) : List UInt8 × Int := if decide (0 ≤ k) && decide (k ≤ 7) then extL l (sLeg ++ [(48 + k).toNat.toUInt8]) true else extL l [] false
theorem ext_false (l p q : List UInt8) : extL l p false = extL l q false := by
  unfold extL
  split
  · rfl
  · rfl
theorem one_back (w : World) (c : Int) (h0 : 0 ≤ c) (h1 : c < 256) : (convert 54 9 (.slice (some ⟨w.heap.size, 0, none⟩) 1 1)).run Try.prog (w.alloc (.cells #[.int .u8 c] 5)) = .ok (.string (bs [c.toNat.toUInt8])) (w.alloc (.cells #[.int .u8 c] 5)) := by
  refine run_convert_bytes_back (P := Try.prog) _ 54 9 5 ⟨w.heap.size, 0, none⟩ 1 [c.toNat.toUInt8] (by kernel_rfl) (by kernel_rfl) (by kernel_rfl) (fun j hj => ?_)
  have hj0 : j = 0 := by simp at hj; exact hj
  subst hj0
  have e : (c.toNat.toUInt8.toNat : Int) = c := by simp; omega
  simp only [List.getElem_cons_zero]
  rw [e]
  simp [go_sem, Addr.add]
def ltext (c : Int) : ByteArray := ({ data := #[95, 108, 101, 103] } : ByteArray) ++ bs [c.toNat.toUInt8]
theorem ltext_size (c : Int) : (ltext c).size = 5 := rfl
theorem ltext_data (c : Int) : (ltext c).data.toList = sLeg ++ [c.toNat.toUInt8] := rfl
set_option maxHeartbeats 4000000 in
theorem leg_any (s : ByteArray) (k : Int) (hs : s.size ≤ 9223372036854775000) (w : World) :
    Calls Try.prog 17 #[.string s, .int .i64 k] w fun e w' => e = .returned (.tuple #[.string (bs (legT s.data.toList k).1), .int .i64 (legT s.data.toList k).2]) ∧ Below w.heap.size w w' := by
  have hx := ext_any s
  by_cases h1 : 0 ≤ k
  · by_cases h2 : k ≤ 7
    · have HE := hid (show legT s.data.toList k = extL s.data.toList (ltext (48 + k)).data.toList true by unfold legT; rw [decide_eq_true h1, decide_eq_true h2, ltext_data]; rfl)
      have HX := hid (fun w => ext_any s (ltext (48 + k)) true (by omega) (by rw [ltext_size]; decide) (by rw [ltext_size]; omega) w)
      have hp : (({ data := #[95, 108, 101, 103] } : ByteArray) ++ bs [(48 + k).toNat.toUInt8]) = ltext (48 + k) := rfl
      have oc := one_back w (48 + k) (by omega) (by omega)
      have hsz := ltext_size (48 + k)
      generalize legT s.data.toList k = x at *
      generalize ltext (48 + k) = p at *
      clear hx
      go_enter Try.func17, Try.ntmps17
      go_wp2_with fail
      refine (HX.out _).mono ?_
      rintro e w2 ⟨rfl, hb2⟩
      have HB2 := hid (((Below.refl w.heap.size w).alloc (Nat.le_refl _) _).trans (hb2.mono (by simp)))
      clear hb2
      go_wp2_with fail
      go_ret2
      exact ⟨by rw [HE.out]; rfl, HB2.out⟩
    · have HE := hid (show legT s.data.toList k = extL s.data.toList (ltext ((48 + k) % 256)).data.toList false by unfold legT; rw [decide_eq_false h2, Bool.and_false]; exact ext_false _ _ _)
      have HX := hid (fun w => ext_any s (ltext ((48 + k) % 256)) false (by omega) (by rw [ltext_size]; decide) (by rw [ltext_size]; omega) w)
      have hp : (({ data := #[95, 108, 101, 103] } : ByteArray) ++ bs [((48 + k) % 256).toNat.toUInt8]) = ltext ((48 + k) % 256) := rfl
      have oc := one_back w ((48 + k) % 256) (by omega) (by omega)
      have hsz := ltext_size ((48 + k) % 256)
      generalize legT s.data.toList k = x at *
      generalize ltext ((48 + k) % 256) = p at *
      clear hx
      go_enter Try.func17, Try.ntmps17
      go_wp2_with fail
      refine (HX.out _).mono ?_
      rintro e w2 ⟨rfl, hb2⟩
      have HB2 := hid (((Below.refl w.heap.size w).alloc (Nat.le_refl _) _).trans (hb2.mono (by simp)))
      clear hb2
      go_wp2_with fail
      go_ret2
      exact ⟨by rw [HE.out]; rfl, HB2.out⟩
  · have HE := hid (show legT s.data.toList k = extL s.data.toList (ltext ((48 + k) % 256)).data.toList false by unfold legT; rw [decide_eq_false h1, Bool.false_and]; exact ext_false _ _ _)
    have HX := hid (fun w => ext_any s (ltext ((48 + k) % 256)) false (by omega) (by rw [ltext_size]; decide) (by rw [ltext_size]; omega) w)
    have hp : (({ data := #[95, 108, 101, 103] } : ByteArray) ++ bs [((48 + k) % 256).toNat.toUInt8]) = ltext ((48 + k) % 256) := rfl
    have oc := one_back w ((48 + k) % 256) (by omega) (by omega)
    have hsz := ltext_size ((48 + k) % 256)
    generalize legT s.data.toList k = x at *
    generalize ltext ((48 + k) % 256) = p at *
    clear hx
    go_enter Try.func17, Try.ntmps17
    go_wp2_with fail
    refine (HX.out _).mono ?_
    rintro e w2 ⟨rfl, hb2⟩
    have HB2 := hid (((Below.refl w.heap.size w).alloc (Nat.le_refl _) _).trans (hb2.mono (by simp)))
    clear hb2
    go_wp2_with fail
    go_ret2
    exact ⟨by rw [HE.out]; rfl, HB2.out⟩
end Go.Proofs.Ytdpclmogfnigdaa
