/- Hidden and extend of layer 8. No conditions but those of each theorem. -/
import Derived.Test.YtdpclmogfnigdaaE
namespace Go.Proofs.Ytdpclmogfnigdaa
open Go.ChangeShapes Go.WideShapes Go.ChangeAt Go.RowKit
set_option linter.unusedVariables false
set_option linter.unusedSimpArgs false

theorem strip_le (l : List UInt8) : (stripL l).1.length ≤ l.length := by
  cases h : (stripL l).2 with
  | true => exact Nat.le_of_lt (strip_lt l h)
  | false => rw [strip_no l h]; exact Nat.le_refl _
theorem bareN_le : ∀ (n : Nat) (l : List UInt8), (bareN n l).length ≤ l.length := by
  intro n
  induction n with
  | zero => intro l; exact Nat.le_refl _
  | succ n ih =>
    intro l
    unfold bareN
    split
    · exact Nat.le_trans (ih _) (strip_le l)
    · exact Nat.le_refl _
theorem bare_le (l : List UInt8) : (bareL l).length ≤ l.length := bareN_le _ _

/-- a hidden name -/
def hidL (l : List UInt8) : Bool := decide (l.length ≤ 40) && (!(bareL l == l) && visL (bareL l))
theorem bs_list (l : List UInt8) : (bs l).toList = l := by rw [Lib.toList_data]; rfl
set_option maxHeartbeats 4000000 in
theorem hid_any (s : ByteArray) (hs : s.size ≤ 9223372036854775806) (w : World) :
    Calls Try.prog 15 #[.string s] w fun e w' => e = .returned (.bool (hidL s.data.toList)) ∧ Below w.heap.size w w' := by
  have HB0 := hid (bare_any s hs)
  have hle := bare_le s.data.toList
  have hl := data_size s
  obtain ⟨t, ht⟩ : ∃ t, t = bs (bareL s.data.toList) := ⟨_, rfl⟩
  have hts : t.size ≤ 9223372036854775806 := by rw [ht, bs_size]; omega
  have HV := hid (vis_any t hts)
  have e1 : hidL s.data.toList = (decide (s.size ≤ 40) && (!(t.toList == s.toList) && visL t.data.toList)) := by
    unfold hidL
    rw [hl, ht, bs_list, bs_data, Lib.toList_data]
  rw [← ht] at HB0
  generalize visL t.data.toList = vb at *
  have HE := hid e1
  clear e1 hl ht hts hle
  generalize hidL s.data.toList = hb at *
  by_cases h : s.size ≤ 40
  · have h1 : (s.size : Int) ≤ 40 := by omega
    rw [decide_eq_true h, Bool.true_and] at HE
    by_cases hE : (t.toList == s.toList) = true
    · rw [hE] at HE
      go_enter Try.func15, Try.ntmps15
      go_wp2_with fail
      refine (HB0.out _).mono ?_
      rintro e w1 ⟨rfl, hb1⟩
      have HB1 := hid hb1
      clear hb1
      go_wp2_with fail
      go_ret
      exact ⟨by rw [HE.out]; rfl, HB1.out⟩
    · have hE : (t.toList == s.toList) = false := by simpa using hE
      rw [hE] at HE
      go_enter Try.func15, Try.ntmps15
      go_wp2_with fail
      refine (HB0.out _).mono ?_
      rintro e w1 ⟨rfl, hb1⟩
      have HB1 := hid hb1
      clear hb1
      go_wp2_with fail
      refine (HV.out _).mono ?_
      rintro e w2 ⟨rfl, hb2⟩
      have HB2 := hid (bt HB1.out hb2)
      clear hb2
      go_wp2_with fail
      go_ret
      exact ⟨by rw [HE.out]; rfl, HB2.out⟩
  · have h1 : ¬ (s.size : Int) ≤ 40 := by omega
    rw [decide_eq_false h, Bool.false_and] at HE
    go_enter Try.func15, Try.ntmps15
    go_wp2_with fail
    refine (HB0.out _).mono ?_
    rintro e w1 ⟨rfl, hb1⟩
    have HB1 := hid hb1
    clear hb1
    go_wp2_with fail
    go_ret
    exact ⟨by rw [HE.out]; rfl, HB1.out⟩

/-- a name with a text behind it, and the error -/
def extL (l p : List UInt8) (ok : Bool) : List UInt8 × Int :=
  if (visL l || hidL l) = false then ([], 10) else if ok = false then ([], 1) else if 40 < l.length + p.length then ([], 4) else (l ++ p, 0)
theorem bs_app (s p : ByteArray) : s ++ p = bs (s.data.toList ++ p.data.toList) := by
  rw [← bs_self (s ++ p)]
  congr 1
set_option maxHeartbeats 4000000 in
theorem ext_any (s p : ByteArray) (ok : Bool) (hs : s.size ≤ 9223372036854775806) (hp : p.size ≤ 100) (hsp : s.size + p.size ≤ 9223372036854775807) (w : World) :
    Calls Try.prog 42 #[.string s, .string p, .bool ok] w fun e w' => e = .returned (.tuple #[.string (bs (extL s.data.toList p.data.toList ok).1), .int .i64 (extL s.data.toList p.data.toList ok).2]) ∧ Below w.heap.size w w' := by
  have HV := hid (vis_any s hs)
  have HH := hid (hid_any s hs)
  have e1 : extL s.data.toList p.data.toList ok = if (visL s.data.toList || hidL s.data.toList) = false then ([], 10) else if ok = false then ([], 1) else if 40 < s.size + p.size then ([], 4) else (s.data.toList ++ p.data.toList, 0) := by
    unfold extL
    rw [data_size, data_size]
  generalize visL s.data.toList = vb at *
  generalize hidL s.data.toList = hb at *
  generalize extL s.data.toList p.data.toList ok = x at *
  have HE := hid e1
  have HA := hid (bs_app s p)
  clear e1
  cases vb with
  | true =>
    cases ok with
    | true =>
      by_cases h : 40 < s.size + p.size
      · have h1 : (40 : Int) < (s.size : Int) + (p.size : Int) := by omega
        rw [if_pos h] at HE
        go_enter Try.func42, Try.ntmps42
        go_wp2_with fail
        refine (HV.out _).mono ?_
        rintro e w1 ⟨rfl, hb1⟩
        have HB1 := hid hb1
        clear hb1
        go_wp2_with fail
        go_ret2
        exact ⟨by rw [HE.out]; rfl, HB1.out⟩
      · have h1 : ¬ (40 : Int) < (s.size : Int) + (p.size : Int) := by omega
        rw [if_neg h] at HE
        go_enter Try.func42, Try.ntmps42
        go_wp2_with fail
        refine (HV.out _).mono ?_
        rintro e w1 ⟨rfl, hb1⟩
        have HB1 := hid hb1
        clear hb1
        go_wp2_with fail
        go_ret2
        exact ⟨by rw [HE.out, HA.out]; rfl, HB1.out⟩
    | false =>
      go_enter Try.func42, Try.ntmps42
      go_wp2_with fail
      refine (HV.out _).mono ?_
      rintro e w1 ⟨rfl, hb1⟩
      have HB1 := hid hb1
      clear hb1
      go_wp2_with fail
      go_ret2
      exact ⟨by rw [HE.out]; rfl, HB1.out⟩
  | false =>
    cases hb with
    | true =>
      cases ok with
      | true =>
        by_cases h : 40 < s.size + p.size
        · have h1 : (40 : Int) < (s.size : Int) + (p.size : Int) := by omega
          rw [if_pos h] at HE
          go_enter Try.func42, Try.ntmps42
          go_wp2_with fail
          refine (HV.out _).mono ?_
          rintro e w1 ⟨rfl, hb1⟩
          have HB1 := hid hb1
          clear hb1
          go_wp2_with fail
          refine (HH.out _).mono ?_
          rintro e w2 ⟨rfl, hb2⟩
          have HB2 := hid (bt HB1.out hb2)
          clear hb2
          go_wp2_with fail
          go_ret2
          exact ⟨by rw [HE.out]; rfl, HB2.out⟩
        · have h1 : ¬ (40 : Int) < (s.size : Int) + (p.size : Int) := by omega
          rw [if_neg h] at HE
          go_enter Try.func42, Try.ntmps42
          go_wp2_with fail
          refine (HV.out _).mono ?_
          rintro e w1 ⟨rfl, hb1⟩
          have HB1 := hid hb1
          clear hb1
          go_wp2_with fail
          refine (HH.out _).mono ?_
          rintro e w2 ⟨rfl, hb2⟩
          have HB2 := hid (bt HB1.out hb2)
          clear hb2
          go_wp2_with fail
          go_ret2
          exact ⟨by rw [HE.out, HA.out]; rfl, HB2.out⟩
      | false =>
        go_enter Try.func42, Try.ntmps42
        go_wp2_with fail
        refine (HV.out _).mono ?_
        rintro e w1 ⟨rfl, hb1⟩
        have HB1 := hid hb1
        clear hb1
        go_wp2_with fail
        refine (HH.out _).mono ?_
        rintro e w2 ⟨rfl, hb2⟩
        have HB2 := hid (bt HB1.out hb2)
        clear hb2
        go_wp2_with fail
        go_ret2
        exact ⟨by rw [HE.out]; rfl, HB2.out⟩
    | false =>
      go_enter Try.func42, Try.ntmps42
      go_wp2_with fail
      refine (HV.out _).mono ?_
      rintro e w1 ⟨rfl, hb1⟩
      have HB1 := hid hb1
      clear hb1
      go_wp2_with fail
      refine (HH.out _).mono ?_
      rintro e w2 ⟨rfl, hb2⟩
      have HB2 := hid (bt HB1.out hb2)
      clear hb2
      go_wp2_with fail
      go_ret2
      exact ⟨by rw [HE.out]; rfl, HB2.out⟩
end Go.Proofs.Ytdpclmogfnigdaa
