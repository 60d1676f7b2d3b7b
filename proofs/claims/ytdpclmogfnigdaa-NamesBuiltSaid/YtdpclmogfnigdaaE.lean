/- Visible, bare and Hidden of layer 8. No conditions but those of each theorem. -/
import Derived.Test.YtdpclmogfnigdaaD
namespace Go.Proofs.Ytdpclmogfnigdaa
open Go.ChangeShapes Go.WideShapes Go.ChangeAt Go.RowKit
set_option linter.unusedVariables false
set_option linter.unusedSimpArgs false

/-- a visible name -/
def visL (l : List UInt8) : Bool := nameL l && (decide (l.length ≤ 24) && !(stripL l).2)
set_option maxHeartbeats 4000000 in
theorem vis_any (s : ByteArray) (hs : s.size ≤ 9223372036854775806) (w : World) :
    Calls Try.prog 14 #[.string s] w fun e w' => e = .returned (.bool (visL s.data.toList)) ∧ Below w.heap.size w w' := by
  have HS := hid (strip_any s hs)
  have HN := hid (name_any s hs)
  have hl := data_size s
  have HV := hid (show visL s.data.toList = (nameL s.data.toList && (decide (s.size ≤ 24) && !(stripL s.data.toList).2)) by unfold visL; rw [hl])
  clear hl
  obtain ⟨t, ht⟩ : ∃ t, t = bs (stripL s.data.toList).1 := ⟨_, rfl⟩
  rw [← ht] at HS
  clear ht
  generalize nameL s.data.toList = nb at *
  generalize (stripL s.data.toList).2 = sb at *
  generalize visL s.data.toList = vb at *
  cases nb with
  | false =>
    go_enter Try.func14, Try.ntmps14
    go_wp2_with fail
    refine (HS.out _).mono ?_
    rintro e w1 ⟨rfl, hb1⟩
    have HB1 := hid hb1
    clear hb1
    go_wp2_with fail
    refine (HN.out _).mono ?_
    rintro e w2 ⟨rfl, hb2⟩
    have HB2 := hid (bt HB1.out hb2)
    clear hb2
    go_wp2_with fail
    go_ret
    exact ⟨by rw [HV.out]; rfl, HB2.out⟩
  | true =>
    by_cases h : s.size ≤ 24
    · have h1 : (s.size : Int) ≤ 24 := by omega
      rw [decide_eq_true h] at HV
      cases sb
      all_goals
        go_enter Try.func14, Try.ntmps14
        go_wp2_with fail
        refine (HS.out _).mono ?_
        rintro e w1 ⟨rfl, hb1⟩
        have HB1 := hid hb1
        clear hb1
        go_wp2_with fail
        refine (HN.out _).mono ?_
        rintro e w2 ⟨rfl, hb2⟩
        have HB2 := hid (bt HB1.out hb2)
        clear hb2
        go_wp2_with fail
        go_ret
        exact ⟨by rw [HV.out]; rfl, HB2.out⟩
    · have h1 : ¬ (s.size : Int) ≤ 24 := by omega
      rw [decide_eq_false h] at HV
      go_enter Try.func14, Try.ntmps14
      go_wp2_with fail
      refine (HS.out _).mono ?_
      rintro e w1 ⟨rfl, hb1⟩
      have HB1 := hid hb1
      clear hb1
      go_wp2_with fail
      refine (HN.out _).mono ?_
      rintro e w2 ⟨rfl, hb2⟩
      have HB2 := hid (bt HB1.out hb2)
      clear hb2
      go_wp2_with fail
      go_ret
      exact ⟨by rw [HV.out]; rfl, HB2.out⟩

theorem suf_len {l p : List UInt8} (h : Lib.hasSuffix l p = true) : p.length ≤ l.length := by
  unfold Lib.hasSuffix at h
  exact (List.isSuffixOf_iff_suffix.1 h).length_le
theorem trim_lt {l p : List UInt8} (h : Lib.hasSuffix l p = true) (hp : 0 < p.length) : (Lib.trimSuffix l p).length < l.length := by
  have := suf_len h
  unfold Lib.trimSuffix
  rw [if_pos h, List.length_take]
  omega
theorem strip_lt (l : List UInt8) (h : (stripL l).2 = true) : (stripL l).1.length < l.length := by
  unfold stripL at *
  split
  · exact trim_lt ‹_› (by decide)
  split
  · exact trim_lt ‹_› (by decide)
  split
  · exact trim_lt ‹_› (by decide)
  split
  · exact trim_lt ‹_› (by decide)
  rw [if_neg ‹_›, if_neg ‹_›, if_neg ‹_›, if_neg ‹_›] at h
  unfold legL at *
  split
  · simp_all
  · split
    · split
      · have := trim_lt (l := l.dropLast) (p := sLeg) ‹_› (by decide)
        simp only [List.length_dropLast] at this ⊢
        omega
      · simp_all
    · simp_all
theorem strip_no (l : List UInt8) (h : (stripL l).2 = false) : (stripL l).1 = l := by
  unfold stripL at *
  split
  · simp_all
  split
  · simp_all
  split
  · simp_all
  split
  · simp_all
  rw [if_neg ‹_›, if_neg ‹_›, if_neg ‹_›, if_neg ‹_›] at h
  unfold legL at *
  split
  · rfl
  · split
    · split
      · simp_all
      · rfl
    · rfl
def bareN : Nat → List UInt8 → List UInt8
  | 0, l => l
  | n + 1, l => if (stripL l).2 then bareN n (stripL l).1 else l
theorem bareN_eq : ∀ (n m : Nat) (l : List UInt8), l.length ≤ n → l.length ≤ m → bareN n l = bareN m l := by
  intro n
  induction n with
  | zero =>
    intro m l h1 h2
    have : l = [] := List.eq_nil_of_length_eq_zero (by omega)
    subst this
    cases m with
    | zero => rfl
    | succ m => rfl
  | succ n ih =>
    intro m l h1 h2
    cases m with
    | zero =>
      have : l = [] := List.eq_nil_of_length_eq_zero (by omega)
      subst this
      rfl
    | succ m =>
      unfold bareN
      by_cases h : (stripL l).2 = true
      · have := strip_lt l h
        rw [if_pos h, if_pos h]
        exact ih m _ (by omega) (by omega)
      · rw [if_neg h, if_neg h]
def bareL (l : List UInt8) : List UInt8 := bareN l.length l
theorem bare_step (l : List UInt8) (h : (stripL l).2 = true) : bareL l = bareL (stripL l).1 := by
  have hl := strip_lt l h
  unfold bareL
  obtain ⟨n, hn⟩ : ∃ n, l.length = n + 1 := ⟨l.length - 1, by omega⟩
  rw [hn]
  show (if (stripL l).2 then bareN n (stripL l).1 else l) = _
  rw [if_pos h]
  exact bareN_eq _ _ _ (by omega) (by omega)
theorem bare_stop (l : List UInt8) (h : (stripL l).2 = false) : bareL l = l := by
  unfold bareL
  cases hn : l.length with
  | zero => rfl
  | succ n =>
    show (if (stripL l).2 then bareN n (stripL l).1 else l) = _
    rw [if_neg (by rw [h]; simp)]

set_option maxHeartbeats 4000000 in
theorem bare_any (s : ByteArray) (hs : s.size ≤ 9223372036854775806) (w : World) :
    Calls Try.prog 39 #[.string s] w fun e w' => e = .returned (.string (bs (bareL s.data.toList))) ∧ Below w.heap.size w w' := by
  go_enter Try.func39, Try.ntmps39
  go_wp2_with fail
  go_loopw [0] (fun v wr => ∃ t : ByteArray, v = .string t ∧ t.size ≤ 9223372036854775806 ∧ Hid (bareL t.data.toList = bareL s.data.toList) ∧ Hid (Below w.heap.size w wr)) (fun v _ => match v with | .string t => t.size | _ => 0)
  case atStart => exact ⟨s, rfl, hs, hid rfl, hid (Below.refl _ _)⟩
  case round =>
    obtain ⟨t, rfl, ht, HT, HB⟩ := hrel
    have HX := hid (strip_any t ht)
    by_cases h : (stripL t.data.toList).2 = true
    · rw [h] at HX
      have hlt := strip_lt _ h
      rw [data_size] at hlt
      have HT2 := hid (show bareL (bs (stripL t.data.toList).1).data.toList = bareL s.data.toList by rw [bs_data, ← bare_step _ h]; exact HT.out)
      have hle : (bs (stripL t.data.toList).1).size < t.size := by rw [bs_size]; exact hlt
      generalize bs (stripL t.data.toList).1 = u at *
      clear h HT hlt
      go_wp2_with fail
      refine (HX.out _).mono ?_
      rintro e w1 ⟨rfl, hb1⟩
      have HB1 := hid (bt HB.out hb1)
      clear hb1
      go_wp2_with fail
      go_roundw
      case rel => exact ⟨u, rfl, by omega, HT2, HB1⟩
      case measure => simp; omega
    · have h : (stripL t.data.toList).2 = false := by simpa using h
      have HE := hid (show bareL s.data.toList = t.data.toList by rw [← HT.out, bare_stop _ h])
      rw [h, strip_no _ h, bs_self] at HX
      clear h HT
      go_wp2_with fail
      refine (HX.out _).mono ?_
      rintro e w1 ⟨rfl, hb1⟩
      have HB1 := hid (bt HB.out hb1)
      clear hb1
      go_wp2_with fail
      go_ret
      exact ⟨by rw [HE.out, bs_self]; rfl, HB1.out⟩
end Go.Proofs.Ytdpclmogfnigdaa
