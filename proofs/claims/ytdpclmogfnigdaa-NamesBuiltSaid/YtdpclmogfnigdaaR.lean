/- The reference's Visible, Hidden, Parent, Root. No conditions but those of each theorem. -/
import Derived.Test.YtdpclmogfnigdaaQ
namespace Go.Proofs.Ytdpclmogfnigdaa
open Go.ChangeShapes Go.WideShapes Go.ChangeAt Go.RowKit
set_option linter.unusedVariables false
set_option linter.unusedSimpArgs false

theorem cut_two (l : List UInt8) : (cutL l).2 = (stripL l).2 := by
  unfold cutL
  split
  · rfl
  · simp_all
theorem cut_one {l : List UInt8} (h : (stripL l).2 = true) : cutL l = stripL l := by
  unfold cutL
  rw [if_pos h]
theorem hid_step (l : List UInt8) : hidL l = ((stripL l).2 && (decide (l.length ≤ 40) && (visL (stripL l).1 || hidL (stripL l).1))) := by
  cases hs : (stripL l).2 with
  | false =>
    unfold hidL
    rw [bare_stop l hs]
    simp
  | true =>
    have hlt := strip_lt l hs
    have hb := bare_step l hs
    generalize (stripL l).1 = x at *
    have hle := bare_le x
    have hne : (bareL l == l) = false := by
      rw [beq_eq_false_iff_ne]
      intro e
      rw [hb] at e
      have := congrArg List.length e
      omega
    unfold hidL
    rw [hne, hb]
    by_cases h40 : l.length ≤ 40
    · rw [decide_eq_true h40, decide_eq_true (show x.length ≤ 40 by omega)]
      simp
      by_cases hv : visL x = true
      · rw [vis_bare hv, hv]; simp
      · by_cases he : bareL x = x
        · rw [he]; simp [hv]
        · simp [hv, he]
    · rw [decide_eq_false h40]
      simp
theorem root_step {l : List UInt8} (h : hidL l = true) : (stripL l).2 = true ∧ rootL (stripL l).1 = rootL l := by
  have h2 := hid_step l
  rw [h] at h2
  have hs : (stripL l).2 = true := by
    cases hs : (stripL l).2 with
    | true => rfl
    | false => rw [hs] at h2; simp at h2
  rw [hs] at h2
  simp at h2
  refine ⟨hs, ?_⟩
  have hb := bare_step l hs
  unfold rootL
  rw [h, if_pos rfl, hb]
  by_cases hh : hidL (stripL l).1 = true
  · rw [if_pos hh]
  · rw [if_neg hh]
    have hv : visL (stripL l).1 = true := by simpa [hh] using h2.2
    exact (vis_bare hv).symm
set_option maxHeartbeats 4000000 in
theorem rvis_any (s : ByteArray) (hs : s.size ≤ 9223372036854775806) (w : World) :
    Calls Try.prog 31 #[.string s] w fun e w' => e = .returned (.bool (visL s.data.toList)) ∧ Below w.heap.size w w' := by
  have HC := hid (cut12_any s hs)
  have HN := hid (rname_any s hs)
  have HV := hid (show visL s.data.toList = (nameL s.data.toList && (decide (s.size ≤ 24) && !(cutL s.data.toList).2)) by unfold visL; rw [data_size, cut_two])
  generalize nameL s.data.toList = nb at *
  generalize bs (cutL s.data.toList).1 = t at *
  generalize (cutL s.data.toList).2 = sb at *
  generalize visL s.data.toList = vb at *
  cases nb with
  | false =>
    go_enter Try.func31, Try.ntmps31
    go_wp2_with fail
    refine (HC.out _).mono ?_
    rintro e w1 ⟨rfl, hb1⟩
    have HB1 := hid hb1
    clear hb1
    go_wp2_with fail
    refine (HN.out _).mono ?_
    rintro e w2 ⟨rfl, rfl⟩
    go_wp2_with fail
    go_ret
    exact ⟨by rw [HV.out]; rfl, HB1.out⟩
  | true =>
    by_cases h : s.size ≤ 24
    · have h1 : (s.size : Int) ≤ 24 := by omega
      rw [decide_eq_true h] at HV
      cases sb
      all_goals
        go_enter Try.func31, Try.ntmps31
        go_wp2_with fail
        refine (HC.out _).mono ?_
        rintro e w1 ⟨rfl, hb1⟩
        have HB1 := hid hb1
        clear hb1
        go_wp2_with fail
        refine (HN.out _).mono ?_
        rintro e w2 ⟨rfl, rfl⟩
        go_wp2_with fail
        go_ret
        exact ⟨by rw [HV.out]; rfl, HB1.out⟩
    · have h1 : ¬ (s.size : Int) ≤ 24 := by omega
      rw [decide_eq_false h] at HV
      go_enter Try.func31, Try.ntmps31
      go_wp2_with fail
      refine (HC.out _).mono ?_
      rintro e w1 ⟨rfl, hb1⟩
      have HB1 := hid hb1
      clear hb1
      go_wp2_with fail
      refine (HN.out _).mono ?_
      rintro e w2 ⟨rfl, rfl⟩
      go_wp2_with fail
      go_ret
      exact ⟨by rw [HV.out]; rfl, HB1.out⟩
set_option maxHeartbeats 4000000 in
theorem rhid_all (n : Nat) : ∀ (s : ByteArray) (hn : s.size ≤ n) (hs : s.size ≤ 9223372036854775806) (w : World),
    Calls Try.prog 32 #[.string s] w fun e w' => e = .returned (.bool (hidL s.data.toList)) ∧ Below w.heap.size w w' := by
  induction n using Nat.strongRecOn with
  | ind n ih =>
    intro s hn hs w
    have HC := hid (cut12_any s hs)
    have hE := hid_step s.data.toList
    rw [data_size] at hE
    cases hb : (stripL s.data.toList).2 with
    | false =>
      rw [hb, Bool.false_and] at hE
      have HE := hid hE
      have h2 : (cutL s.data.toList).2 = false := by rw [cut_two, hb]
      rw [h2] at HC
      generalize bs (cutL s.data.toList).1 = t at *
      clear hE h2 hb ih
      go_enter Try.func32, Try.ntmps32
      go_wp2_with fail
      refine (HC.out _).mono ?_
      rintro e w1 ⟨rfl, hb1⟩
      have HB1 := hid hb1
      clear hb1
      go_wp2_with fail
      go_ret
      exact ⟨by rw [HE.out]; rfl, HB1.out⟩
    | true =>
      rw [hb, Bool.true_and] at hE
      rw [cut_one hb, hb] at HC
      have hlt := strip_lt _ hb
      rw [data_size] at hlt
      obtain ⟨t, ht⟩ : ∃ t, t = bs (stripL s.data.toList).1 := ⟨_, rfl⟩
      have hts : t.size < s.size := by rw [ht, bs_size]; exact hlt
      have htd : (stripL s.data.toList).1 = t.data.toList := by rw [ht, bs_data]
      rw [htd] at hE
      rw [← ht] at HC
      have HV := hid (rvis_any t (by omega))
      have HH := hid (ih t.size (by omega) t (Nat.le_refl _) (by omega))
      generalize visL t.data.toList = vb at *
      generalize hidL t.data.toList = hb2 at *
      generalize hidL s.data.toList = res at *
      clear hb ih hlt ht htd
      by_cases h40 : s.size ≤ 40
      · have h1 : (s.size : Int) ≤ 40 := by omega
        rw [decide_eq_true h40, Bool.true_and] at hE
        have HE := hid hE
        clear hE
        cases vb with
        | true =>
          go_enter Try.func32, Try.ntmps32
          go_wp2_with fail
          refine (HC.out _).mono ?_
          rintro e w1 ⟨rfl, hb1⟩
          have HB1 := hid hb1
          clear hb1
          go_wp2_with fail
          refine (HV.out _).mono ?_
          rintro e w2 ⟨rfl, hb2'⟩
          have HB2 := hid (bt HB1.out hb2')
          clear hb2'
          go_wp2_with fail
          go_ret
          exact ⟨by rw [HE.out]; rfl, HB2.out⟩
        | false =>
          go_enter Try.func32, Try.ntmps32
          go_wp2_with fail
          refine (HC.out _).mono ?_
          rintro e w1 ⟨rfl, hb1⟩
          have HB1 := hid hb1
          clear hb1
          go_wp2_with fail
          refine (HV.out _).mono ?_
          rintro e w2 ⟨rfl, hb2'⟩
          have HB2 := hid (bt HB1.out hb2')
          clear hb2'
          go_wp2_with fail
          refine (HH.out _).mono ?_
          rintro e w3 ⟨rfl, hb3⟩
          have HB3 := hid (bt HB2.out hb3)
          clear hb3
          go_wp2_with fail
          go_ret
          exact ⟨by rw [HE.out]; rfl, HB3.out⟩
      · have h1 : ¬ (s.size : Int) ≤ 40 := by omega
        rw [decide_eq_false h40, Bool.false_and] at hE
        have HE := hid hE
        clear hE
        go_enter Try.func32, Try.ntmps32
        go_wp2_with fail
        refine (HC.out _).mono ?_
        rintro e w1 ⟨rfl, hb1⟩
        have HB1 := hid hb1
        clear hb1
        go_wp2_with fail
        go_ret
        exact ⟨by rw [HE.out]; rfl, HB1.out⟩
theorem rhid_any (s : ByteArray) (hs : s.size ≤ 9223372036854775806) (w : World) :
    Calls Try.prog 32 #[.string s] w fun e w' => e = .returned (.bool (hidL s.data.toList)) ∧ Below w.heap.size w w' := rhid_all s.size s (Nat.le_refl _) hs w
set_option maxHeartbeats 4000000 in
theorem rpar_any (s : ByteArray) (hs : s.size ≤ 9223372036854775806) (w : World) :
    Calls Try.prog 28 #[.string s] w fun e w' => e = .returned (.tuple #[.string (bs (parL s.data.toList).1), .bool (parL s.data.toList).2]) ∧ Below w.heap.size w w' := by
  have HH := hid (rhid_any s hs)
  have HS := hid (cut12_any s hs)
  have HE := hid (show parL s.data.toList = if hidL s.data.toList then cutL s.data.toList else ([], false) by
    unfold parL
    split
    · rw [cut_one (root_step ‹_›).1]
    · rfl)
  generalize hidL s.data.toList = hb at *
  generalize cutL s.data.toList = st at *
  generalize parL s.data.toList = x at *
  cases hb with
  | true =>
    rw [if_pos rfl] at HE
    go_enter Try.func28, Try.ntmps28
    go_wp2_with fail
    refine (HH.out _).mono ?_
    rintro e w1 ⟨rfl, hb1⟩
    have HB1 := hid hb1
    clear hb1
    go_wp2_with fail
    refine (HS.out _).mono ?_
    rintro e w2 ⟨rfl, hb2⟩
    have HB2 := hid (bt HB1.out hb2)
    clear hb2
    go_wp2_with fail
    go_ret2
    exact ⟨by rw [HE.out]; rfl, HB2.out⟩
  | false =>
    rw [if_neg (by simp)] at HE
    go_enter Try.func28, Try.ntmps28
    go_wp2_with fail
    refine (HH.out _).mono ?_
    rintro e w1 ⟨rfl, hb1⟩
    have HB1 := hid hb1
    clear hb1
    go_wp2_with fail
    go_ret2
    exact ⟨by rw [HE.out]; rfl, HB1.out⟩
set_option maxHeartbeats 4000000 in
theorem rroot_any (s : ByteArray) (hs : s.size ≤ 9223372036854775806) (w : World) :
    Calls Try.prog 35 #[.string s] w fun e w' => e = .returned (.string (bs (rootL s.data.toList))) ∧ Below w.heap.size w w' := by
  go_enter Try.func35, Try.ntmps35
  go_wp2_with fail
  go_loopw [0] (fun v wr => ∃ t : ByteArray, v = .string t ∧ t.size ≤ 9223372036854775806 ∧ Hid (rootL t.data.toList = rootL s.data.toList) ∧ Hid (Below w.heap.size w wr)) (fun v _ => match v with | .string t => t.size | _ => 0)
  case atStart => exact ⟨s, rfl, hs, hid rfl, hid (Below.refl _ _)⟩
  case round =>
    obtain ⟨t, rfl, ht, HT, HB⟩ := hrel
    have HH := hid (rhid_any t ht)
    have HX := hid (cut12_any t ht)
    by_cases h : hidL t.data.toList = true
    · rw [h] at HH
      obtain ⟨h2, h3⟩ := root_step h
      have hlt := strip_lt _ h2
      rw [data_size] at hlt
      have HT2 := hid (show rootL (bs (stripL t.data.toList).1).data.toList = rootL s.data.toList by rw [bs_data, h3]; exact HT.out)
      have hle : (bs (stripL t.data.toList).1).size < t.size := by rw [bs_size]; exact hlt
      rw [cut_one h2] at HX
      generalize bs (stripL t.data.toList).1 = u at *
      clear h h2 h3 HT hlt
      go_wp2_with fail
      refine (HH.out _).mono ?_
      rintro e w1 ⟨rfl, hb1⟩
      have HB1 := hid (bt HB.out hb1)
      clear hb1
      go_wp2_with fail
      refine (HX.out _).mono ?_
      rintro e w2 ⟨rfl, hb2⟩
      have HB2 := hid (bt HB1.out hb2)
      clear hb2
      go_wp2_with fail
      go_roundw
      case rel => exact ⟨u, rfl, by omega, HT2, HB2⟩
      case measure => simp; omega
    · have h : hidL t.data.toList = false := by simpa using h
      have HE := hid (show rootL s.data.toList = t.data.toList by rw [← HT.out]; unfold rootL; rw [h, if_neg (by simp)])
      rw [h] at HH
      clear h HT
      go_wp2_with fail
      refine (HH.out _).mono ?_
      rintro e w1 ⟨rfl, hb1⟩
      have HB1 := hid (bt HB.out hb1)
      clear hb1
      go_wp2_with fail
      go_ret
      exact ⟨by rw [HE.out, bs_self]; rfl, HB1.out⟩
end Go.Proofs.Ytdpclmogfnigdaa
