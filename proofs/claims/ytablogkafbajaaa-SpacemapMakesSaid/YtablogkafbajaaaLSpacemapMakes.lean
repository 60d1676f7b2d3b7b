/- For all ints n and all lists of numbers: SpacemapMakes returns true. No condition. -/
import Derived.Test.YtablogkafbajaaaRows
import Derived.WalkKit
import Derived.ProofKit
import Derived.OpenShut
import Derived.ShutString
import Derived.ChangeOld
import Derived.Below
import Derived.Carry
import Derived.Test.YtablogkafbajaaaC
import Derived.Test.YtablogkafbajaaaD
import Derived.Test.YtablogkafbajaaaE
import Derived.Test.YtablogkafbajaaaF
import Derived.Test.YtablogkafbajaaaG
import Derived.Test.YtablogkafbajaaaH
import Derived.Test.YtablogkafbajaaaI
import Derived.Test.YtablogkafbajaaaJ
import Derived.Test.YtablogkafbajaaaKk
import Derived.Test.YtablogkafbajaaaN
import Derived.Test.YtablogkafbajaaaO
import Derived.Test.YtablogkafbajaaaS
namespace Go.Proofs.Ytablogkafbajaaa.spacemapMakes
open Go.ChangeShapes Go.WideShapes Go.ChangeAt Go.RowKit
open Go.ChangeMaps (open_string shut_string)
set_option linter.unusedVariables false

theorem own : ownKnob Try.prog.godebug = none := by kernel_rfl
theorem laidOut : laidOutB Try.prog = true := by kernel_rfl

set_option linter.unusedSimpArgs false
set_option maxRecDepth 100000 in
set_option maxHeartbeats 8000000 in
theorem walk (n : Int) (a1 : Option Addr) (len1 cap1 : Nat) (z1 : List Int) (w : World) (w0 : (Lit.int .i64 n).wf = true) (w1 : IsRow .i64 w a1 len1 cap1 z1) :
    Calls Try.prog 3 #[.int .i64 n, .slice a1 len1 cap1] w fun e w' => e = .returned (.bool true) ∧ Below w.heap.size w w' := by
  have HA := hid awake_any
  have HR := hid w1
  have hlc : len1 ≤ cap1 ∧ cap1 ≤ 9223372036854775807 := by
    have := (nums_of w1).2
    unfold maxLen at this
    omega
  obtain ⟨hlc1, hlc2⟩ := hlc
  clear w0 w1
  have hn : (n < 1 ∨ 16384 < n) ∨ (1 ≤ n ∧ n ≤ 40) ∨ (40 < n ∧ n ≤ 16384) := by omega
  rcases hn with hn | ⟨hn1, hn2⟩ | ⟨hn1, hn2⟩
  · have hcase : n < 1 ∨ 16384 < n := hn
    have H8 := hid (new_bad n w hn)
    have H9 := hid (rnew_bad n w hn)
    obtain ⟨V, hV⟩ : ∃ V, V = w := ⟨_, rfl⟩
    have HBV := hid (show Below w.heap.size w V by rw [hV]; exact Below.refl _ _)
    rcases hcase with h | h
    · go_enter Try.func3, Try.ntmps3
      go_wp2_with fail
      refine H8.out.mono ?_
      rintro e w1 ⟨rfl, rfl⟩
      go_wp2_with fail
      refine H9.out.mono ?_
      rintro e w1 ⟨rfl, rfl⟩
      subst hV
      have hl1 : len1 = 0 ∨ (1 ≤ len1 ∧ len1 ≤ 40) ∨ 40 < len1 := by omega
      rcases hl1 with hl | hl | hl
      · subst hl
        have L1 := hid (load_len a1 0 cap1 V (by omega))
        have L2 := hid (rload_len a1 0 cap1 V (by omega))
        have HBQ := HBV
        go_wp2_with fail
        refine L1.out.mono ?_
        rintro e u1 ⟨rfl, rfl⟩
        go_wp2_with fail
        refine L2.out.mono ?_
        rintro e u1 ⟨rfl, rfl⟩
        go_wp2_with fail
        refine (HA.out _).mono ?_
        rintro e u9 ⟨rfl, hb9⟩
        have HB9 := hid (bt HBQ.out hb9)
        clear hb9
        go_wp2_with fail
        go_ret
        exact ⟨rfl, HB9.out⟩
      · obtain ⟨X, hX, hArg⟩ := arg_of HR.out len1 hl.1 (Nat.le_refl _)
        have hx1 : ¬ (40 : Int) < (len1 : Int) := by omega
        have AV := hid (hArg.below HBV.out)
        have AV2 := hid (show Arg V.heap.size V a1 X from by obtain ⟨b0, o0, e0, l0, c0⟩ := AV.out; exact ⟨b0, o0, e0, Nat.lt_of_lt_of_le l0 HBV.out.size, c0⟩)
        have L1 := hid (load_ok a1 cap1 X V (by omega) (by omega) AV2.out)
        rw [hX] at L1
        clear hArg
        by_cases ho : okc X
        · go_wp2_with fail
          refine L1.out.mono ?_
          rintro e u1 ⟨h1, h2, hb1⟩
          obtain ⟨M, a, ca, b, cb, rfl, hids, S1⟩ := h1 ho
          have HU1 := hid (bt HBV.out hb1)
          have AU := hid (AV2.out.below hb1)
          have AU2 := hid (show Arg u1.heap.size u1 a1 X from by obtain ⟨b0, o0, e0, l0, c0⟩ := AU.out; exact ⟨b0, o0, e0, Nat.lt_of_lt_of_le l0 hb1.size, c0⟩)
          have L2 := hid (rload_ok a1 cap1 X u1 (by omega) (by omega) AU2.out)
          rw [hX] at L2
          clear h1 h2 hb1 hids
          go_wp2_with fail
          refine L2.out.mono ?_
          rintro e u2 ⟨h1, h2, hb2⟩
          obtain ⟨R, c, cc, d, cd, rfl, hids, S2⟩ := h1 ho
          have HU2 := hid (bt HU1.out hb2)
          have S1' := hid (S1.out.below hb2)
          clear h1 h2 hb2 hids ho
          go_wp2_with fail
          refine (same_ok S1'.out S2.out).mono ?_
          rintro e u3 ⟨rfl, hb3⟩
          have HBQ := hid (bt HU2.out hb3)
          clear hb3
          go_wp2_with fail
          refine (HA.out _).mono ?_
          rintro e u9 ⟨rfl, hb9⟩
          have HB9 := hid (bt HBQ.out hb9)
          clear hb9
          go_wp2_with fail
          go_ret
          exact ⟨rfl, HB9.out⟩
        · go_wp2_with fail
          refine L1.out.mono ?_
          rintro e u1 ⟨h1, h2, hb1⟩
          obtain rfl := h2 ho
          have HU1 := hid (bt HBV.out hb1)
          have AU := hid (AV2.out.below hb1)
          have AU2 := hid (show Arg u1.heap.size u1 a1 X from by obtain ⟨b0, o0, e0, l0, c0⟩ := AU.out; exact ⟨b0, o0, e0, Nat.lt_of_lt_of_le l0 hb1.size, c0⟩)
          have L2 := hid (rload_ok a1 cap1 X u1 (by omega) (by omega) AU2.out)
          rw [hX] at L2
          clear h1 h2 hb1
          go_wp2_with fail
          refine L2.out.mono ?_
          rintro e u2 ⟨h1, h2, hb2⟩
          obtain rfl := h2 ho
          have HBQ := hid (bt HU1.out hb2)
          clear h1 h2 hb2
          go_wp2_with fail
          refine (HA.out _).mono ?_
          rintro e u9 ⟨rfl, hb9⟩
          have HB9 := hid (bt HBQ.out hb9)
          clear hb9
          go_wp2_with fail
          go_ret
          exact ⟨rfl, HB9.out⟩
      · obtain ⟨X, hX, hArg⟩ := arg_of HR.out 40 (by omega) (by omega)
        have hx1 : (40 : Int) < (len1 : Int) := by omega
        have AV := hid (hArg.below HBV.out)
        have AV2 := hid (show Arg V.heap.size V a1 X from by obtain ⟨b0, o0, e0, l0, c0⟩ := AV.out; exact ⟨b0, o0, e0, Nat.lt_of_lt_of_le l0 HBV.out.size, c0⟩)
        have L1 := hid (load_ok a1 cap1 X V (by omega) (by omega) AV2.out)
        rw [hX] at L1
        clear hArg
        by_cases ho : okc X
        · go_wp2_with fail
          refine L1.out.mono ?_
          rintro e u1 ⟨h1, h2, hb1⟩
          obtain ⟨M, a, ca, b, cb, rfl, hids, S1⟩ := h1 ho
          have HU1 := hid (bt HBV.out hb1)
          have AU := hid (AV2.out.below hb1)
          have AU2 := hid (show Arg u1.heap.size u1 a1 X from by obtain ⟨b0, o0, e0, l0, c0⟩ := AU.out; exact ⟨b0, o0, e0, Nat.lt_of_lt_of_le l0 hb1.size, c0⟩)
          have L2 := hid (rload_ok a1 cap1 X u1 (by omega) (by omega) AU2.out)
          rw [hX] at L2
          clear h1 h2 hb1 hids
          go_wp2_with fail
          refine L2.out.mono ?_
          rintro e u2 ⟨h1, h2, hb2⟩
          obtain ⟨R, c, cc, d, cd, rfl, hids, S2⟩ := h1 ho
          have HU2 := hid (bt HU1.out hb2)
          have S1' := hid (S1.out.below hb2)
          clear h1 h2 hb2 hids ho
          go_wp2_with fail
          refine (same_ok S1'.out S2.out).mono ?_
          rintro e u3 ⟨rfl, hb3⟩
          have HBQ := hid (bt HU2.out hb3)
          clear hb3
          go_wp2_with fail
          refine (HA.out _).mono ?_
          rintro e u9 ⟨rfl, hb9⟩
          have HB9 := hid (bt HBQ.out hb9)
          clear hb9
          go_wp2_with fail
          go_ret
          exact ⟨rfl, HB9.out⟩
        · go_wp2_with fail
          refine L1.out.mono ?_
          rintro e u1 ⟨h1, h2, hb1⟩
          obtain rfl := h2 ho
          have HU1 := hid (bt HBV.out hb1)
          have AU := hid (AV2.out.below hb1)
          have AU2 := hid (show Arg u1.heap.size u1 a1 X from by obtain ⟨b0, o0, e0, l0, c0⟩ := AU.out; exact ⟨b0, o0, e0, Nat.lt_of_lt_of_le l0 hb1.size, c0⟩)
          have L2 := hid (rload_ok a1 cap1 X u1 (by omega) (by omega) AU2.out)
          rw [hX] at L2
          clear h1 h2 hb1
          go_wp2_with fail
          refine L2.out.mono ?_
          rintro e u2 ⟨h1, h2, hb2⟩
          obtain rfl := h2 ho
          have HBQ := hid (bt HU1.out hb2)
          clear h1 h2 hb2
          go_wp2_with fail
          refine (HA.out _).mono ?_
          rintro e u9 ⟨rfl, hb9⟩
          have HB9 := hid (bt HBQ.out hb9)
          clear hb9
          go_wp2_with fail
          go_ret
          exact ⟨rfl, HB9.out⟩
    · have h' : 40 < n := by omega
      have h'' : ¬ n ≤ 16384 := by omega
      go_enter Try.func3, Try.ntmps3
      go_wp2_with fail
      refine H8.out.mono ?_
      rintro e w1 ⟨rfl, rfl⟩
      go_wp2_with fail
      refine H9.out.mono ?_
      rintro e w1 ⟨rfl, rfl⟩
      subst hV
      have hl1 : len1 = 0 ∨ (1 ≤ len1 ∧ len1 ≤ 40) ∨ 40 < len1 := by omega
      rcases hl1 with hl | hl | hl
      · subst hl
        have L1 := hid (load_len a1 0 cap1 V (by omega))
        have L2 := hid (rload_len a1 0 cap1 V (by omega))
        have HBQ := HBV
        go_wp2_with fail
        refine L1.out.mono ?_
        rintro e u1 ⟨rfl, rfl⟩
        go_wp2_with fail
        refine L2.out.mono ?_
        rintro e u1 ⟨rfl, rfl⟩
        go_wp2_with fail
        refine (HA.out _).mono ?_
        rintro e u9 ⟨rfl, hb9⟩
        have HB9 := hid (bt HBQ.out hb9)
        clear hb9
        go_wp2_with fail
        go_ret
        exact ⟨rfl, HB9.out⟩
      · obtain ⟨X, hX, hArg⟩ := arg_of HR.out len1 hl.1 (Nat.le_refl _)
        have hx1 : ¬ (40 : Int) < (len1 : Int) := by omega
        have AV := hid (hArg.below HBV.out)
        have AV2 := hid (show Arg V.heap.size V a1 X from by obtain ⟨b0, o0, e0, l0, c0⟩ := AV.out; exact ⟨b0, o0, e0, Nat.lt_of_lt_of_le l0 HBV.out.size, c0⟩)
        have L1 := hid (load_ok a1 cap1 X V (by omega) (by omega) AV2.out)
        rw [hX] at L1
        clear hArg
        by_cases ho : okc X
        · go_wp2_with fail
          refine L1.out.mono ?_
          rintro e u1 ⟨h1, h2, hb1⟩
          obtain ⟨M, a, ca, b, cb, rfl, hids, S1⟩ := h1 ho
          have HU1 := hid (bt HBV.out hb1)
          have AU := hid (AV2.out.below hb1)
          have AU2 := hid (show Arg u1.heap.size u1 a1 X from by obtain ⟨b0, o0, e0, l0, c0⟩ := AU.out; exact ⟨b0, o0, e0, Nat.lt_of_lt_of_le l0 hb1.size, c0⟩)
          have L2 := hid (rload_ok a1 cap1 X u1 (by omega) (by omega) AU2.out)
          rw [hX] at L2
          clear h1 h2 hb1 hids
          go_wp2_with fail
          refine L2.out.mono ?_
          rintro e u2 ⟨h1, h2, hb2⟩
          obtain ⟨R, c, cc, d, cd, rfl, hids, S2⟩ := h1 ho
          have HU2 := hid (bt HU1.out hb2)
          have S1' := hid (S1.out.below hb2)
          clear h1 h2 hb2 hids ho
          go_wp2_with fail
          refine (same_ok S1'.out S2.out).mono ?_
          rintro e u3 ⟨rfl, hb3⟩
          have HBQ := hid (bt HU2.out hb3)
          clear hb3
          go_wp2_with fail
          refine (HA.out _).mono ?_
          rintro e u9 ⟨rfl, hb9⟩
          have HB9 := hid (bt HBQ.out hb9)
          clear hb9
          go_wp2_with fail
          go_ret
          exact ⟨rfl, HB9.out⟩
        · go_wp2_with fail
          refine L1.out.mono ?_
          rintro e u1 ⟨h1, h2, hb1⟩
          obtain rfl := h2 ho
          have HU1 := hid (bt HBV.out hb1)
          have AU := hid (AV2.out.below hb1)
          have AU2 := hid (show Arg u1.heap.size u1 a1 X from by obtain ⟨b0, o0, e0, l0, c0⟩ := AU.out; exact ⟨b0, o0, e0, Nat.lt_of_lt_of_le l0 hb1.size, c0⟩)
          have L2 := hid (rload_ok a1 cap1 X u1 (by omega) (by omega) AU2.out)
          rw [hX] at L2
          clear h1 h2 hb1
          go_wp2_with fail
          refine L2.out.mono ?_
          rintro e u2 ⟨h1, h2, hb2⟩
          obtain rfl := h2 ho
          have HBQ := hid (bt HU1.out hb2)
          clear h1 h2 hb2
          go_wp2_with fail
          refine (HA.out _).mono ?_
          rintro e u9 ⟨rfl, hb9⟩
          have HB9 := hid (bt HBQ.out hb9)
          clear hb9
          go_wp2_with fail
          go_ret
          exact ⟨rfl, HB9.out⟩
      · obtain ⟨X, hX, hArg⟩ := arg_of HR.out 40 (by omega) (by omega)
        have hx1 : (40 : Int) < (len1 : Int) := by omega
        have AV := hid (hArg.below HBV.out)
        have AV2 := hid (show Arg V.heap.size V a1 X from by obtain ⟨b0, o0, e0, l0, c0⟩ := AV.out; exact ⟨b0, o0, e0, Nat.lt_of_lt_of_le l0 HBV.out.size, c0⟩)
        have L1 := hid (load_ok a1 cap1 X V (by omega) (by omega) AV2.out)
        rw [hX] at L1
        clear hArg
        by_cases ho : okc X
        · go_wp2_with fail
          refine L1.out.mono ?_
          rintro e u1 ⟨h1, h2, hb1⟩
          obtain ⟨M, a, ca, b, cb, rfl, hids, S1⟩ := h1 ho
          have HU1 := hid (bt HBV.out hb1)
          have AU := hid (AV2.out.below hb1)
          have AU2 := hid (show Arg u1.heap.size u1 a1 X from by obtain ⟨b0, o0, e0, l0, c0⟩ := AU.out; exact ⟨b0, o0, e0, Nat.lt_of_lt_of_le l0 hb1.size, c0⟩)
          have L2 := hid (rload_ok a1 cap1 X u1 (by omega) (by omega) AU2.out)
          rw [hX] at L2
          clear h1 h2 hb1 hids
          go_wp2_with fail
          refine L2.out.mono ?_
          rintro e u2 ⟨h1, h2, hb2⟩
          obtain ⟨R, c, cc, d, cd, rfl, hids, S2⟩ := h1 ho
          have HU2 := hid (bt HU1.out hb2)
          have S1' := hid (S1.out.below hb2)
          clear h1 h2 hb2 hids ho
          go_wp2_with fail
          refine (same_ok S1'.out S2.out).mono ?_
          rintro e u3 ⟨rfl, hb3⟩
          have HBQ := hid (bt HU2.out hb3)
          clear hb3
          go_wp2_with fail
          refine (HA.out _).mono ?_
          rintro e u9 ⟨rfl, hb9⟩
          have HB9 := hid (bt HBQ.out hb9)
          clear hb9
          go_wp2_with fail
          go_ret
          exact ⟨rfl, HB9.out⟩
        · go_wp2_with fail
          refine L1.out.mono ?_
          rintro e u1 ⟨h1, h2, hb1⟩
          obtain rfl := h2 ho
          have HU1 := hid (bt HBV.out hb1)
          have AU := hid (AV2.out.below hb1)
          have AU2 := hid (show Arg u1.heap.size u1 a1 X from by obtain ⟨b0, o0, e0, l0, c0⟩ := AU.out; exact ⟨b0, o0, e0, Nat.lt_of_lt_of_le l0 hb1.size, c0⟩)
          have L2 := hid (rload_ok a1 cap1 X u1 (by omega) (by omega) AU2.out)
          rw [hX] at L2
          clear h1 h2 hb1
          go_wp2_with fail
          refine L2.out.mono ?_
          rintro e u2 ⟨h1, h2, hb2⟩
          obtain rfl := h2 ho
          have HBQ := hid (bt HU1.out hb2)
          clear h1 h2 hb2
          go_wp2_with fail
          refine (HA.out _).mono ?_
          rintro e u9 ⟨rfl, hb9⟩
          have HB9 := hid (bt HBQ.out hb9)
          clear hb9
          go_wp2_with fail
          go_ret
          exact ⟨rfl, HB9.out⟩
  · obtain ⟨m, rfl⟩ : ∃ m : Nat, n = m := ⟨n.toNat, by omega⟩
    go_enter Try.func3, Try.ntmps3
    go_wp2_with fail
    refine (new_good m w (by omega) (by omega)).mono ?_
    rintro e w1 ⟨M, a, ca, b, cb, rfl, ⟨hM, ha, hb⟩, H1⟩
    have HB1 := hid H1.out.2
    have S1 := hid H1.out.1
    clear H1
    go_wp2_with fail
    refine (rnew_good m w1 (by omega) (by omega)).mono ?_
    rintro e w2 ⟨R, c, cc, d, cd, rfl, ⟨hR, hc', hd⟩, H2⟩
    have HB2 := hid (bt HB1.out H2.out.2)
    have S2 := hid (S1.out.below H2.out.2)
    have T2 := hid H2.out.1
    clear H2 S1
    go_wp2_with fail
    refine (same_ok S2.out T2.out).mono ?_
    rintro e V ⟨rfl, hb3⟩
    have HBV := hid (bt HB2.out hb3)
    clear hb3 S2 T2
    have hl1 : len1 = 0 ∨ (1 ≤ len1 ∧ len1 ≤ 40) ∨ 40 < len1 := by omega
    rcases hl1 with hl | hl | hl
    · subst hl
      have L1 := hid (load_len a1 0 cap1 V (by omega))
      have L2 := hid (rload_len a1 0 cap1 V (by omega))
      have HBQ := HBV
      go_wp2_with fail
      refine L1.out.mono ?_
      rintro e u1 ⟨rfl, rfl⟩
      go_wp2_with fail
      refine L2.out.mono ?_
      rintro e u1 ⟨rfl, rfl⟩
      go_wp2_with fail
      refine (HA.out _).mono ?_
      rintro e u9 ⟨rfl, hb9⟩
      have HB9 := hid (bt HBQ.out hb9)
      clear hb9
      go_wp2_with fail
      go_ret
      exact ⟨rfl, HB9.out⟩
    · obtain ⟨X, hX, hArg⟩ := arg_of HR.out len1 hl.1 (Nat.le_refl _)
      have hx1 : ¬ (40 : Int) < (len1 : Int) := by omega
      have AV := hid (hArg.below HBV.out)
      have AV2 := hid (show Arg V.heap.size V a1 X from by obtain ⟨b0, o0, e0, l0, c0⟩ := AV.out; exact ⟨b0, o0, e0, Nat.lt_of_lt_of_le l0 HBV.out.size, c0⟩)
      have L1 := hid (load_ok a1 cap1 X V (by omega) (by omega) AV2.out)
      rw [hX] at L1
      clear hArg
      by_cases ho : okc X
      · go_wp2_with fail
        refine L1.out.mono ?_
        rintro e u1 ⟨h1, h2, hb1⟩
        obtain ⟨M, a, ca, b, cb, rfl, hids, S1⟩ := h1 ho
        have HU1 := hid (bt HBV.out hb1)
        have AU := hid (AV2.out.below hb1)
        have AU2 := hid (show Arg u1.heap.size u1 a1 X from by obtain ⟨b0, o0, e0, l0, c0⟩ := AU.out; exact ⟨b0, o0, e0, Nat.lt_of_lt_of_le l0 hb1.size, c0⟩)
        have L2 := hid (rload_ok a1 cap1 X u1 (by omega) (by omega) AU2.out)
        rw [hX] at L2
        clear h1 h2 hb1 hids
        go_wp2_with fail
        refine L2.out.mono ?_
        rintro e u2 ⟨h1, h2, hb2⟩
        obtain ⟨R, c, cc, d, cd, rfl, hids, S2⟩ := h1 ho
        have HU2 := hid (bt HU1.out hb2)
        have S1' := hid (S1.out.below hb2)
        clear h1 h2 hb2 hids ho
        go_wp2_with fail
        refine (same_ok S1'.out S2.out).mono ?_
        rintro e u3 ⟨rfl, hb3⟩
        have HBQ := hid (bt HU2.out hb3)
        clear hb3
        go_wp2_with fail
        refine (HA.out _).mono ?_
        rintro e u9 ⟨rfl, hb9⟩
        have HB9 := hid (bt HBQ.out hb9)
        clear hb9
        go_wp2_with fail
        go_ret
        exact ⟨rfl, HB9.out⟩
      · go_wp2_with fail
        refine L1.out.mono ?_
        rintro e u1 ⟨h1, h2, hb1⟩
        obtain rfl := h2 ho
        have HU1 := hid (bt HBV.out hb1)
        have AU := hid (AV2.out.below hb1)
        have AU2 := hid (show Arg u1.heap.size u1 a1 X from by obtain ⟨b0, o0, e0, l0, c0⟩ := AU.out; exact ⟨b0, o0, e0, Nat.lt_of_lt_of_le l0 hb1.size, c0⟩)
        have L2 := hid (rload_ok a1 cap1 X u1 (by omega) (by omega) AU2.out)
        rw [hX] at L2
        clear h1 h2 hb1
        go_wp2_with fail
        refine L2.out.mono ?_
        rintro e u2 ⟨h1, h2, hb2⟩
        obtain rfl := h2 ho
        have HBQ := hid (bt HU1.out hb2)
        clear h1 h2 hb2
        go_wp2_with fail
        refine (HA.out _).mono ?_
        rintro e u9 ⟨rfl, hb9⟩
        have HB9 := hid (bt HBQ.out hb9)
        clear hb9
        go_wp2_with fail
        go_ret
        exact ⟨rfl, HB9.out⟩
    · obtain ⟨X, hX, hArg⟩ := arg_of HR.out 40 (by omega) (by omega)
      have hx1 : (40 : Int) < (len1 : Int) := by omega
      have AV := hid (hArg.below HBV.out)
      have AV2 := hid (show Arg V.heap.size V a1 X from by obtain ⟨b0, o0, e0, l0, c0⟩ := AV.out; exact ⟨b0, o0, e0, Nat.lt_of_lt_of_le l0 HBV.out.size, c0⟩)
      have L1 := hid (load_ok a1 cap1 X V (by omega) (by omega) AV2.out)
      rw [hX] at L1
      clear hArg
      by_cases ho : okc X
      · go_wp2_with fail
        refine L1.out.mono ?_
        rintro e u1 ⟨h1, h2, hb1⟩
        obtain ⟨M, a, ca, b, cb, rfl, hids, S1⟩ := h1 ho
        have HU1 := hid (bt HBV.out hb1)
        have AU := hid (AV2.out.below hb1)
        have AU2 := hid (show Arg u1.heap.size u1 a1 X from by obtain ⟨b0, o0, e0, l0, c0⟩ := AU.out; exact ⟨b0, o0, e0, Nat.lt_of_lt_of_le l0 hb1.size, c0⟩)
        have L2 := hid (rload_ok a1 cap1 X u1 (by omega) (by omega) AU2.out)
        rw [hX] at L2
        clear h1 h2 hb1 hids
        go_wp2_with fail
        refine L2.out.mono ?_
        rintro e u2 ⟨h1, h2, hb2⟩
        obtain ⟨R, c, cc, d, cd, rfl, hids, S2⟩ := h1 ho
        have HU2 := hid (bt HU1.out hb2)
        have S1' := hid (S1.out.below hb2)
        clear h1 h2 hb2 hids ho
        go_wp2_with fail
        refine (same_ok S1'.out S2.out).mono ?_
        rintro e u3 ⟨rfl, hb3⟩
        have HBQ := hid (bt HU2.out hb3)
        clear hb3
        go_wp2_with fail
        refine (HA.out _).mono ?_
        rintro e u9 ⟨rfl, hb9⟩
        have HB9 := hid (bt HBQ.out hb9)
        clear hb9
        go_wp2_with fail
        go_ret
        exact ⟨rfl, HB9.out⟩
      · go_wp2_with fail
        refine L1.out.mono ?_
        rintro e u1 ⟨h1, h2, hb1⟩
        obtain rfl := h2 ho
        have HU1 := hid (bt HBV.out hb1)
        have AU := hid (AV2.out.below hb1)
        have AU2 := hid (show Arg u1.heap.size u1 a1 X from by obtain ⟨b0, o0, e0, l0, c0⟩ := AU.out; exact ⟨b0, o0, e0, Nat.lt_of_lt_of_le l0 hb1.size, c0⟩)
        have L2 := hid (rload_ok a1 cap1 X u1 (by omega) (by omega) AU2.out)
        rw [hX] at L2
        clear h1 h2 hb1
        go_wp2_with fail
        refine L2.out.mono ?_
        rintro e u2 ⟨h1, h2, hb2⟩
        obtain rfl := h2 ho
        have HBQ := hid (bt HU1.out hb2)
        clear h1 h2 hb2
        go_wp2_with fail
        refine (HA.out _).mono ?_
        rintro e u9 ⟨rfl, hb9⟩
        have HB9 := hid (bt HBQ.out hb9)
        clear hb9
        go_wp2_with fail
        go_ret
        exact ⟨rfl, HB9.out⟩
  · have ht : n.tmod 40 = n % 40 := Int.tmod_eq_emod_of_nonneg (by omega)
    obtain ⟨m, hm⟩ : ∃ m : Nat, m = (1 + n % 40).toNat := ⟨_, rfl⟩
    have hm1 : 1 ≤ m := by omega
    have hm2 : m ≤ 40 := by omega
    have hm3 : 1 + n % 40 = (m : Int) := by omega
    clear hm
    go_enter Try.func3, Try.ntmps3
    go_wp2_with fail
    refine (new_good m w (by omega) (by omega)).mono ?_
    rintro e w1 ⟨M, a, ca, b, cb, rfl, ⟨hM, ha, hb⟩, H1⟩
    have HB1 := hid H1.out.2
    have S1 := hid H1.out.1
    clear H1
    go_wp2_with fail
    refine (rnew_good m w1 (by omega) (by omega)).mono ?_
    rintro e w2 ⟨R, c, cc, d, cd, rfl, ⟨hR, hc', hd⟩, H2⟩
    have HB2 := hid (bt HB1.out H2.out.2)
    have S2 := hid (S1.out.below H2.out.2)
    have T2 := hid H2.out.1
    clear H2 S1
    go_wp2_with fail
    refine (same_ok S2.out T2.out).mono ?_
    rintro e V ⟨rfl, hb3⟩
    have HBV := hid (bt HB2.out hb3)
    clear hb3 S2 T2
    have hl1 : len1 = 0 ∨ (1 ≤ len1 ∧ len1 ≤ 40) ∨ 40 < len1 := by omega
    rcases hl1 with hl | hl | hl
    · subst hl
      have L1 := hid (load_len a1 0 cap1 V (by omega))
      have L2 := hid (rload_len a1 0 cap1 V (by omega))
      have HBQ := HBV
      go_wp2_with fail
      refine L1.out.mono ?_
      rintro e u1 ⟨rfl, rfl⟩
      go_wp2_with fail
      refine L2.out.mono ?_
      rintro e u1 ⟨rfl, rfl⟩
      go_wp2_with fail
      refine (HA.out _).mono ?_
      rintro e u9 ⟨rfl, hb9⟩
      have HB9 := hid (bt HBQ.out hb9)
      clear hb9
      go_wp2_with fail
      go_ret
      exact ⟨rfl, HB9.out⟩
    · obtain ⟨X, hX, hArg⟩ := arg_of HR.out len1 hl.1 (Nat.le_refl _)
      have hx1 : ¬ (40 : Int) < (len1 : Int) := by omega
      have AV := hid (hArg.below HBV.out)
      have AV2 := hid (show Arg V.heap.size V a1 X from by obtain ⟨b0, o0, e0, l0, c0⟩ := AV.out; exact ⟨b0, o0, e0, Nat.lt_of_lt_of_le l0 HBV.out.size, c0⟩)
      have L1 := hid (load_ok a1 cap1 X V (by omega) (by omega) AV2.out)
      rw [hX] at L1
      clear hArg
      by_cases ho : okc X
      · go_wp2_with fail
        refine L1.out.mono ?_
        rintro e u1 ⟨h1, h2, hb1⟩
        obtain ⟨M, a, ca, b, cb, rfl, hids, S1⟩ := h1 ho
        have HU1 := hid (bt HBV.out hb1)
        have AU := hid (AV2.out.below hb1)
        have AU2 := hid (show Arg u1.heap.size u1 a1 X from by obtain ⟨b0, o0, e0, l0, c0⟩ := AU.out; exact ⟨b0, o0, e0, Nat.lt_of_lt_of_le l0 hb1.size, c0⟩)
        have L2 := hid (rload_ok a1 cap1 X u1 (by omega) (by omega) AU2.out)
        rw [hX] at L2
        clear h1 h2 hb1 hids
        go_wp2_with fail
        refine L2.out.mono ?_
        rintro e u2 ⟨h1, h2, hb2⟩
        obtain ⟨R, c, cc, d, cd, rfl, hids, S2⟩ := h1 ho
        have HU2 := hid (bt HU1.out hb2)
        have S1' := hid (S1.out.below hb2)
        clear h1 h2 hb2 hids ho
        go_wp2_with fail
        refine (same_ok S1'.out S2.out).mono ?_
        rintro e u3 ⟨rfl, hb3⟩
        have HBQ := hid (bt HU2.out hb3)
        clear hb3
        go_wp2_with fail
        refine (HA.out _).mono ?_
        rintro e u9 ⟨rfl, hb9⟩
        have HB9 := hid (bt HBQ.out hb9)
        clear hb9
        go_wp2_with fail
        go_ret
        exact ⟨rfl, HB9.out⟩
      · go_wp2_with fail
        refine L1.out.mono ?_
        rintro e u1 ⟨h1, h2, hb1⟩
        obtain rfl := h2 ho
        have HU1 := hid (bt HBV.out hb1)
        have AU := hid (AV2.out.below hb1)
        have AU2 := hid (show Arg u1.heap.size u1 a1 X from by obtain ⟨b0, o0, e0, l0, c0⟩ := AU.out; exact ⟨b0, o0, e0, Nat.lt_of_lt_of_le l0 hb1.size, c0⟩)
        have L2 := hid (rload_ok a1 cap1 X u1 (by omega) (by omega) AU2.out)
        rw [hX] at L2
        clear h1 h2 hb1
        go_wp2_with fail
        refine L2.out.mono ?_
        rintro e u2 ⟨h1, h2, hb2⟩
        obtain rfl := h2 ho
        have HBQ := hid (bt HU1.out hb2)
        clear h1 h2 hb2
        go_wp2_with fail
        refine (HA.out _).mono ?_
        rintro e u9 ⟨rfl, hb9⟩
        have HB9 := hid (bt HBQ.out hb9)
        clear hb9
        go_wp2_with fail
        go_ret
        exact ⟨rfl, HB9.out⟩
    · obtain ⟨X, hX, hArg⟩ := arg_of HR.out 40 (by omega) (by omega)
      have hx1 : (40 : Int) < (len1 : Int) := by omega
      have AV := hid (hArg.below HBV.out)
      have AV2 := hid (show Arg V.heap.size V a1 X from by obtain ⟨b0, o0, e0, l0, c0⟩ := AV.out; exact ⟨b0, o0, e0, Nat.lt_of_lt_of_le l0 HBV.out.size, c0⟩)
      have L1 := hid (load_ok a1 cap1 X V (by omega) (by omega) AV2.out)
      rw [hX] at L1
      clear hArg
      by_cases ho : okc X
      · go_wp2_with fail
        refine L1.out.mono ?_
        rintro e u1 ⟨h1, h2, hb1⟩
        obtain ⟨M, a, ca, b, cb, rfl, hids, S1⟩ := h1 ho
        have HU1 := hid (bt HBV.out hb1)
        have AU := hid (AV2.out.below hb1)
        have AU2 := hid (show Arg u1.heap.size u1 a1 X from by obtain ⟨b0, o0, e0, l0, c0⟩ := AU.out; exact ⟨b0, o0, e0, Nat.lt_of_lt_of_le l0 hb1.size, c0⟩)
        have L2 := hid (rload_ok a1 cap1 X u1 (by omega) (by omega) AU2.out)
        rw [hX] at L2
        clear h1 h2 hb1 hids
        go_wp2_with fail
        refine L2.out.mono ?_
        rintro e u2 ⟨h1, h2, hb2⟩
        obtain ⟨R, c, cc, d, cd, rfl, hids, S2⟩ := h1 ho
        have HU2 := hid (bt HU1.out hb2)
        have S1' := hid (S1.out.below hb2)
        clear h1 h2 hb2 hids ho
        go_wp2_with fail
        refine (same_ok S1'.out S2.out).mono ?_
        rintro e u3 ⟨rfl, hb3⟩
        have HBQ := hid (bt HU2.out hb3)
        clear hb3
        go_wp2_with fail
        refine (HA.out _).mono ?_
        rintro e u9 ⟨rfl, hb9⟩
        have HB9 := hid (bt HBQ.out hb9)
        clear hb9
        go_wp2_with fail
        go_ret
        exact ⟨rfl, HB9.out⟩
      · go_wp2_with fail
        refine L1.out.mono ?_
        rintro e u1 ⟨h1, h2, hb1⟩
        obtain rfl := h2 ho
        have HU1 := hid (bt HBV.out hb1)
        have AU := hid (AV2.out.below hb1)
        have AU2 := hid (show Arg u1.heap.size u1 a1 X from by obtain ⟨b0, o0, e0, l0, c0⟩ := AU.out; exact ⟨b0, o0, e0, Nat.lt_of_lt_of_le l0 hb1.size, c0⟩)
        have L2 := hid (rload_ok a1 cap1 X u1 (by omega) (by omega) AU2.out)
        rw [hX] at L2
        clear h1 h2 hb1
        go_wp2_with fail
        refine L2.out.mono ?_
        rintro e u2 ⟨h1, h2, hb2⟩
        obtain rfl := h2 ho
        have HBQ := hid (bt HU1.out hb2)
        clear h1 h2 hb2
        go_wp2_with fail
        refine (HA.out _).mono ?_
        rintro e u9 ⟨rfl, hb9⟩
        have HB9 := hid (bt HBQ.out hb9)
        clear hb9
        go_wp2_with fail
        go_ret
        exact ⟨rfl, HB9.out⟩

set_option maxRecDepth 100000 in
theorem lifted (os : Os) (started : os.Started) (H : Type) (enc : TypeId × Value → H) :
    ReturnsInHanded {} Try.checked os 3 .any (Rows.spacemapMakesSpec.pre6 enc Try.prog Try.f3 Rows.spacemapMakesRow.domain false) (Rows.spacemapMakesSpec.post enc Try.prog Try.f3 false true false false) := by
  refine returnsInHanded_of_change (C := Try.checked) own started (by kernel_rfl) Try.func3
    (ChangeSpec.witness6 (enc := enc) (C := Try.checked) false ⟨#[], #[.int .i64 0, .slice none 0 0], []⟩ 8 (by kernel_rfl) (by kernel_rfl) (by kernel_rfl) (by kernel_rfl)) ?_
  intro W base args ds gs before hval0 hW hcnd _
  have hval : ∀ (j : Nat) t v, Try.f3.params[j]? = some t → args[j]? = some v → Value.okWide Try.prog W .any base t v := hval0
  have hW' := hW
  obtain ⟨p, q, hA0, hV, rfl, hfz, hnd⟩ := hW
  have hA : DataW.TrodAll enc Try.prog W 0 (fun _ => true) true Try.f3.params.toList args.toList ds p := hA0
  rw [Try.params3] at hA hval
  obtain ⟨v0, vs0, d0, ds0, p0, q0, hargs, rfl, rfl, h0, r0⟩ := trodAll_cons hA
  obtain ⟨v1, vs1, d1, ds1, p1, q1, rfl, rfl, rfl, h1, r1⟩ := trodAll_cons r0
  obtain ⟨rfl, rfl, rfl⟩ := trodAll_nil r1
  obtain rfl : args = #[v0, v1] := by cases args; simp_all
  obtain ⟨rfl, rfl⟩ := trodVars_none hV
  obtain ⟨a0, rfl, rfl, rfl, w0⟩ := open_int Try.underlying3 (hval 0 3 v0 rfl rfl) h0
  obtain ⟨a1, len1, cap1, rfl⟩ := okWide_slice Try.underlying22 (hval 1 22 v1 rfl rfl)
  have k1 := h1
  have lt1 : ∀ x ∈ p1, x.block < W.heap.size := by obtain ⟨m, hm⟩ := k1; exact DataW.trod_lt m _ _ _ hm
  obtain ⟨z1, w1⟩ : ∃ zs, IsRow .i64 W a1 len1 cap1 zs := by
    obtain ⟨fuel, hf⟩ := h1
    rcases open_ints Try.underlying22 Try.underlying3 (by kernel_rfl) hf with ⟨hcs, _⟩ | ⟨x, l, c, zs, hcs, _, hl, hm, hz, _, hcell, hwz⟩
    · simp [Value.cells] at hcs
      obtain ⟨rfl, rfl, rfl⟩ := hcs
      exact ⟨[], .inl ⟨rfl, rfl, rfl, rfl⟩⟩
    · simp [Value.cells] at hcs
      obtain ⟨rfl, rfl, rfl⟩ := hcs
      exact ⟨zs, .inr ⟨_, rfl, hl, hm, by simpa using hz, hcell, hwz⟩⟩
  clear hA0 hval0
  refine (walk a0 a1 len1 cap1 z1 W w0 w1).mono fun e W' ⟨he, bel⟩ => ?_
  subst he
  exact ⟨_, rfl, _, _, _, [], _, [], hW', trodAll_mk1 (shut_bool Try.underlying4 _), (trodAll_cons_mk (shut_int Try.underlying3 w0) (trodAll_cons_mk (Below.trod laidOut (by kernel_rfl) (of_decide_eq_true (by kernel_rfl)) k1 bel lt1) trodAll_mk0)), rfl, bel.frame _, fun h => by cases h⟩

theorem over : Rows.spacemapMakesRow.holds Try.pinned (OpenSpec.ofChange Rows.spacemapMakesSpec) :=
  OpenClaim.holds_of_wide 3 Try.f3 rfl rfl rfl rfl rfl rfl rfl ⟨rfl, rfl, rfl, rfl, rfl⟩ rfl rfl rfl rfl rfl (by kernel_rfl) Try.func3 (by kernel_rfl)
    (of_decide_eq_true (by kernel_rfl)) (by unfold Func.isWrapper; first | (rw [if_pos (by decide +kernel)]; kernel_rfl) | (rw [if_neg (by decide +kernel)]; exact ⟨rfl, rfl⟩))
    (fun os started H enc _ => lifted os started H enc)

theorem proved : Rows.SpacemapMakesSaid := over
#print axioms proved
end Go.Proofs.Ytablogkafbajaaa.spacemapMakes
