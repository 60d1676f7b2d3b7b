/- For all slices of arrays of three words: ChecksumLinear returns true and leaves its argument as it was. No condition. -/
import Derived.Test.YtdkpjfjmccgaoaaRows
import Derived.WalkKit
import Derived.ProofKit
import Derived.OpenShut
import Derived.ShutString
import Derived.ChangeOld
import Derived.Below
import Derived.Carry
import Derived.Test.YtdkpjfjmccgaoaaPS
import Derived.Test.YtdkpjfjmccgaoaaQ
import Derived.Test.YtdkpjfjmccgaoaaN
import Derived.Test.YtdkpjfjmccgaoaaK
namespace Go.Proofs.Ytdkpjfjmccgaoaa.checksumLinear
open Go.ChangeShapes Go.WideShapes Go.ChangeAt Go.RowKit
open Go.ChangeMaps (open_string shut_string)
set_option linter.unusedVariables false

theorem own : ownKnob Try.prog.godebug = none := by kernel_rfl
theorem laidOut : laidOutB Try.prog = true := by kernel_rfl

set_option linter.unusedSimpArgs false
attribute [local go_sem] Oper.semAt_some putAll

def yk (X : Nat → Nat → Nat) (k j : Nat) : Nat := if k = 3 then X j 0 ^^^ X j 1 ^^^ X j 2 else X j k
def lw (X : Nat → Nat → Nat) (n k : Nat) : List Nat := (List.range n).map (yk X k)
theorem lw_succ (X : Nat → Nat → Nat) (n k : Nat) : lw X n k ++ [yk X k n] = lw X (n + 1) k := by simp [lw, List.range_succ]
theorem yk_lt {X : Nat → Nat → Nat} (h : ∀ j c, X j c < 18446744073709551616) (k j : Nat) : yk X k j < 18446744073709551616 := by
  unfold yk
  split
  · have h0 := h j 0; have h1 := h j 1; have h2 := h j 2
    exact Nat.xor_lt_two_pow (n := 64) (Nat.xor_lt_two_pow (n := 64) h0 h1) h2
  · exact h j k
theorem lw_at (X : Nat → Nat → Nat) (n k j : Nat) (hj : j < n) : (lw X n k)[j]?.getD 0 = yk X k j := by simp [lw, hj]
theorem lw_lt {X : Nat → Nat → Nat} (h : ∀ j c, X j c < 18446744073709551616) (n k : Nat) : ∀ j, j < n → (lw X n k)[j]?.getD 0 < 18446744073709551616 := fun j hj => by rw [lw_at X n k j hj]; exact yk_lt h k j
theorem lw_lin (X : Nat → Nat → Nat) (n : Nat) : ext 0 (lw X n 3) n = ext 0 (lw X n 0) n ^^^ ext 0 (lw X n 1) n ^^^ ext 0 (lw X n 2) n :=
  ext_lin3 _ _ _ _ n fun j hj => by rw [lw_at _ _ _ _ hj, lw_at _ _ _ _ hj, lw_at _ _ _ _ hj, lw_at _ _ _ _ hj]; rfl
def v4 (a b c d : Value) : Nat → Value
  | 0 => a
  | 1 => b
  | 2 => c
  | _ => d
theorem v4_of (V : Nat → Value) (k : Nat) (hk : k < 4) : v4 (V 0) (V 1) (V 2) (V 3) k = V k := by
  rcases k with _ | _ | _ | _ | k <;> first | rfl | omega
theorem end_then {l : List Oper} {a0 aF : Act} {er Sp : List Nat} {b a' : Act} {vals : List Value} {L : Array Bool} {M : Act → Prop} (vals' : List Value) (hb : putAll l vals' a0 = b) (N : Nat) (hN : a0.tmps.size = N) (hB : planIB l N er Sp = true) (hF : putAll l vals a0 = aF) (hall : ∀ i, i < l.length → L.getD i false = true) (hon : OnD l a0 aF Sp L a') (he : EndI Sp a' 0 l vals vals') (h : M b) : M a' := by rw [end_of vals' hb N hN hB hF hall hon he]; exact h
theorem j4_below {w0 w : World} {base n : Nat} {v : Nat → Value} {ws : Nat → List Nat} {x : Nat → Nat} {L : Array Bool} {a : Act} (h : J4 w0 base n v ws x L a w) : Below base w0 w := h.2.2.1

set_option maxRecDepth 100000 in
set_option maxHeartbeats 4000000 in
theorem walk {H : Type} {enc : TypeId × Value → H} {base : Nat} {d0 : DataW H} {p0 : List MemPlace} (v0 : Value) (w : World) (ok0 : Value.okWide Try.prog w .any base 41 v0) (k0 : DataW.Trod enc Try.prog w 0 (fun _ => true) true 41 v0 d0 p0) :
    Calls Try.prog 8 #[v0] w fun e w' => e = .returned (.bool true) ∧ Below w.heap.size w w' := by
  obtain ⟨a0, n0, c0, X, rfl, hl0, hT⟩ := open_tri ok0 k0
  obtain ⟨i0, hi, hz0, hz1, hz2⟩ := info_parts Try.info33
  have HI := hid hi; have HZ0 := hid hz0; have HZ1 := hid hz1; have HZ2 := hid hz2
  have HX := hid hT.1
  have hTT := hT.2
  clear hi hz0 hz1 hz2 ok0 k0 hT
  have hmx : Try.prog.follows .mixedOrders = true := by kernel_rfl
  by_cases g0 : 30 < n0
  · have g0' : (30 : Int) < (n0 : Int) := by omega
    clear hTT
    go_enter Try.func8, Try.ntmps8
    go_wp2_with fail
    refine (awake_ok _).mono ?_
    rintro e w5 ⟨rfl, hb5⟩
    go_wp2_with fail
    go_ret
    exact ⟨rfl, hb5⟩
  have g0' : ¬ (30 : Int) < (n0 : Int) := by omega
  have HTT := hid hTT
  clear hTT
  go_enter Try.func8, Try.ntmps8
  go_wp2_with fail
  go_loopw [3, 4, 5, 6, 7] (fun r0 r1 r2 r3 iv wr => ∃ i : Nat, i ≤ n0 ∧ iv = .int .i64 (i : Int) ∧ Hid (Below w.heap.size w wr ∧ ∀ k, k < 4 → wr.ownsRow w.heap.size 33 1 (v4 r0 r1 r2 r3 k) i (vs (lw X i k))) ∧ Hid (∀ k m, k < 4 → m < 4 → k ≠ m → ∀ b, (v4 r0 r1 r2 r3 k).ownBlock = some b → (v4 r0 r1 r2 r3 m).ownBlock ≠ some b)) (fun _ _ _ _ iv _ => n0 - (intOf iv).toNat)
  case atStart =>
    refine ⟨0, by omega, rfl, ⟨Below.refl _ _, fun k hk => ?_⟩, fun k m hk hm _ b hb => ?_⟩
    · rcases k with _ | _ | _ | _ | k <;> first | exact World.ownsRow_nil _ _ _ _ | omega
    · rcases k with _ | _ | _ | _ | k <;> first | (simp [v4, Value.ownBlock] at hb) | omega
  case round =>
    obtain ⟨i, hi, rfl, HR, HD⟩ := hrel
    by_cases hlt : i < n0
    · have hlt2 : (i : Int) < (n0 : Int) := by omega
      obtain ⟨b, off, rfl, hbn, hall⟩ := HTT.out.resolve_left (by omega)
      have hc0 := hid (hall i hlt 0 (by omega))
      have hc1 := hid (hall i hlt 1 (by omega))
      have hc2 := hid (hall i hlt 2 (by omega))
      have HBN := hid hbn
      clear hall hbn
      have hy0 : X i 0 = yk X 0 i := rfl
      have hy1 : X i 1 = yk X 1 i := rfl
      have hy2 : X i 2 = yk X 2 i := rfl
      have hy3 : X i 0 ^^^ X i 1 ^^^ X i 2 = yk X 3 i := rfl
      have hx0 := HX.out i 0; have hx1 := HX.out i 1; have hx2 := HX.out i 2
      generalize X i 0 = x0 at hc0 hy0 hy3 hx0
      generalize X i 1 = x1 at hc1 hy1 hy3 hx1
      generalize X i 2 = x2 at hc2 hy2 hy3 hx2
      have HX01 := hid (u64_xor_nat x0 x1 hx0 hx1)
      have HX012 := hid (u64_xor_nat (x0 ^^^ x1) x2 (Nat.xor_lt_two_pow (n := 64) hx0 hx1) hx2)
      have Hy0 := hid hy0; have Hy1 := hid hy1; have Hy2 := hid hy2; have Hy3 := hid hy3
      clear hy0 hy1 hy2 hy3 hx0 hx1 hx2
      have HRo := hid HR.out.2
      have HBel := hid HR.out.1
      clear HR hlt2
      go_wp2_with fail
      refine (wpIn_wide (n := 5)).1 ?_
      refine wpIn_region_planS (ro := none) (aF := ?aF) [u3, (.slice (some ⟨b, off, none⟩) n0 c0), (.int .i64 (i : Int)), .pointer (some ⟨b, off + i * 3, none⟩), .pointer (some ⟨b, off + i * 3, none⟩), .int .u64 (x0 : Nat), undef, undef, u4, (.slice (some ⟨b, off, none⟩) n0 c0), (.int .i64 (i : Int)), .pointer (some ⟨b, off + i * 3, none⟩), .pointer (some ⟨b, off + i * 3 + 1, none⟩), .int .u64 (x1 : Nat), undef, undef, u5, (.slice (some ⟨b, off, none⟩) n0 c0), (.int .i64 (i : Int)), .pointer (some ⟨b, off + i * 3, none⟩), .pointer (some ⟨b, off + i * 3 + 2, none⟩), .int .u64 (x2 : Nat), undef, undef, u6, (.slice (some ⟨b, off, none⟩) n0 c0), (.int .i64 (i : Int)), .pointer (some ⟨b, off + i * 3, none⟩), .pointer (some ⟨b, off + i * 3, none⟩), .int .u64 (x0 : Nat), (.slice (some ⟨b, off, none⟩) n0 c0), (.int .i64 (i : Int)), .pointer (some ⟨b, off + i * 3, none⟩), .pointer (some ⟨b, off + i * 3 + 1, none⟩), .int .u64 (x1 : Nat), .int .u64 ((x0 ^^^ x1 : Nat) : Int), (.slice (some ⟨b, off, none⟩) n0 c0), (.int .i64 (i : Int)), .pointer (some ⟨b, off + i * 3, none⟩), .pointer (some ⟨b, off + i * 3 + 2, none⟩), .int .u64 (x2 : Nat), .int .u64 ((x0 ^^^ x1 ^^^ x2 : Nat) : Int), undef, undef, undef, undef, undef, undef] ?hE [0, 8, 16, 24] SP (J4 wr.drew w.heap.size i (v4 u3 u4 u5 u6) (lw X i) (fun k => yk X k i)) 76 ?hN hmx (by kernel_rfl) ?hJ0 (j4_far (by kernel_rfl)) ?hst ?fin
      case hE =>
        go_simp
        rfl
      case hN => kernel_rfl
      case hJ0 => exact j4_start (by simp) HBel.out.size (fun k hk => (HRo.out k hk).drew) HD.out
      case hst =>
       refine StepsI.d rfl ?s0 (StepsI.d rfl ?s1 (StepsI.d rfl ?s2 (StepsI.d rfl ?s3 (StepsI.d rfl ?s4 (StepsI.d rfl ?s5 (StepsI.s rfl ?s6 (StepsI.s rfl ?s7 (StepsI.d rfl ?s8 (StepsI.d rfl ?s9 (StepsI.d rfl ?s10 (StepsI.d rfl ?s11 (StepsI.d rfl ?s12 (StepsI.d rfl ?s13 (StepsI.s rfl ?s14 (StepsI.s rfl ?s15 (StepsI.d rfl ?s16 (StepsI.d rfl ?s17 (StepsI.d rfl ?s18 (StepsI.d rfl ?s19 (StepsI.d rfl ?s20 (StepsI.d rfl ?s21 (StepsI.s rfl ?s22 (StepsI.s rfl ?s23 (StepsI.d rfl ?s24 (StepsI.d rfl ?s25 (StepsI.d rfl ?s26 (StepsI.d rfl ?s27 (StepsI.d rfl ?s28 (StepsI.d rfl ?s29 (StepsI.d rfl ?s30 (StepsI.d rfl ?s31 (StepsI.d rfl ?s32 (StepsI.d rfl ?s33 (StepsI.d rfl ?s34 (StepsI.d rfl ?s35 (StepsI.d rfl ?s36 (StepsI.d rfl ?s37 (StepsI.d rfl ?s38 (StepsI.d rfl ?s39 (StepsI.d rfl ?s40 (StepsI.d rfl ?s41 (StepsI.s rfl ?s42 (StepsI.s rfl ?s43 (StepsI.s rfl ?s44 (StepsI.s rfl ?s45 (StepsI.s rfl ?s46 (StepsI.s rfl ?s47 StepsI.nil)))))))))))))))))))))))))))))))))))))))))))))))
       case s0 =>
        exact StepD.early rfl rfl 18 rfl 3 rfl u3 (by kernel_rfl) (by kernel_rfl)
       case s1 =>
        refine StepD.late rfl rfl 19 rfl ((.slice (some ⟨b, off, none⟩) n0 c0)) (by kernel_rfl) ?_
        intro L a w' hJ
        clear hJ
        go_simp
       case s2 =>
        refine StepD.late rfl rfl 20 rfl ((.int .i64 (i : Int))) (by kernel_rfl) ?_
        intro L a w' hJ
        clear hJ
        go_simp
       case s3 =>
        refine StepD.late rfl rfl 21 rfl (.pointer (some ⟨b, off + i * 3, none⟩)) (by kernel_rfl) ?_
        intro L a w' hJ
        have hlt3 : (i : Int) < (n0 : Int) := by omega
        clear hJ
        go_simp
       case s4 =>
        refine StepD.late rfl rfl 22 rfl (.pointer (some ⟨b, off + i * 3, none⟩)) (by kernel_rfl) ?_
        intro L a w' hJ
        clear hJ
        go_simp
       case s5 =>
        refine StepD.late rfl rfl 23 rfl (.int .u64 (x0 : Nat)) (by kernel_rfl) ?_
        intro L a w' hJ
        have hc : w'.cell? ⟨b, off + i * 3, none⟩ = some (.int .u64 (x0 : Nat)) := by rw [((HBel.out.drew.trans (j4_below hJ))).cell HBN.out]; exact hc0.out
        clear hJ
        go_simp
       case s6 =>
        exact step_lit 0 (by omega) rfl i0 Try.underlying23 HI.out HZ0.out HZ1.out rfl 23 rfl rfl 5 _ rfl rfl rfl (by kernel_rfl) (Eq.trans (b := some (Value.int .u64 ((x0 : Nat) : Int))) (by kernel_rfl) (congrArg (fun z : Nat => some (Value.int .u64 (z : Int))) Hy0.out))
       case s7 =>
        exact step_app 0 (by omega) rfl i0 Try.underlying23 HI.out HZ0.out HZ1.out HZ2.out (by omega) rfl 18 24 rfl rfl rfl 0 _ rfl rfl rfl (by kernel_rfl) (by kernel_rfl) (by kernel_rfl)
       case s8 =>
        exact StepD.early rfl rfl 26 rfl 4 rfl u4 (by kernel_rfl) (by kernel_rfl)
       case s9 =>
        refine StepD.late rfl rfl 27 rfl ((.slice (some ⟨b, off, none⟩) n0 c0)) (by kernel_rfl) ?_
        intro L a w' hJ
        clear hJ
        go_simp
       case s10 =>
        refine StepD.late rfl rfl 28 rfl ((.int .i64 (i : Int))) (by kernel_rfl) ?_
        intro L a w' hJ
        clear hJ
        go_simp
       case s11 =>
        refine StepD.late rfl rfl 29 rfl (.pointer (some ⟨b, off + i * 3, none⟩)) (by kernel_rfl) ?_
        intro L a w' hJ
        have hlt3 : (i : Int) < (n0 : Int) := by omega
        clear hJ
        go_simp
       case s12 =>
        refine StepD.late rfl rfl 30 rfl (.pointer (some ⟨b, off + i * 3 + 1, none⟩)) (by kernel_rfl) ?_
        intro L a w' hJ
        clear hJ
        go_simp
       case s13 =>
        refine StepD.late rfl rfl 31 rfl (.int .u64 (x1 : Nat)) (by kernel_rfl) ?_
        intro L a w' hJ
        have hc : w'.cell? ⟨b, off + i * 3 + 1, none⟩ = some (.int .u64 (x1 : Nat)) := by rw [((HBel.out.drew.trans (j4_below hJ))).cell HBN.out]; exact hc1.out
        clear hJ
        go_simp
       case s14 =>
        exact step_lit 1 (by omega) rfl i0 Try.underlying23 HI.out HZ0.out HZ1.out rfl 31 rfl rfl 13 _ rfl rfl rfl (by kernel_rfl) (Eq.trans (b := some (Value.int .u64 ((x1 : Nat) : Int))) (by kernel_rfl) (congrArg (fun z : Nat => some (Value.int .u64 (z : Int))) Hy1.out))
       case s15 =>
        exact step_app 1 (by omega) rfl i0 Try.underlying23 HI.out HZ0.out HZ1.out HZ2.out (by omega) rfl 26 32 rfl rfl rfl 8 _ rfl rfl rfl (by kernel_rfl) (by kernel_rfl) (by kernel_rfl)
       case s16 =>
        exact StepD.early rfl rfl 34 rfl 5 rfl u5 (by kernel_rfl) (by kernel_rfl)
       case s17 =>
        refine StepD.late rfl rfl 35 rfl ((.slice (some ⟨b, off, none⟩) n0 c0)) (by kernel_rfl) ?_
        intro L a w' hJ
        clear hJ
        go_simp
       case s18 =>
        refine StepD.late rfl rfl 36 rfl ((.int .i64 (i : Int))) (by kernel_rfl) ?_
        intro L a w' hJ
        clear hJ
        go_simp
       case s19 =>
        refine StepD.late rfl rfl 37 rfl (.pointer (some ⟨b, off + i * 3, none⟩)) (by kernel_rfl) ?_
        intro L a w' hJ
        have hlt3 : (i : Int) < (n0 : Int) := by omega
        clear hJ
        go_simp
       case s20 =>
        refine StepD.late rfl rfl 38 rfl (.pointer (some ⟨b, off + i * 3 + 2, none⟩)) (by kernel_rfl) ?_
        intro L a w' hJ
        clear hJ
        go_simp
       case s21 =>
        refine StepD.late rfl rfl 39 rfl (.int .u64 (x2 : Nat)) (by kernel_rfl) ?_
        intro L a w' hJ
        have hc : w'.cell? ⟨b, off + i * 3 + 2, none⟩ = some (.int .u64 (x2 : Nat)) := by rw [((HBel.out.drew.trans (j4_below hJ))).cell HBN.out]; exact hc2.out
        clear hJ
        go_simp
       case s22 =>
        exact step_lit 2 (by omega) rfl i0 Try.underlying23 HI.out HZ0.out HZ1.out rfl 39 rfl rfl 21 _ rfl rfl rfl (by kernel_rfl) (Eq.trans (b := some (Value.int .u64 ((x2 : Nat) : Int))) (by kernel_rfl) (congrArg (fun z : Nat => some (Value.int .u64 (z : Int))) Hy2.out))
       case s23 =>
        exact step_app 2 (by omega) rfl i0 Try.underlying23 HI.out HZ0.out HZ1.out HZ2.out (by omega) rfl 34 40 rfl rfl rfl 16 _ rfl rfl rfl (by kernel_rfl) (by kernel_rfl) (by kernel_rfl)
       case s24 =>
        exact StepD.early rfl rfl 42 rfl 6 rfl u6 (by kernel_rfl) (by kernel_rfl)
       case s25 =>
        refine StepD.late rfl rfl 43 rfl ((.slice (some ⟨b, off, none⟩) n0 c0)) (by kernel_rfl) ?_
        intro L a w' hJ
        clear hJ
        go_simp
       case s26 =>
        refine StepD.late rfl rfl 44 rfl ((.int .i64 (i : Int))) (by kernel_rfl) ?_
        intro L a w' hJ
        clear hJ
        go_simp
       case s27 =>
        refine StepD.late rfl rfl 45 rfl (.pointer (some ⟨b, off + i * 3, none⟩)) (by kernel_rfl) ?_
        intro L a w' hJ
        have hlt3 : (i : Int) < (n0 : Int) := by omega
        clear hJ
        go_simp
       case s28 =>
        refine StepD.late rfl rfl 46 rfl (.pointer (some ⟨b, off + i * 3, none⟩)) (by kernel_rfl) ?_
        intro L a w' hJ
        clear hJ
        go_simp
       case s29 =>
        refine StepD.late rfl rfl 47 rfl (.int .u64 (x0 : Nat)) (by kernel_rfl) ?_
        intro L a w' hJ
        have hc : w'.cell? ⟨b, off + i * 3, none⟩ = some (.int .u64 (x0 : Nat)) := by rw [((HBel.out.drew.trans (j4_below hJ))).cell HBN.out]; exact hc0.out
        clear hJ
        go_simp
       case s30 =>
        refine StepD.late rfl rfl 48 rfl ((.slice (some ⟨b, off, none⟩) n0 c0)) (by kernel_rfl) ?_
        intro L a w' hJ
        clear hJ
        go_simp
       case s31 =>
        refine StepD.late rfl rfl 49 rfl ((.int .i64 (i : Int))) (by kernel_rfl) ?_
        intro L a w' hJ
        clear hJ
        go_simp
       case s32 =>
        refine StepD.late rfl rfl 50 rfl (.pointer (some ⟨b, off + i * 3, none⟩)) (by kernel_rfl) ?_
        intro L a w' hJ
        have hlt3 : (i : Int) < (n0 : Int) := by omega
        clear hJ
        go_simp
       case s33 =>
        refine StepD.late rfl rfl 51 rfl (.pointer (some ⟨b, off + i * 3 + 1, none⟩)) (by kernel_rfl) ?_
        intro L a w' hJ
        clear hJ
        go_simp
       case s34 =>
        refine StepD.late rfl rfl 52 rfl (.int .u64 (x1 : Nat)) (by kernel_rfl) ?_
        intro L a w' hJ
        have hc : w'.cell? ⟨b, off + i * 3 + 1, none⟩ = some (.int .u64 (x1 : Nat)) := by rw [((HBel.out.drew.trans (j4_below hJ))).cell HBN.out]; exact hc1.out
        clear hJ
        go_simp
       case s35 =>
        refine StepD.late rfl rfl 53 rfl (.int .u64 ((x0 ^^^ x1 : Nat) : Int)) (by kernel_rfl) ?_
        intro L a w' hJ
        clear hJ
        go_simp
        try exact HX01.out
       case s36 =>
        refine StepD.late rfl rfl 54 rfl ((.slice (some ⟨b, off, none⟩) n0 c0)) (by kernel_rfl) ?_
        intro L a w' hJ
        clear hJ
        go_simp
       case s37 =>
        refine StepD.late rfl rfl 55 rfl ((.int .i64 (i : Int))) (by kernel_rfl) ?_
        intro L a w' hJ
        clear hJ
        go_simp
       case s38 =>
        refine StepD.late rfl rfl 56 rfl (.pointer (some ⟨b, off + i * 3, none⟩)) (by kernel_rfl) ?_
        intro L a w' hJ
        have hlt3 : (i : Int) < (n0 : Int) := by omega
        clear hJ
        go_simp
       case s39 =>
        refine StepD.late rfl rfl 57 rfl (.pointer (some ⟨b, off + i * 3 + 2, none⟩)) (by kernel_rfl) ?_
        intro L a w' hJ
        clear hJ
        go_simp
       case s40 =>
        refine StepD.late rfl rfl 58 rfl (.int .u64 (x2 : Nat)) (by kernel_rfl) ?_
        intro L a w' hJ
        have hc : w'.cell? ⟨b, off + i * 3 + 2, none⟩ = some (.int .u64 (x2 : Nat)) := by rw [((HBel.out.drew.trans (j4_below hJ))).cell HBN.out]; exact hc2.out
        clear hJ
        go_simp
       case s41 =>
        refine StepD.late rfl rfl 59 rfl (.int .u64 ((x0 ^^^ x1 ^^^ x2 : Nat) : Int)) (by kernel_rfl) ?_
        intro L a w' hJ
        clear hJ
        go_simp
        try exact HX012.out
       case s42 =>
        exact step_lit 3 (by omega) rfl i0 Try.underlying23 HI.out HZ0.out HZ1.out rfl 59 rfl rfl 41 _ rfl rfl rfl (by kernel_rfl) (Eq.trans (b := some (Value.int .u64 ((x0 ^^^ x1 ^^^ x2 : Nat) : Int))) (by kernel_rfl) (congrArg (fun z : Nat => some (Value.int .u64 (z : Int))) Hy3.out))
       case s43 =>
        exact step_app 3 (by omega) rfl i0 Try.underlying23 HI.out HZ0.out HZ1.out HZ2.out (by omega) rfl 42 60 rfl rfl rfl 24 _ rfl rfl rfl (by kernel_rfl) (by kernel_rfl) (by kernel_rfl)
       case s44 =>
        exact step_asg 0 (by omega) rfl rfl 25 rfl rfl rfl (by kernel_rfl)
       case s45 =>
        exact step_asg 1 (by omega) rfl rfl 33 rfl rfl rfl (by kernel_rfl)
       case s46 =>
        exact step_asg 2 (by omega) rfl rfl 41 rfl rfl rfl (by kernel_rfl)
       case s47 =>
        exact step_asg 3 (by omega) rfl rfl 61 rfl rfl rfl (by kernel_rfl)
      case fin =>
       intro L a' w' hall hon hJ
       obtain ⟨j1, j2, j3, j4, j5, V, j6, j7, j8, j9⟩ := hJ
       have hl : ∀ i, i < 48 → L.getD i false = true := hall
       obtain ⟨B0, b0, -, -, -⟩ := j8 0 (by omega) (hl (ix 0) (by decide))
       have b0 : a'.tmps[24]? = some (.slice (some ⟨B0, 0, none⟩) 1 1) := b0
       have f0 : a'.tmps[3]? = some (V 0) := j7 0 (by omega) (hl (44 + 0) (by decide))
       have e0 : a'.tmps[25]? = some (V 0) := ((j6 0 (by omega)).1 (hl (ix 0 + 1) (by decide))).1
       obtain ⟨B1, b1, -, -, -⟩ := j8 1 (by omega) (hl (ix 1) (by decide))
       have b1 : a'.tmps[32]? = some (.slice (some ⟨B1, 0, none⟩) 1 1) := b1
       have f1 : a'.tmps[4]? = some (V 1) := j7 1 (by omega) (hl (44 + 1) (by decide))
       have e1 : a'.tmps[33]? = some (V 1) := ((j6 1 (by omega)).1 (hl (ix 1 + 1) (by decide))).1
       obtain ⟨B2, b2, -, -, -⟩ := j8 2 (by omega) (hl (ix 2) (by decide))
       have b2 : a'.tmps[40]? = some (.slice (some ⟨B2, 0, none⟩) 1 1) := b2
       have f2 : a'.tmps[5]? = some (V 2) := j7 2 (by omega) (hl (44 + 2) (by decide))
       have e2 : a'.tmps[41]? = some (V 2) := ((j6 2 (by omega)).1 (hl (ix 2 + 1) (by decide))).1
       obtain ⟨B3, b3, -, -, -⟩ := j8 3 (by omega) (hl (ix 3) (by decide))
       have b3 : a'.tmps[60]? = some (.slice (some ⟨B3, 0, none⟩) 1 1) := b3
       have f3 : a'.tmps[6]? = some (V 3) := j7 3 (by omega) (hl (44 + 3) (by decide))
       have e3 : a'.tmps[61]? = some (V 3) := ((j6 3 (by omega)).1 (hl (ix 3 + 1) (by decide))).1
       have HO := hid (show ∀ k, k < 4 → w'.ownsRow w.heap.size 33 1 (v4 (V 0) (V 1) (V 2) (V 3) k) (i + 1) (vs (lw X (i + 1) k)) from fun k hk => by rw [v4_of V k hk, ← lw_succ]; exact ((j6 k hk).1 (hl (ix k + 1) (by have := (ix_ne k hk k hk).2.2.2.2.2.2; omega))).2)
       have HD2 := hid (show ∀ k m, k < 4 → m < 4 → k ≠ m → ∀ b, (v4 (V 0) (V 1) (V 2) (V 3) k).ownBlock = some b → (v4 (V 0) (V 1) (V 2) (V 3) m).ownBlock ≠ some b from fun k m hk hm => by rw [v4_of V k hk, v4_of V m hm]; exact j9 k m hk hm)
       have HB2 := hid (HBel.out.drew.trans j3)
       refine end_then (b := ?bb) (M := fun z => Exit.inBlock 1 _ Exit.normal z w') (vals := [u3, (.slice (some ⟨b, off, none⟩) n0 c0), (.int .i64 (i : Int)), .pointer (some ⟨b, off + i * 3, none⟩), .pointer (some ⟨b, off + i * 3, none⟩), .int .u64 (x0 : Nat), undef, undef, u4, (.slice (some ⟨b, off, none⟩) n0 c0), (.int .i64 (i : Int)), .pointer (some ⟨b, off + i * 3, none⟩), .pointer (some ⟨b, off + i * 3 + 1, none⟩), .int .u64 (x1 : Nat), undef, undef, u5, (.slice (some ⟨b, off, none⟩) n0 c0), (.int .i64 (i : Int)), .pointer (some ⟨b, off + i * 3, none⟩), .pointer (some ⟨b, off + i * 3 + 2, none⟩), .int .u64 (x2 : Nat), undef, undef, u6, (.slice (some ⟨b, off, none⟩) n0 c0), (.int .i64 (i : Int)), .pointer (some ⟨b, off + i * 3, none⟩), .pointer (some ⟨b, off + i * 3, none⟩), .int .u64 (x0 : Nat), (.slice (some ⟨b, off, none⟩) n0 c0), (.int .i64 (i : Int)), .pointer (some ⟨b, off + i * 3, none⟩), .pointer (some ⟨b, off + i * 3 + 1, none⟩), .int .u64 (x1 : Nat), .int .u64 ((x0 ^^^ x1 : Nat) : Int), (.slice (some ⟨b, off, none⟩) n0 c0), (.int .i64 (i : Int)), .pointer (some ⟨b, off + i * 3, none⟩), .pointer (some ⟨b, off + i * 3 + 2, none⟩), .int .u64 (x2 : Nat), .int .u64 ((x0 ^^^ x1 ^^^ x2 : Nat) : Int), undef, undef, undef, undef, undef, undef]) (er := [0, 8, 16, 24]) (Sp := SP) [u3, (.slice (some ⟨b, off, none⟩) n0 c0), (.int .i64 (i : Int)), .pointer (some ⟨b, off + i * 3, none⟩), .pointer (some ⟨b, off + i * 3, none⟩), .int .u64 (x0 : Nat), .slice (some ⟨B0, 0, none⟩) 1 1, V 0, u4, (.slice (some ⟨b, off, none⟩) n0 c0), (.int .i64 (i : Int)), .pointer (some ⟨b, off + i * 3, none⟩), .pointer (some ⟨b, off + i * 3 + 1, none⟩), .int .u64 (x1 : Nat), .slice (some ⟨B1, 0, none⟩) 1 1, V 1, u5, (.slice (some ⟨b, off, none⟩) n0 c0), (.int .i64 (i : Int)), .pointer (some ⟨b, off + i * 3, none⟩), .pointer (some ⟨b, off + i * 3 + 2, none⟩), .int .u64 (x2 : Nat), .slice (some ⟨B2, 0, none⟩) 1 1, V 2, u6, (.slice (some ⟨b, off, none⟩) n0 c0), (.int .i64 (i : Int)), .pointer (some ⟨b, off + i * 3, none⟩), .pointer (some ⟨b, off + i * 3, none⟩), .int .u64 (x0 : Nat), (.slice (some ⟨b, off, none⟩) n0 c0), (.int .i64 (i : Int)), .pointer (some ⟨b, off + i * 3, none⟩), .pointer (some ⟨b, off + i * 3 + 1, none⟩), .int .u64 (x1 : Nat), .int .u64 ((x0 ^^^ x1 : Nat) : Int), (.slice (some ⟨b, off, none⟩) n0 c0), (.int .i64 (i : Int)), .pointer (some ⟨b, off + i * 3, none⟩), .pointer (some ⟨b, off + i * 3 + 2, none⟩), .int .u64 (x2 : Nat), .int .u64 ((x0 ^^^ x1 ^^^ x2 : Nat) : Int), .slice (some ⟨B3, 0, none⟩) 1 1, V 3, V 0, V 1, V 2, V 3] ?hb 76 (by kernel_rfl) (by kernel_rfl) (by kernel_rfl) hall hon ?he ?go
       case hb =>
        go_simp
        rfl
       case he => exact EndI.d rfl (EndI.d rfl (EndI.d rfl (EndI.d rfl (EndI.d rfl (EndI.d rfl (EndI.s rfl 24 rfl b0 (EndI.s rfl 25 rfl e0 (EndI.d rfl (EndI.d rfl (EndI.d rfl (EndI.d rfl (EndI.d rfl (EndI.d rfl (EndI.s rfl 32 rfl b1 (EndI.s rfl 33 rfl e1 (EndI.d rfl (EndI.d rfl (EndI.d rfl (EndI.d rfl (EndI.d rfl (EndI.d rfl (EndI.s rfl 40 rfl b2 (EndI.s rfl 41 rfl e2 (EndI.d rfl (EndI.d rfl (EndI.d rfl (EndI.d rfl (EndI.d rfl (EndI.d rfl (EndI.d rfl (EndI.d rfl (EndI.d rfl (EndI.d rfl (EndI.d rfl (EndI.d rfl (EndI.d rfl (EndI.d rfl (EndI.d rfl (EndI.d rfl (EndI.d rfl (EndI.d rfl (EndI.s rfl 60 rfl b3 (EndI.s rfl 61 rfl e3 (EndI.s rfl 3 rfl f0 (EndI.s rfl 4 rfl f1 (EndI.s rfl 5 rfl f2 (EndI.s rfl 6 rfl f3 EndI.nil)))))))))))))))))))))))))))))))))))))))))))))))
       case go =>
        clear j1 j2 j3 j4 j5 j6 j7 j8 j9 hl hall hon b0 b1 b2 b3 e0 e1 e2 e3 f0 f1 f2 f3 HRo HBel HD HX01 HX012 hc0 hc1 hc2 Hy0 Hy1 Hy2 Hy3
        generalize V 0 = q0 at *
        generalize V 1 = q1 at *
        generalize V 2 = q2 at *
        generalize V 3 = q3 at *
        clear V
        go_wp2_with fail
        go_wp2_with fail
        go_roundw
        case rel => exact ⟨i + 1, by omega, by go_num, ⟨HB2.out, fun k hk => HO.out k hk⟩, HD2⟩
        case measure => simp [intOf]; omega
    · obtain rfl : i = n0 := by omega
      have hlt2 : ¬ (i : Int) < (i : Int) := by omega
      have hr : i * 8 ≤ 140737488351232 := by omega
      have HBel := hid HR.out.1
      obtain ⟨g0, cp0, hv0, hw0⟩ := own_form (HR.out.2 0 (by omega)) (lw_lt HX.out i 0)
      have hv0 : u3 = _ := hv0
      subst hv0
      have HW0 := hid hw0
      obtain ⟨g1, cp1, hv1, hw1⟩ := own_form (HR.out.2 1 (by omega)) (lw_lt HX.out i 1)
      have hv1 : u4 = _ := hv1
      subst hv1
      have HW1 := hid hw1
      obtain ⟨g2, cp2, hv2, hw2⟩ := own_form (HR.out.2 2 (by omega)) (lw_lt HX.out i 2)
      have hv2 : u5 = _ := hv2
      subst hv2
      have HW2 := hid hw2
      obtain ⟨g3, cp3, hv3, hw3⟩ := own_form (HR.out.2 3 (by omega)) (lw_lt HX.out i 3)
      have hv3 : u6 = _ := hv3
      subst hv3
      have HW3 := hid hw3
      clear HR HD hw0 hw1 hw2 hw3 HTT
      have K0 := hid (fun g c w hI => words_ok g i c (lw X i 0) hr w hI)
      have K1 := hid (fun g c w hI => words_ok g i c (lw X i 1) hr w hI)
      have K2 := hid (fun g c w hI => words_ok g i c (lw X i 2) hr w hI)
      have K3 := hid (fun g c w hI => words_ok g i c (lw X i 3) hr w hI)
      rw [lw_lin X i] at K3
      have l0 := ext_lt 0 (by omega) (lw X i 0) i
      have l1 := ext_lt 0 (by omega) (lw X i 1) i
      have l2 := ext_lt 0 (by omega) (lw X i 2) i
      generalize ext 0 (lw X i 0) i = p0 at *
      generalize ext 0 (lw X i 1) i = p1 at *
      generalize ext 0 (lw X i 2) i = p2 at *
      have HX1 := u32_xor_nat p0 p1 l0 l1
      have HX2 := u32_xor_nat (p0 ^^^ p1) p2 (Nat.xor_lt_two_pow (n := 32) l0 l1) l2
      clear l0 l1 l2
      generalize p0 ^^^ p1 = q at *
      generalize q ^^^ p2 = z at *
      go_wp2_with fail
      refine (K3.out _ _ _ HW3.out).mono ?_
      rintro e w1 ⟨rfl, hb1⟩
      have HW0' := hid (Wo.kept HW0.out hb1)
      clear HW0
      have HW0 := hid HW0'.out
      clear HW0'
      have HW1' := hid (Wo.kept HW1.out hb1)
      clear HW1
      have HW1 := hid HW1'.out
      clear HW1'
      have HW2' := hid (Wo.kept HW2.out hb1)
      clear HW2
      have HW2 := hid HW2'.out
      clear HW2'
      have HBel1 := hid (bt HBel.out hb1)
      clear hb1
      go_wp2_with fail
      refine (K0.out _ _ _ HW0.out).mono ?_
      rintro e w2 ⟨rfl, hb2⟩
      have HW1' := hid (Wo.kept HW1.out hb2)
      clear HW1
      have HW1 := hid HW1'.out
      clear HW1'
      have HW2' := hid (Wo.kept HW2.out hb2)
      clear HW2
      have HW2 := hid HW2'.out
      clear HW2'
      have HBel2 := hid (bt HBel1.out hb2)
      clear hb2
      go_wp2_with fail
      refine (K1.out _ _ _ HW1.out).mono ?_
      rintro e w3 ⟨rfl, hb3⟩
      have HW2' := hid (Wo.kept HW2.out hb3)
      clear HW2
      have HW2 := hid HW2'.out
      clear HW2'
      have HBel3 := hid (bt HBel2.out hb3)
      clear hb3
      go_wp2_with fail
      refine (K2.out _ _ _ HW2.out).mono ?_
      rintro e w4 ⟨rfl, hb4⟩
      have HBel4 := hid (bt HBel3.out hb4)
      clear hb4
      go_wp2_with fail
      refine (awake_ok _).mono ?_
      rintro e w9 ⟨rfl, hb9⟩
      go_wp2_with fail
      go_ret
      exact ⟨rfl, bt HBel4.out hb9⟩

set_option maxRecDepth 100000 in
theorem lifted (os : Os) (started : os.Started) (H : Type) (enc : TypeId × Value → H) :
    ReturnsInHanded {} Try.checked os 8 .any (Rows.checksumLinearSpec.pre6 enc Try.prog Try.f8 Rows.checksumLinearRow.domain false) (Rows.checksumLinearSpec.post enc Try.prog Try.f8 false true false false) := by
  refine returnsInHanded_of_change (C := Try.checked) own started (by kernel_rfl) Try.func8
    (ChangeSpec.witness6 (enc := enc) (C := Try.checked) false ⟨#[], #[.slice none 0 0], []⟩ 8 (by kernel_rfl) (by kernel_rfl) (by kernel_rfl) (by kernel_rfl)) ?_
  intro W base args ds gs before hval0 hW hcnd _
  have hval : ∀ (j : Nat) t v, Try.f8.params[j]? = some t → args[j]? = some v → Value.okWide Try.prog W .any base t v := hval0
  have hW' := hW
  obtain ⟨p, q, hA0, hV, rfl, hfz, hnd⟩ := hW
  have hA : DataW.TrodAll enc Try.prog W 0 (fun _ => true) true Try.f8.params.toList args.toList ds p := hA0
  rw [Try.params8] at hA hval
  obtain ⟨v0, vs0, d0, ds0, p0, q0, hargs, rfl, rfl, h0, r0⟩ := trodAll_cons hA
  obtain ⟨rfl, rfl, rfl⟩ := trodAll_nil r0
  obtain rfl : args = #[v0] := by cases args; simp_all
  obtain ⟨rfl, rfl⟩ := trodVars_none hV
  have k0 := h0
  have lt0 : ∀ x ∈ p0, x.block < W.heap.size := by obtain ⟨m, hm⟩ := k0; exact DataW.trod_lt m _ _ _ hm
  have ok0 := hval 0 41 v0 rfl rfl
  clear hA0 hval0
  refine (walk v0 W ok0 k0).mono fun e W' ⟨he, bel⟩ => ?_
  subst he
  exact ⟨_, rfl, _, _, _, [], _, [], hW', trodAll_mk1 (shut_bool Try.underlying4 _), (trodAll_cons_mk (Below.trod laidOut (by kernel_rfl) (of_decide_eq_true (by kernel_rfl)) k0 bel lt0) trodAll_mk0), rfl, bel.frame _, fun h => by cases h⟩

theorem over : Rows.checksumLinearRow.holds Try.pinned (OpenSpec.ofChange Rows.checksumLinearSpec) :=
  OpenClaim.holds_of_wide 8 Try.f8 rfl rfl rfl rfl rfl rfl rfl ⟨rfl, rfl, rfl, rfl, rfl⟩ rfl rfl rfl rfl rfl (by kernel_rfl) Try.func8 (by kernel_rfl)
    (of_decide_eq_true (by kernel_rfl)) (by unfold Func.isWrapper; first | (rw [if_pos (by decide +kernel)]; kernel_rfl) | (rw [if_neg (by decide +kernel)]; exact ⟨rfl, rfl⟩))
    (fun os started H enc _ => lifted os started H enc)

theorem proved : Rows.ChecksumLinearSaid := over
#print axioms proved
end Go.Proofs.Ytdkpjfjmccgaoaa.checksumLinear
