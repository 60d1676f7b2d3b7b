/- The sets of bytes and Name of layer 8. No conditions but those of each theorem. -/
import Derived.Test.YtdpclmogfnigdaaC
import Derived.Test.YtdpclmogfnigdaaPV
namespace Go.Proofs.Ytdpclmogfnigdaa
open Go.ChangeShapes Go.WideShapes Go.ChangeAt Go.RowKit
set_option linter.unusedVariables false
set_option linter.unusedSimpArgs false

theorem StepP.want {P : Program} {ops : Array Oper} {aF : Act} {o : Oper} {w w' : World} (hw : Region.wanted o (yielded ops aF.tmps) = true) (h : o.wp P aF w (fun a' w'' => a' = aF ∧ w'' = w') (fun _ _ _ => False)) : StepP P ops aF o w w' := by
  unfold StepP
  rw [if_pos hw]
  exact h
theorem StepP.skip {P : Program} {ops : Array Oper} {aF : Act} {o : Oper} {w : World} (hw : Region.wanted o (yielded ops aF.tmps) = false) (h : aF.put o.dst undef = aF) : StepP P ops aF o w w := by
  unfold StepP
  rw [if_neg (by rw [hw]; simp)]
  exact ⟨h, rfl⟩

attribute [local go_sem] Oper.semAt_some putAll
/-- all bytes of a text are in the set -/
def allIn (x y : Int) (l : List UInt8) : Bool := l.all (fun c => inSet x y c.toNat)
theorem allIn_no {x y : Int} {s : ByteArray} {k : Nat} (hk : k < s.size) (h : inSet x y s[k].toNat = false) : allIn x y s.data.toList = false := by
  unfold allIn
  rw [List.all_eq_false]
  exact ⟨s[k], by simp [ByteArray.getElem_eq_getElem_data], by rw [h]; simp⟩
theorem allIn_yes {x y : Int} {s : ByteArray} (h : ∀ (k : Nat) (hk : k < s.size), inSet x y s[k].toNat = true) : allIn x y s.data.toList = true := by
  unfold allIn
  rw [List.all_eq_true]
  intro c hc
  obtain ⟨j, hj, e⟩ := List.getElem_of_mem hc
  have hj' : j < s.size := by simpa using hj
  rw [← e]
  exact h j hj'

set_option maxRecDepth 100000 in
set_option maxHeartbeats 4000000 in
theorem hasAll_any (x y : Int) (s : ByteArray) (hs : s.size ≤ 9223372036854775806) (w : World) :
    Calls Try.prog 41 #[.agg #[.int .u64 x, .int .u64 y], .string s] w fun e w' => e = .returned (.bool (allIn x y s.data.toList)) ∧ Below w.heap.size w w' := by
  have hmx : Try.prog.follows .mixedOrders = true := by kernel_rfl
  go_enter Try.func41, Try.ntmps41
  go_wp2_with fail
  obtain ⟨w1, hw1⟩ : ∃ w1, w1 = w.alloc (.cells #[.int .u64 x, .int .u64 y] 51) := ⟨_, rfl⟩
  have HB1 := hid (show Below w.heap.size w w1 by rw [hw1]; exact (Below.refl _ _).alloc (Nat.le_refl _) _)
  have HC1 := hid (show w1.cell? ⟨w.heap.size, 0, none⟩ = some (.int .u64 x) by rw [hw1]; simp [go_sem])
  have HC2 := hid (show w1.cell? ⟨w.heap.size, 1, none⟩ = some (.int .u64 y) by rw [hw1]; simp [go_sem])
  have HS1 := hid (show w.heap.size < w1.heap.size by rw [hw1]; simp)
  rw [← hw1]
  clear hw1
  generalize hB : w.heap.size = B at *
  go_loopw [8] (fun iv wr => ∃ k : Nat, k ≤ s.size ∧ iv = .int .i64 (k : Int) ∧ Hid (Below w1.heap.size w1 wr) ∧ Hid (∀ (j : Nat) (hj : j < s.size), j < k → inSet x y s[j].toNat = true)) (fun iv _ => s.size - (intOf iv).toNat)
  case atStart => exact ⟨0, by omega, rfl, hid (Below.refl _ _), hid (fun j _ hj => by omega)⟩
  case round =>
    obtain ⟨k, hk, rfl, HB, HN⟩ := hrel
    by_cases hlt : k < s.size
    · obtain ⟨c, hc⟩ : ∃ c, c = s[k].toNat := ⟨_, rfl⟩
      have hc8 : c < 256 := by rw [hc]; exact s[k].toNat_lt
      have HCk := hid hc.symm
      have HBd := hid (show Below w1.heap.size w1 wr.drew from HB.out.drew)
      have C0 := hid ((HBd.out.cell (p := ⟨B, 0, none⟩) HS1.out).trans HC1.out)
      have C1 := hid ((HBd.out.cell (p := ⟨B, 1, none⟩) HS1.out).trans HC2.out)
      have HA := hid (show Below w1.heap.size w1 (wr.drew.alloc (.cells #[.int .u64 x, .int .u64 y] 51)) from HBd.out.alloc HBd.out.size _)
      obtain ⟨W1, hW1⟩ : ∃ W1, W1 = wr.drew.alloc (.cells #[.int .u64 x, .int .u64 y] 51) := ⟨_, rfl⟩
      rw [← hW1] at HA
      have HW1 := hid hW1
      clear hW1
      have hVal := hid (fun w => has_any x y c hc8 w)
      have h3 : (k : Int) < (s.size : Int) := by omega
      by_cases hv : inSet x y c = true
      · rw [hv] at hVal
        have HNext := hid (show ∀ (j : Nat) (hj : j < s.size), j < k + 1 → inSet x y s[j].toNat = true from fun j hj hjk => by
          by_cases e : j = k
          · subst e; rw [HCk.out]; exact hv
          · exact HN.out j hj (by omega))
        clear hv HN hc
        go_wp2_with fail
        obtain ⟨Ws, w0, w4⟩ : ∃ Ws : Nat → World, Ws 0 = wr.drew ∧ Ws 1 = W1 := ⟨fun q => match q with | 0 => wr.drew | _ => W1, rfl, rfl⟩
        refine (wpIn_wide (n := 5)).1 ?_
        refine wpIn_region_plan_v (ro := none) (aF := ?aF) [.agg #[.int .u64 x, .int .u64 y], .string s, .int .i64 (k : Int), .int .u8 (c : Int), .bool true, .bool false] ?hE [] [4] [[(0, 0)], [(0, 0)], [(0, 0)], [(0, 0)], [(0, 1)], [(1, 1)]] Ws 18 ?hN hmx (by kernel_rfl) (by kernel_rfl) ?haF w0 ?st ?fin
        case hE =>
          go_simp
          rfl
        case hN => kernel_rfl
        case haF => kernel_rfl
        case st =>
         refine StepsP.cons rfl (step1 ?s0) (StepsP.cons rfl (step1 ?s1) (StepsP.cons rfl (step1 ?s2) (StepsP.cons rfl (step1 ?s3) (StepsP.cons rfl (step1 ?s4) (StepsP.cons rfl (step1 ?s5) StepsP.nil)))))
         case s0 =>
          rw [w0]
          refine StepP.want (by kernel_rfl) ?_
          have c0 := C0.out
          have c1 := C1.out
          go_simp
         case s1 =>
          rw [w0]
          refine StepP.want (by kernel_rfl) ?_
          go_simp
         case s2 =>
          rw [w0]
          refine StepP.want (by kernel_rfl) ?_
          go_simp
         case s3 =>
          rw [w0]
          refine StepP.want (by kernel_rfl) ?_
          have c0 := hlt
          have c1 := HCk.out
          go_simp
         case s4 =>
          rw [w0, w4]
          refine StepP.want (by kernel_rfl) ?_
          go_simp
          refine (hVal.out _).mono ?_
          rintro e w7 ⟨rfl, rfl⟩
          exact ⟨rfl, HW1.out.symm⟩
         case s5 =>
          rw [w4]
          refine StepP.want (by kernel_rfl) ?_
          go_simp
        case fin =>
          have e9 : Ws ([4] : List Nat).length = W1 := w4
          rw [e9]
          clear e9 w0 w4
          go_wp2_with fail
          go_roundw
          case rel => exact ⟨k + 1, by omega, by go_num, HA, HNext⟩
          case measure => simp [intOf]; omega
      · have hv : inSet x y c = false := by simpa using hv
        rw [hv] at hVal
        have HF := hid (allIn_no hlt (show inSet x y s[k].toNat = false by rw [HCk.out]; exact hv))
        clear hv HN hc
        go_wp2_with fail
        obtain ⟨Ws, w0, w4⟩ : ∃ Ws : Nat → World, Ws 0 = wr.drew ∧ Ws 1 = W1 := ⟨fun q => match q with | 0 => wr.drew | _ => W1, rfl, rfl⟩
        refine (wpIn_wide (n := 5)).1 ?_
        refine wpIn_region_plan_v (ro := none) (aF := ?aFb) [.agg #[.int .u64 x, .int .u64 y], .string s, .int .i64 (k : Int), .int .u8 (c : Int), .bool false, .bool true] ?hEb [] [4] [[(0, 0)], [(0, 0)], [(0, 0)], [(0, 0)], [(0, 1)], [(1, 1)]] Ws 18 ?hNb hmx (by kernel_rfl) (by kernel_rfl) ?haFb w0 ?stb ?finb
        case hEb =>
          go_simp
          rfl
        case hNb => kernel_rfl
        case haFb => kernel_rfl
        case stb =>
         refine StepsP.cons rfl (step1 ?s0b) (StepsP.cons rfl (step1 ?s1b) (StepsP.cons rfl (step1 ?s2b) (StepsP.cons rfl (step1 ?s3b) (StepsP.cons rfl (step1 ?s4b) (StepsP.cons rfl (step1 ?s5b) StepsP.nil)))))
         case s0b =>
          rw [w0]
          refine StepP.want (by kernel_rfl) ?_
          have c0 := C0.out
          have c1 := C1.out
          go_simp
         case s1b =>
          rw [w0]
          refine StepP.want (by kernel_rfl) ?_
          go_simp
         case s2b =>
          rw [w0]
          refine StepP.want (by kernel_rfl) ?_
          go_simp
         case s3b =>
          rw [w0]
          refine StepP.want (by kernel_rfl) ?_
          have c0 := hlt
          have c1 := HCk.out
          go_simp
         case s4b =>
          rw [w0, w4]
          refine StepP.want (by kernel_rfl) ?_
          go_simp
          refine (hVal.out _).mono ?_
          rintro e w7 ⟨rfl, rfl⟩
          exact ⟨rfl, HW1.out.symm⟩
         case s5b =>
          rw [w4]
          refine StepP.want (by kernel_rfl) ?_
          go_simp
        case finb =>
          have e9 : Ws ([4] : List Nat).length = W1 := w4
          rw [e9]
          clear e9 w0 w4
          go_wp2_with fail
          go_ret
          exact ⟨by rw [HF.out]; rfl, by rw [hB]; exact HB1.out.trans (HA.out.mono (Nat.le_of_lt HS1.out))⟩
    · obtain rfl : k = s.size := by omega
      have h3 : ¬ (s.size : Int) < (s.size : Int) := by omega
      have HT := hid (allIn_yes (fun j hj => HN.out j hj hj))
      go_wp2_with fail
      go_ret
      exact ⟨by rw [HT.out]; rfl, HB1.out.trans (HB.out.mono (Nat.le_of_lt HS1.out))⟩

def c0 : List UInt8 → Nat
  | [] => 0
  | c :: _ => c.toNat
/-- a name -/
def nameL (l : List UInt8) : Bool := decide (l.length ≠ 0) && (decide (l.length ≤ 40) && (decide (c0 l ≠ 45) && (decide (c0 l ≠ 46) && allIn 288063250384289792 576460745995190270 l)))
theorem c0_at (s : ByteArray) (h : 0 < s.size) : s[0].toNat = c0 s.data.toList := by
  obtain ⟨⟨l⟩⟩ := s
  cases l with
  | nil => exact absurd h (by decide)
  | cons a t => rfl
theorem data_size (s : ByteArray) : s.data.toList.length = s.size := (Lib.size_eq s).symm
theorem toList_ne (s : ByteArray) (h : s.size ≠ 0) : ¬ s.toList = [] := fun e => h (by rw [Lib.size_eq, ← Lib.toList_data, e]; rfl)
theorem size_zero (s : ByteArray) (h : s.size = 0) : s = ⟨#[]⟩ := by
  rw [Lib.size_eq] at h
  rw [← Lib.mk_data s, List.eq_nil_of_length_eq_zero h]
set_option maxHeartbeats 2000000 in
theorem name_any (s : ByteArray) (hs : s.size ≤ 9223372036854775806) (w : World) :
    Calls Try.prog 16 #[.string s] w fun e w' => e = .returned (.bool (nameL s.data.toList)) ∧ Below w.heap.size w w' := by
  have hl := data_size s
  unfold nameL
  rw [hl]
  by_cases h0 : s.size = 0
  · have := size_zero s h0
    subst this
    clear hs hl h0
    go_enter Try.func16, Try.ntmps16
    go_wp2_with fail
    go_ret
    exact ⟨rfl, Below.refl _ _⟩
  have hp : 0 < s.size := by omega
  have HC := c0_at s hp
  rw [decide_eq_true h0, Bool.true_and, ← HC]
  have hne := toList_ne s h0
  have hne2 : s.toList.isEmpty = false := by simpa using hne
  clear HC hl
  by_cases h1 : s.size ≤ 40
  · have h1' : (s.size : Int) ≤ 40 := by omega
    rw [decide_eq_true h1, Bool.true_and]
    by_cases h2 : s[0].toNat = 45
    · rw [decide_eq_false (by omega), Bool.false_and]
      have h2' : (s[0].toNat : Int) = 45 := by omega
      go_enter Try.func16, Try.ntmps16
      go_wp2_with fail
      go_ret
      exact ⟨rfl, Below.refl _ _⟩
    · rw [decide_eq_true h2, Bool.true_and]
      have h2' : ¬ (s[0].toNat : Int) = 45 := by omega
      by_cases h3 : s[0].toNat = 46
      · rw [decide_eq_false (by omega), Bool.false_and]
        have h3' : (s[0].toNat : Int) = 46 := by omega
        go_enter Try.func16, Try.ntmps16
        go_wp2_with fail
        go_ret
        exact ⟨rfl, Below.refl _ _⟩
      · rw [decide_eq_true h3, Bool.true_and]
        have h3' : ¬ (s[0].toNat : Int) = 46 := by omega
        have g2 : ((s[0].toNat : Int) != 45) = true := bne_iff_ne.2 h2'
        have g3 : ((s[0].toNat : Int) != 46) = true := bne_iff_ne.2 h3'
        have HA := hid (hasAll_any 288063250384289792 576460745995190270 s hs)
        go_enter Try.func16, Try.ntmps16
        go_wp2_with fail
        refine (bytes_any _).mono ?_
        rintro e w1 ⟨rfl, hb1⟩
        have HB1 := hid hb1
        clear hb1
        go_wp2_with fail
        refine (HA.out _).mono ?_
        rintro e w2 ⟨rfl, hb2⟩
        have HB2 := hid (bt HB1.out hb2)
        clear hb2
        go_wp2_with fail
        go_ret
        exact ⟨rfl, HB2.out⟩
  · have h1' : ¬ (s.size : Int) ≤ 40 := by omega
    rw [decide_eq_false h1, Bool.false_and]
    go_enter Try.func16, Try.ntmps16
    go_wp2_with fail
    go_ret
    exact ⟨rfl, Below.refl _ _⟩

def isLeg (c : Nat) : Bool := decide (48 ≤ c) && decide (c ≤ 55)
/-- what strip returns where no text of the four ends the name -/
def legL (l : List UInt8) : List UInt8 × Bool :=
  match l.getLast? with
  | none => (l, false)
  | some c => if isLeg c.toNat then (if Lib.hasSuffix l.dropLast sLeg then (Lib.trimSuffix l.dropLast sLeg, true) else (l, false)) else (l, false)
def stripL (l : List UInt8) : List UInt8 × Bool :=
  if Lib.hasSuffix l sLog then (Lib.trimSuffix l sLog, true) else
  if Lib.hasSuffix l sData then (Lib.trimSuffix l sData, true) else
  if Lib.hasSuffix l sMeta then (Lib.trimSuffix l sMeta, true) else
  if Lib.hasSuffix l sSpare then (Lib.trimSuffix l sSpare, true) else legL l
theorem cut_hit (s : ByteArray) (p : List UInt8) (hs : s.size ≤ 9223372036854775807) (h : Lib.hasSuffix s.data.toList p = true) (w : World) :
    Calls Try.prog 49 #[.string s, .string (bs p)] w fun e w' => e = .returned (.tuple #[.string (bs (Lib.trimSuffix s.data.toList p)), .bool true]) ∧ w' = w := by
  have := cut_any s (bs p) w hs
  unfold cutS at this
  rw [bs_data, h] at this
  exact this
theorem cut_miss (s : ByteArray) (p : List UInt8) (hs : s.size ≤ 9223372036854775807) (h : Lib.hasSuffix s.data.toList p = false) (w : World) :
    Calls Try.prog 49 #[.string s, .string (bs p)] w fun e w' => e = .returned (.tuple #[.string s, .bool false]) ∧ w' = w := by
  have := cut_any s (bs p) w hs
  unfold cutS Lib.trimSuffix at this
  rw [bs_data, h, if_neg (by simp), bs_self] at this
  exact this
/-- the four texts -/
def sx : Nat → List UInt8
  | 0 => sLog
  | 1 => sData
  | 2 => sMeta
  | _ => sSpare
theorem strip_hit (l : List UInt8) (k : Nat) (hk : k < 4) (h0 : ∀ j, j < k → Lib.hasSuffix l (sx j) = false) (h : Lib.hasSuffix l (sx k) = true) : stripL l = (Lib.trimSuffix l (sx k), true) := by
  unfold stripL
  match k, hk with
  | 0, _ => rw [show sLog = sx 0 from rfl, if_pos h]
  | 1, _ => rw [show sLog = sx 0 from rfl, h0 0 (by omega), if_neg (by simp), show sData = sx 1 from rfl, if_pos h]
  | 2, _ => rw [show sLog = sx 0 from rfl, h0 0 (by omega), if_neg (by simp), show sData = sx 1 from rfl, h0 1 (by omega), if_neg (by simp), show sMeta = sx 2 from rfl, if_pos h]
  | 3, _ => rw [show sLog = sx 0 from rfl, h0 0 (by omega), if_neg (by simp), show sData = sx 1 from rfl, h0 1 (by omega), if_neg (by simp), show sMeta = sx 2 from rfl, h0 2 (by omega), if_neg (by simp), show sSpare = sx 3 from rfl, if_pos h]
theorem strip_leg (l : List UInt8) (h0 : ∀ j, j < 4 → Lib.hasSuffix l (sx j) = false) : stripL l = legL l := by
  unfold stripL
  rw [show sLog = sx 0 from rfl, h0 0 (by omega), if_neg (by simp), show sData = sx 1 from rfl, h0 1 (by omega), if_neg (by simp), show sMeta = sx 2 from rfl, h0 2 (by omega), if_neg (by simp), show sSpare = sx 3 from rfl, h0 3 (by omega), if_neg (by simp)]
theorem leg_size (s : ByteArray) (n : Nat) (h : s.size = n + 1) : legL s.data.toList = if isLeg s[n].toNat then (if Lib.hasSuffix s.data.toList.dropLast sLeg then (Lib.trimSuffix s.data.toList.dropLast sLeg, true) else (s.data.toList, false)) else (s.data.toList, false) := by
  have hl : s.data.toList.length = n + 1 := by rw [data_size]; exact h
  have h1 : s.data.toList.getLast? = some s[n] := by
    rw [List.getLast?_eq_getElem?, hl, Nat.add_sub_cancel, List.getElem?_eq_getElem (by omega)]
    simp [ByteArray.getElem_eq_getElem_data]
  unfold legL
  rw [h1]
theorem ix0 (w : World) : (Instr.index 55 (.agg #[.string (bs sLog), .string (bs sData), .string (bs sMeta), .string (bs sSpare)]) (.int .i64 0)).run Try.prog w = .ok (.string (bs (sx 0))) w := by kernel_rfl
theorem ix1 (w : World) : (Instr.index 55 (.agg #[.string (bs sLog), .string (bs sData), .string (bs sMeta), .string (bs sSpare)]) (.int .i64 1)).run Try.prog w = .ok (.string (bs (sx 1))) w := by kernel_rfl
theorem ix2 (w : World) : (Instr.index 55 (.agg #[.string (bs sLog), .string (bs sData), .string (bs sMeta), .string (bs sSpare)]) (.int .i64 2)).run Try.prog w = .ok (.string (bs (sx 2))) w := by kernel_rfl
theorem ix3 (w : World) : (Instr.index 55 (.agg #[.string (bs sLog), .string (bs sData), .string (bs sMeta), .string (bs sSpare)]) (.int .i64 3)).run Try.prog w = .ok (.string (bs (sx 3))) w := by kernel_rfl
theorem ext_last (s : ByteArray) (n : Nat) (h : s.size = n + 1) : (s.extract 0 n).data.toList = s.data.toList.dropLast := by
  rw [Lib.extract_data, List.drop_zero, Nat.sub_zero, List.dropLast_eq_take, data_size, h, Nat.add_sub_cancel]
set_option maxHeartbeats 4000000 in
theorem strip_any (s : ByteArray) (hs : s.size ≤ 9223372036854775806) (w : World) :
    Calls Try.prog 38 #[.string s] w fun e w' => e = .returned (.tuple #[.string (bs (stripL s.data.toList).1), .bool (stripL s.data.toList).2]) ∧ Below w.heap.size w w' := by
  go_enter Try.func38, Try.ntmps38
  go_wp2_with fail
  refine (texts_any _).mono ?_
  rintro e w1 ⟨rfl, hb1⟩
  have HB1 := hid hb1
  clear hb1
  go_wp2_with fail
  go_loop [12] (fun iv => ∃ k : Nat, k ≤ 4 ∧ iv = .int .i64 (k : Int) ∧ Hid (∀ j, j < k → Lib.hasSuffix s.data.toList (sx j) = false)) (fun iv => 4 - (intOf iv).toNat)
  case atStart => exact ⟨0, by omega, rfl, hid (fun j hj => by omega)⟩
  case round =>
    obtain ⟨k, hk, rfl, HN⟩ := hrel
    by_cases h4 : k = 4
    · subst h4
      have HL := hid (strip_leg _ HN.out)
      clear HN hk
      by_cases h0 : s.size = 0
      · have := size_zero s h0
        subst this
        go_wp2_with fail
        go_ret2
        exact ⟨by rw [HL.out]; rfl, HB1.out⟩
      obtain ⟨n, hn⟩ : ∃ n, s.size = n + 1 := ⟨s.size - 1, by omega⟩
      have HE := hid (leg_size s n hn)
      have hnl : n < s.size := by omega
      have hni : (s.size : Int) - 1 = (n : Int) := by omega
      by_cases hc1 : 48 ≤ s[n].toNat
      · have d1 : (48 : Int) ≤ (s[n].toNat : Int) := by omega
        by_cases hc2 : s[n].toNat ≤ 55
        · have d2 : (s[n].toNat : Int) ≤ 55 := by omega
          rw [show isLeg s[n].toNat = true by unfold isLeg; rw [decide_eq_true hc1, decide_eq_true hc2]; rfl, if_pos rfl] at HE
          have hx : (s.extract 0 n).size ≤ 9223372036854775807 := by simp; omega
          have hE := ext_last s n hn
          by_cases hS : Lib.hasSuffix (s.extract 0 n).data.toList sLeg = true
          · have HX := hid (fun w => cut_hit (s.extract 0 n) sLeg hx hS w)
            rw [← hE, if_pos hS] at HE
            have hE := hid hE
            go_wp2_with fail
            refine (HX.out _).mono ?_
            rintro e w2 ⟨rfl, rfl⟩
            go_wp2_with fail
            go_ret2
            exact ⟨by rw [HL.out, HE.out, hE.out]; rfl, HB1.out⟩
          · have hS : Lib.hasSuffix (s.extract 0 n).data.toList sLeg = false := by simpa using hS
            have HX := hid (fun w => cut_miss (s.extract 0 n) sLeg hx hS w)
            rw [← hE, hS, if_neg (by simp)] at HE
            have hE := hid hE
            go_wp2_with fail
            refine (HX.out _).mono ?_
            rintro e w2 ⟨rfl, rfl⟩
            go_wp2_with fail
            go_ret2
            exact ⟨by rw [HL.out, HE.out, bs_self]; rfl, HB1.out⟩
        · have d2 : ¬ (s[n].toNat : Int) ≤ 55 := by omega
          rw [show isLeg s[n].toNat = false by unfold isLeg; rw [decide_eq_false hc2, Bool.and_false], if_neg (by simp)] at HE
          go_wp2_with fail
          go_ret2
          exact ⟨by rw [HL.out, HE.out, bs_self]; rfl, HB1.out⟩
      · have d1 : ¬ (48 : Int) ≤ (s[n].toNat : Int) := by omega
        rw [show isLeg s[n].toNat = false by unfold isLeg; rw [decide_eq_false hc1, Bool.false_and], if_neg (by simp)] at HE
        go_wp2_with fail
        go_ret2
        exact ⟨by rw [HL.out, HE.out, bs_self]; rfl, HB1.out⟩
    · have hcase : k = 0 ∨ k = 1 ∨ k = 2 ∨ k = 3 := by omega
      by_cases hS : Lib.hasSuffix s.data.toList (sx k) = true
      · have HL := hid (strip_hit _ k (by omega) HN.out hS)
        have HX := hid (fun w => cut_hit s (sx k) (by omega) hS w)
        clear HN hS h4
        have j0 := ix0
        have j1 := ix1
        have j2 := ix2
        have j3 := ix3
        rcases hcase with rfl | rfl | rfl | rfl
        all_goals
          go_wp2_with fail
          refine (HX.out _).mono ?_
          rintro e w2 ⟨rfl, rfl⟩
          go_wp2_with fail
          go_ret2
          exact ⟨by rw [HL.out]; rfl, HB1.out⟩
      · have hS : Lib.hasSuffix s.data.toList (sx k) = false := by simpa using hS
        have HX := hid (fun w => cut_miss s (sx k) (by omega) hS w)
        have HN2 := hid (show ∀ j, j < k + 1 → Lib.hasSuffix s.data.toList (sx j) = false from fun j hj => by
          by_cases e : j = k
          · rw [e]; exact hS
          · exact HN.out j (by omega))
        clear HN hS h4
        have j0 := ix0
        have j1 := ix1
        have j2 := ix2
        have j3 := ix3
        rcases hcase with rfl | rfl | rfl | rfl
        all_goals
          go_wp2_with fail
          refine (HX.out _).mono ?_
          rintro e w2 ⟨rfl, rfl⟩
          go_wp2_with fail
          go_round
          case rel => first | exact ⟨1, by omega, rfl, HN2⟩ | exact ⟨2, by omega, rfl, HN2⟩ | exact ⟨3, by omega, rfl, HN2⟩ | exact ⟨4, by omega, rfl, HN2⟩
          case measure => simp [intOf]
end Go.Proofs.Ytdpclmogfnigdaa
