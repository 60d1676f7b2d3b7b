/- The reference's Leg, Part and FromHex. No conditions but those of each theorem. -/
import Derived.Test.YtdpclmogfnigdaaR
namespace Go.Proofs.Ytdpclmogfnigdaa
open Go.ChangeShapes Go.WideShapes Go.ChangeAt Go.RowKit
set_option linter.unusedVariables false
set_option linter.unusedSimpArgs false

set_option maxHeartbeats 4000000 in
theorem add_any (s p : ByteArray) (ok : Bool) (hs : s.size ≤ 9223372036854775806) (hp : p.size ≤ 100) (hsp : s.size + p.size ≤ 9223372036854775807) (w : World) :
    Calls Try.prog 45 #[.string s, .string p, .bool ok] w fun e w' => e = .returned (.tuple #[.string (bs (extL s.data.toList p.data.toList ok).1), .int .i64 (extL s.data.toList p.data.toList ok).2]) ∧ Below w.heap.size w w' := by
  have HV := hid (rvis_any s hs)
  have HH := hid (rhid_any s hs)
  have e1 : extL s.data.toList p.data.toList ok = if (visL s.data.toList || hidL s.data.toList) = false then ([], 10) else if ok = false then ([], 1) else if 40 < s.size + p.size then ([], 4) else (s.data.toList ++ p.data.toList, 0) := by
    unfold extL
    rw [data_size, data_size]
  generalize visL s.data.toList = vb at *
  generalize hidL s.data.toList = hb at *
  generalize extL s.data.toList p.data.toList ok = x at *
  have HE := hid e1
  have HA := hid (bs_app s p)
  clear e1
  cases vb with
  | true =>
    cases ok with
    | true =>
      by_cases h : 40 < s.size + p.size
      · have h1 : (40 : Int) < (s.size : Int) + (p.size : Int) := by omega
        rw [if_pos h] at HE
        go_enter Try.func45, Try.ntmps45
        go_wp2_with fail
        refine (HV.out _).mono ?_
        rintro e w1 ⟨rfl, hb1⟩
        have HB1 := hid hb1
        clear hb1
        go_wp2_with fail
        go_ret2
        exact ⟨by rw [HE.out]; rfl, HB1.out⟩
      · have h1 : ¬ (40 : Int) < (s.size : Int) + (p.size : Int) := by omega
        rw [if_neg h] at HE
        go_enter Try.func45, Try.ntmps45
        go_wp2_with fail
        refine (HV.out _).mono ?_
        rintro e w1 ⟨rfl, hb1⟩
        have HB1 := hid hb1
        clear hb1
        go_wp2_with fail
        go_ret2
        exact ⟨by rw [HE.out, HA.out]; rfl, HB1.out⟩
    | false =>
      go_enter Try.func45, Try.ntmps45
      go_wp2_with fail
      refine (HV.out _).mono ?_
      rintro e w1 ⟨rfl, hb1⟩
      have HB1 := hid hb1
      clear hb1
      go_wp2_with fail
      go_ret2
      exact ⟨by rw [HE.out]; rfl, HB1.out⟩
  | false =>
    cases hb with
    | true =>
      cases ok with
      | true =>
        by_cases h : 40 < s.size + p.size
        · have h1 : (40 : Int) < (s.size : Int) + (p.size : Int) := by omega
          rw [if_pos h] at HE
          go_enter Try.func45, Try.ntmps45
          go_wp2_with fail
          refine (HV.out _).mono ?_
          rintro e w1 ⟨rfl, hb1⟩
          have HB1 := hid hb1
          clear hb1
          go_wp2_with fail
          refine (HH.out _).mono ?_
          rintro e w2 ⟨rfl, hb2⟩
          have HB2 := hid (bt HB1.out hb2)
          clear hb2
          go_wp2_with fail
          go_ret2
          exact ⟨by rw [HE.out]; rfl, HB2.out⟩
        · have h1 : ¬ (40 : Int) < (s.size : Int) + (p.size : Int) := by omega
          rw [if_neg h] at HE
          go_enter Try.func45, Try.ntmps45
          go_wp2_with fail
          refine (HV.out _).mono ?_
          rintro e w1 ⟨rfl, hb1⟩
          have HB1 := hid hb1
          clear hb1
          go_wp2_with fail
          refine (HH.out _).mono ?_
          rintro e w2 ⟨rfl, hb2⟩
          have HB2 := hid (bt HB1.out hb2)
          clear hb2
          go_wp2_with fail
          go_ret2
          exact ⟨by rw [HE.out, HA.out]; rfl, HB2.out⟩
      | false =>
        go_enter Try.func45, Try.ntmps45
        go_wp2_with fail
        refine (HV.out _).mono ?_
        rintro e w1 ⟨rfl, hb1⟩
        have HB1 := hid hb1
        clear hb1
        go_wp2_with fail
        refine (HH.out _).mono ?_
        rintro e w2 ⟨rfl, hb2⟩
        have HB2 := hid (bt HB1.out hb2)
        clear hb2
        go_wp2_with fail
        go_ret2
        exact ⟨by rw [HE.out]; rfl, HB2.out⟩
    | false =>
      go_enter Try.func45, Try.ntmps45
      go_wp2_with fail
      refine (HV.out _).mono ?_
      rintro e w1 ⟨rfl, hb1⟩
      have HB1 := hid hb1
      clear hb1
      go_wp2_with fail
      refine (HH.out _).mono ?_
      rintro e w2 ⟨rfl, hb2⟩
      have HB2 := hid (bt HB1.out hb2)
      clear hb2
      go_wp2_with fail
      go_ret2
      exact ⟨by rw [HE.out]; rfl, HB2.out⟩

def digs8 : ByteArray := ⟨#[48, 49, 50, 51, 52, 53, 54, 55]⟩
theorem one_leg (k : Nat) (hk : k < 8) : digs8.extract k (k + 1) = bs [(48 + (k : Int)).toNat.toUInt8] := by
  revert k
  decide +kernel
set_option maxHeartbeats 4000000 in
theorem rleg_any (s : ByteArray) (k : Int) (hs : s.size ≤ 9223372036854775000) (w : World) :
    Calls Try.prog 26 #[.string s, .int .i64 k] w fun e w' => e = .returned (.tuple #[.string (bs (legT s.data.toList k).1), .int .i64 (legT s.data.toList k).2]) ∧ Below w.heap.size w w' := by
  by_cases h1 : 0 ≤ k
  · by_cases h2 : k ≤ 7
    · have HE := hid (show legT s.data.toList k = extL s.data.toList (ltext (48 + k)).data.toList true by unfold legT; rw [decide_eq_true h1, decide_eq_true h2, ltext_data]; rfl)
      have HX := hid (fun w => add_any s (ltext (48 + k)) true (by omega) (by rw [ltext_size]; decide) (by rw [ltext_size]; omega) w)
      have hp : (({ data := #[95, 108, 101, 103] } : ByteArray) ++ bs [(48 + k).toNat.toUInt8]) = ltext (48 + k) := rfl
      have hsz := ltext_size (48 + k)
      have hi : digs8.extract k.toNat (k.toNat + 1) = bs [(48 + k).toNat.toUInt8] := by
        have := one_leg k.toNat (by omega)
        rw [this]
        congr 5
        omega
      have hk : k = (k.toNat : Int) := by omega
      have hu1 : (bs [(48 + k).toNat.toUInt8]).size = 1 := rfl
      generalize legT s.data.toList k = x at *
      generalize ltext (48 + k) = p at *
      generalize bs [(48 + k).toNat.toUInt8] = u at *
      generalize k.toNat = m at *
      subst hk
      unfold digs8 at hi
      go_enter Try.func26, Try.ntmps26
      go_wp2_with fail
      refine (HX.out _).mono ?_
      rintro e w2 ⟨rfl, hb2⟩
      have HB2 := hid hb2
      clear hb2
      go_wp2_with fail
      go_ret2
      exact ⟨by rw [HE.out]; rfl, HB2.out⟩
    · have HE := hid (show legT s.data.toList k = extL s.data.toList (ltext 48).data.toList false by unfold legT; rw [decide_eq_false h2, Bool.and_false]; exact ext_false _ _ _)
      have HX := hid (fun w => add_any s (ltext 48) false (by omega) (by rw [ltext_size]; decide) (by rw [ltext_size]; omega) w)
      have hp : (({ data := #[95, 108, 101, 103] } : ByteArray) ++ ⟨#[48]⟩) = ltext 48 := rfl
      have hsz := ltext_size 48
      generalize legT s.data.toList k = x at *
      generalize ltext 48 = p at *
      go_enter Try.func26, Try.ntmps26
      go_wp2_with fail
      refine (HX.out _).mono ?_
      rintro e w2 ⟨rfl, hb2⟩
      have HB2 := hid hb2
      clear hb2
      go_wp2_with fail
      go_ret2
      exact ⟨by rw [HE.out]; rfl, HB2.out⟩
  · have HE := hid (show legT s.data.toList k = extL s.data.toList (ltext 48).data.toList false by unfold legT; rw [decide_eq_false h1, Bool.false_and]; exact ext_false _ _ _)
    have HX := hid (fun w => add_any s (ltext 48) false (by omega) (by rw [ltext_size]; decide) (by rw [ltext_size]; omega) w)
    have hp : (({ data := #[95, 108, 101, 103] } : ByteArray) ++ ⟨#[48]⟩) = ltext 48 := rfl
    have hsz := ltext_size 48
    generalize legT s.data.toList k = x at *
    generalize ltext 48 = p at *
    go_enter Try.func26, Try.ntmps26
    go_wp2_with fail
    refine (HX.out _).mono ?_
    rintro e w2 ⟨rfl, hb2⟩
    have HB2 := hid hb2
    clear hb2
    go_wp2_with fail
    go_ret2
    exact ⟨by rw [HE.out]; rfl, HB2.out⟩
def qcells : Array Value := #[.string ⟨#[95, 108, 111, 103]⟩, .string ⟨#[95, 100, 97, 116, 97]⟩, .string ⟨#[95, 109, 101, 116, 97]⟩, .string ⟨#[95, 115, 112, 97, 114, 101]⟩]
theorem qcells_at : ∀ k, k < 4 → qcells[k]? = some (.string (bs (sx k))) := by
  intro k hk
  match k, hk with
  | 0, _ => rfl
  | 1, _ => rfl
  | 2, _ => rfl
  | 3, _ => rfl
set_option maxHeartbeats 4000000 in
theorem rpart_any (s : ByteArray) (k : Int) (hs : s.size ≤ 9223372036854775000) (w : World) :
    Calls Try.prog 27 #[.string s, .int .i64 k] w fun e w' => e = .returned (.tuple #[.string (bs (partL s.data.toList k).1), .int .i64 (partL s.data.toList k).2]) ∧ Below w.heap.size w w' := by
  by_cases h1 : 1 ≤ k
  · by_cases h2 : k ≤ 4
    · obtain ⟨m, rfl, hm⟩ : ∃ m : Nat, k = (m : Int) + 1 ∧ m < 4 := ⟨(k - 1).toNat, by omega, by omega⟩
      have em : (((m : Int) + 1) - 1).toNat = m := by omega
      have HE := hid (show partL s.data.toList ((m : Int) + 1) = extL s.data.toList (sx m) true by unfold partL; rw [decide_eq_true h1, decide_eq_true h2, em]; rfl)
      have hsz : (bs (sx m)).size ≤ 100 := by rw [bs_size]; have := (suf_len5 (.part m hm)).2; omega
      have HX := hid (fun w => add_any s (bs (sx m)) true (by omega) hsz (by omega) w)
      simp only [bs_data] at HX
      have HX := hid HX.out
      have hc : ∀ w : World, (w.alloc (.cells qcells 9)).cell? ⟨w.heap.size, m, none⟩ = some (.string (bs (sx m))) := fun w => by rw [cell_of_row _ _ _ qcells 9 (0, 0) (heap_alloc_new _ _), qcells_at m hm]
      unfold qcells at hc
      generalize partL s.data.toList ((m : Int) + 1) = x at *
      clear em
      go_enter Try.func27, Try.ntmps27
      go_wp2_with fail
      refine (HX.out _).mono ?_
      rintro e w2 ⟨rfl, hb2⟩
      have HB2 := hid (((Below.refl w.heap.size w).alloc (Nat.le_refl _) _).trans (hb2.mono (by simp)))
      clear hb2
      go_wp2_with fail
      go_ret2
      exact ⟨by rw [HE.out]; rfl, HB2.out⟩
    · have HE := hid (show partL s.data.toList k = extL s.data.toList sLog false by unfold partL; rw [decide_eq_false h2, Bool.and_false]; exact ext_false _ _ _)
      have HX := hid (fun w => add_any s ⟨#[95, 108, 111, 103]⟩ false (by omega) (by decide) (by show s.size + 4 ≤ _; omega) w)
      generalize partL s.data.toList k = x at *
      go_enter Try.func27, Try.ntmps27
      go_wp2_with fail
      refine (HX.out _).mono ?_
      rintro e w2 ⟨rfl, hb2⟩
      have HB2 := hid hb2
      clear hb2
      go_wp2_with fail
      go_ret2
      exact ⟨by rw [HE.out]; rfl, HB2.out⟩
  · have HE := hid (show partL s.data.toList k = extL s.data.toList sLog false by unfold partL; rw [decide_eq_false h1, Bool.false_and]; exact ext_false _ _ _)
    have HX := hid (fun w => add_any s ⟨#[95, 108, 111, 103]⟩ false (by omega) (by decide) (by show s.size + 4 ≤ _; omega) w)
    generalize partL s.data.toList k = x at *
    go_enter Try.func27, Try.ntmps27
    go_wp2_with fail
    refine (HX.out _).mono ?_
    rintro e w2 ⟨rfl, hb2⟩
    have HB2 := hid hb2
    clear hb2
    go_wp2_with fail
    go_ret2
    exact ⟨by rw [HE.out]; rfl, HB2.out⟩

theorem dig_num (c : Nat) (h0 : 48 ≤ c) (h1 : c ≤ 57) : digV c.toUInt8 = ((c - 48 : Nat) : Int) := by
  have h : ∀ n : Fin 10, digV (48 + n.val).toUInt8 = (n.val : Int) := by decide +kernel
  have := h ⟨c - 48, by omega⟩
  simp only at this
  rw [show 48 + (c - 48) = c by omega] at this
  exact this
theorem dig_let (c : Nat) (h0 : 97 ≤ c) (h1 : c ≤ 102) : digV c.toUInt8 = ((c - 87 : Nat) : Int) := by
  have h : ∀ n : Fin 6, digV (97 + n.val).toUInt8 = ((10 + n.val : Nat) : Int) := by decide +kernel
  have := h ⟨c - 97, by omega⟩
  simp only at this
  rw [show 97 + (c - 97) = c by omega] at this
  rw [this]
  omega
theorem dig_none (c : Nat) (hc : c < 256) (h0 : ¬ (48 ≤ c ∧ c ≤ 57)) (h1 : ¬ (97 ≤ c ∧ c ≤ 102)) : digV c.toUInt8 < 0 := by
  have h : ∀ n : Fin 256, ¬ (48 ≤ n.val ∧ n.val ≤ 57) → ¬ (97 ≤ n.val ∧ n.val ≤ 102) → digV n.val.toUInt8 < 0 := by decide +kernel
  exact h ⟨c, hc⟩ h0 h1
set_option maxHeartbeats 8000000 in
theorem rfromhex_any (s : ByteArray) (w : World) :
    Calls Try.prog 29 #[.string s] w fun e w' => e = .returned (.tuple #[.int .u64 ((fhL s.data.toList).1 : Int), .int .i64 (fhL s.data.toList).2]) ∧ Below w.heap.size w w' := by
  have hl := data_size s
  by_cases h16 : s.size = 16
  · have HE := hid (show fhL s.data.toList = (match hv s.data.toList 0 with | none => (0, 2) | some x => (x, 0)) by unfold fhL; rw [if_pos (by omega)]; rfl)
    clear hl
    have h16' : (s.size : Int) = 16 := by omega
    go_enter Try.func29, Try.ntmps29
    go_wp2_with fail
    go_loopw [4, 5] (fun xv iv wr => ∃ k x : Nat, k ≤ 16 ∧ x < 16 ^ k ∧ xv = .int .u64 (x : Int) ∧ iv = .int .i64 (k : Int) ∧ Hid (hv s.data.toList 0 = hv (s.data.toList.drop k) x) ∧ Hid (Below w.heap.size w wr)) (fun _ iv _ => 16 - (intOf iv).toNat)
    case atStart => exact ⟨0, 0, by omega, by omega, rfl, rfl, hid rfl, hid (Below.refl _ _)⟩
    case round =>
      obtain ⟨k, x, hk, hx, rfl, rfl, HV, HB⟩ := hrel
      by_cases hlt : k < 16
      · have hlt' : (k : Int) < 16 := by omega
        have hks : k < s.size := by omega
        have hx2 : x < 1152921504606846976 := Nat.lt_of_lt_of_le hx (Nat.le_trans (Nat.pow_le_pow_right (by omega) (show k ≤ 15 by omega)) (by decide))
        have hx3 := HV.out.trans (hv_drop hks x)
        have HXX := hid hx
        obtain ⟨c, hc⟩ : ∃ c, c = s[k].toNat := ⟨_, rfl⟩
        have hc8 : c < 256 := by rw [hc]; exact s[k].toNat_lt
        have hcu : s[k] = c.toUInt8 := by rw [hc]; simp
        have hc2 := hc.symm
        rw [hcu] at hx3
        clear hcu hc HV hx
        have hcase : c < 48 ∨ (48 ≤ c ∧ c ≤ 57) ∨ (58 ≤ c ∧ c ≤ 96) ∨ (97 ≤ c ∧ c ≤ 102) ∨ 102 < c := by omega
        rcases hcase with hcc | hcc | hcc | hcc | hcc
        · rw [if_pos (dig_none c hc8 (by omega) (by omega))] at hx3
          have H3 := hid hx3
          have e1 : ¬ (48 : Int) ≤ (c : Int) := by omega
          have e2 : ¬ (97 : Int) ≤ (c : Int) := by omega
          clear hx3
          go_wp2_with fail
          go_ret2
          exact ⟨by rw [HE.out, H3.out]; rfl, HB.out⟩
        · rw [dig_num c hcc.1 hcc.2, if_neg (by omega), Int.toNat_natCast] at hx3
          have H3 := hid hx3
          have e1 : (48 : Int) ≤ (c : Int) := by omega
          have e2 : (c : Int) ≤ 57 := by omega
          have ed : (c : Int) - 48 = ((c - 48 : Nat) : Int) := by omega
          have ho := or_dig x (c - 48) hx2 (by omega)
          clear hx3
          go_wp2_with fail
          go_roundw
          case rel => exact ⟨k + 1, x * 16 + (c - 48), by omega, by rw [Nat.pow_succ]; have := HXX.out; omega, by go_num, by go_num, H3, HB⟩
          case measure => simp [intOf]; omega
        · rw [if_pos (dig_none c hc8 (by omega) (by omega))] at hx3
          have H3 := hid hx3
          have e1 : (48 : Int) ≤ (c : Int) := by omega
          have e2 : ¬ (c : Int) ≤ 57 := by omega
          have e3 : ¬ (97 : Int) ≤ (c : Int) := by omega
          clear hx3
          go_wp2_with fail
          go_ret2
          exact ⟨by rw [HE.out, H3.out]; rfl, HB.out⟩
        · rw [dig_let c hcc.1 hcc.2, if_neg (by omega), Int.toNat_natCast] at hx3
          have H3 := hid hx3
          have e1 : (48 : Int) ≤ (c : Int) := by omega
          have e2 : ¬ (c : Int) ≤ 57 := by omega
          have e3 : (97 : Int) ≤ (c : Int) := by omega
          have e4 : (c : Int) ≤ 102 := by omega
          have ed : (c : Int) - 97 + 10 = ((c - 87 : Nat) : Int) := by omega
          have ho := or_dig x (c - 87) hx2 (by omega)
          clear hx3
          go_wp2_with fail
          go_roundw
          case rel => exact ⟨k + 1, x * 16 + (c - 87), by omega, by rw [Nat.pow_succ]; have := HXX.out; omega, by go_num, by go_num, H3, HB⟩
          case measure => simp [intOf]; omega
        · rw [if_pos (dig_none c hc8 (by omega) (by omega))] at hx3
          have H3 := hid hx3
          have e1 : (48 : Int) ≤ (c : Int) := by omega
          have e2 : ¬ (c : Int) ≤ 57 := by omega
          have e3 : (97 : Int) ≤ (c : Int) := by omega
          have e4 : ¬ (c : Int) ≤ 102 := by omega
          clear hx3
          go_wp2_with fail
          go_ret2
          exact ⟨by rw [HE.out, H3.out]; rfl, HB.out⟩
      · obtain rfl : k = 16 := by omega
        have H3 := hid (show hv s.data.toList 0 = some x by rw [HV.out, List.drop_eq_nil_of_le (by rw [data_size]; omega)]; rfl)
        clear HV hx
        go_wp2_with fail
        go_ret2
        exact ⟨by rw [HE.out, H3.out]; rfl, HB.out⟩
  · have HE := hid (show fhL s.data.toList = (0, 2) by unfold fhL; rw [if_neg (by omega)])
    clear hl
    have h16' : ¬ (s.size : Int) = 16 := by omega
    go_enter Try.func29, Try.ntmps29
    go_wp2_with fail
    go_ret2
    exact ⟨by rw [HE.out]; rfl, Below.refl _ _⟩
end Go.Proofs.Ytdpclmogfnigdaa
