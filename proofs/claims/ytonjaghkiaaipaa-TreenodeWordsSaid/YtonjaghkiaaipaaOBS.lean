/- SetBit, Bit and Same of layer 2 and of the reference. No conditions but those of each theorem. -/
import Derived.Test.YtonjaghkiaaipaaOBB
namespace Go.Proofs.Ytonjaghkiaaipaa.OldB
open Go.ChangeShapes Go.WideShapes Go.ChangeAt Go.RowKit
set_option linter.unusedVariables false
set_option linter.unusedSimpArgs false

theorem vs_set (B : List Nat) (q v : Nat) : (vs B).set q (.int .u64 (v : Int)) = vs (B.set q v) := by
  simp [vs, List.map_set]
theorem vs_at (ws : List Nat) (j : Nat) (hj : j < ws.length) : (vs ws)[j]? = some (.int .u64 (ws[j]?.getD 0 : Nat)) := by
  simp [vs, List.getElem?_eq_getElem hj]
theorem set_getD (B : List Nat) (q v j : Nat) (hq : q < B.length) : (B.set q v)[j]?.getD 0 = if j = q then v else B[j]?.getD 0 := by
  rw [List.getElem?_set]
  by_cases e : q = j
  · subst e; simp [hq]
  · rw [if_neg e, if_neg (fun h => e h.symm)]
theorem own_some {w : World} {base : Nat} {v : Value} {n : Nat} {xs : List Value} (h : w.ownsRow base 38 1 v n xs) (hn : 0 < n) : ∃ g cap, v = .slice (some ⟨g, 0, none⟩) n cap := by
  rcases h.2 with ⟨hv, h0⟩ | ⟨g, cap, cur, hv, _⟩
  · omega
  · exact ⟨g, cap, hv⟩
theorem pw (r : Nat) : ((2 ^ r : Nat) : Int) = (2 : Int) ^ r := by rw [Int.natCast_pow]; rfl
theorem shl1 (r : Nat) (hr : r < 64) : IntKind.u64.wrap ((2 : Int) ^ r) = ((2 ^ r : Nat) : Int) := by
  have := pow_lt hr
  rw [show ((2 : Int) ^ r) = ((2 ^ r : Nat) : Int) by rw [Int.natCast_pow]; rfl]
  generalize 2 ^ r = y at this
  simp [IntKind.wrap, IntKind.bits, IntKind.signed]; omega
theorem cb_lt (x r : Nat) : x &&& (18446744073709551615 - 2 ^ r) < 18446744073709551616 := Nat.and_lt_two_pow (n := 64) _ (Nat.lt_of_le_of_lt (Nat.sub_le _ _) (by decide))

set_option maxHeartbeats 1000000 in
theorem drewN_add (w : World) (a b : Nat) : (w.drewN a).drewN b = w.drewN (a + b) := by
  simp [World.drewN, Nat.add_assoc]
theorem same_yes (a b : Option Addr) (len cap cap' : Nat) (n₀ : Nat) (ws : List Nat) (w : World) (hl : len ≤ 9223372036854775807) (hA : Wd n₀ w a len cap ws) (hB : Wd n₀ w b len cap' ws) :
    Calls Try.prog 16 #[.slice a len cap, .slice b len cap'] w fun e w' => e = .returned (.bool true) ∧ ∃ n, w' = w.drewN n := by
  have HA := hid hA
  have HB := hid hB
  clear hA hB
  go_enter Try.func16, Try.ntmps16
  go_wp2_with fail
  go_loopw [5] (fun iv wr => ∃ k n : Nat, k ≤ len ∧ iv = .int .i64 (k : Int) ∧ Hid (wr = w.drewN n)) (fun iv _ => len - (intOf iv).toNat)
  case atStart => exact ⟨0, 0, by omega, rfl, rfl⟩
  case round =>
    obtain ⟨k, m, hk, rfl, hw⟩ := hrel
    by_cases hlt : k < len
    · obtain ⟨b1, o1, rfl, _, c1⟩ := HA.out.2.2.2.resolve_left (by omega)
      obtain ⟨b2, o2, rfl, _, c2⟩ := HB.out.2.2.2.resolve_left (by omega)
      have t1 := c1 k hlt
      have t2 := c2 k hlt
      clear c1 c2
      have t3 : wr.cell? ⟨b1, o1 + k, none⟩ = some (.int .u64 (ws[k]?.getD 0 : Nat)) := by rw [hw.out]; exact t1
      have t4 : wr.cell? ⟨b2, o2 + k, none⟩ = some (.int .u64 (ws[k]?.getD 0 : Nat)) := by rw [hw.out]; exact t2
      clear t1 t2
      have h3 : (k : Int) < (len : Int) := by omega
      go_wp2_with fail
      go_quiet (fail)
      go_wp2_with fail
      go_roundw
      case rel => exact ⟨k + 1, m + nq, by omega, by go_num, by rw [hw.out]; exact drewN_add _ _ _⟩
      case measure => simp [intOf]; omega
    · obtain rfl : k = len := by omega
      have h3 : ¬ (k : Int) < (k : Int) := by omega
      go_wp2_with fail
      go_ret
      exact ⟨rfl, _, hw.out⟩
end Go.Proofs.Ytonjaghkiaaipaa.OldB
