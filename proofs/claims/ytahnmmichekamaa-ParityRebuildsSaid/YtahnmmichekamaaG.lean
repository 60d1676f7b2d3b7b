/- Rebuild of layer 18 and of the reference return the same, for all arguments; Update. No conditions but those of each theorem. -/
import Derived.Test.YtahnmmichekamaaE
namespace Go.Proofs.Ytahnmmichekamaa
open Go.ChangeShapes Go.WideShapes Go.ChangeAt Go.RowKit
set_option linter.unusedVariables false

theorem xn_split (zs : List Int) (m k : Nat) : xn zs (m + 1 + k) = xn zs m ^^^ (zs.getD m 0).toNat ^^^ xn (zs.drop (m + 1)) k := by
  induction k with
  | zero => simp [xn]
  | succ k ih =>
    rw [show m + 1 + (k + 1) = (m + 1 + k) + 1 by omega, xn, ih, xn]
    have : (zs.drop (m + 1)).getD k 0 = zs.getD (m + 1 + k) 0 := by simp [List.getD_eq_getElem?_getD]
    rw [this, Nat.xor_assoc]

theorem xo_split (zs : List Int) (h : ∀ j, 0 ≤ zs.getD j 0 ∧ zs.getD j 0 < 18446744073709551616) (m len : Nat) (hm : m < len) :
    bits .xor .u64 (xo zs m) (xo (zs.drop (m + 1)) (len - m - 1)) = bits .xor .u64 (xo zs len) (zs.getD m 0) := by
  have h' : ∀ j, 0 ≤ (zs.drop (m + 1)).getD j 0 ∧ (zs.drop (m + 1)).getD j 0 < 18446744073709551616 := fun j => by
    have : (zs.drop (m + 1)).getD j 0 = zs.getD (m + 1 + j) 0 := by simp [List.getD_eq_getElem?_getD]
    rw [this]; exact h _
  have a1 := xn_lt zs h m
  have a2 := xn_lt _ h' (len - m - 1)
  have a3 := xn_lt zs h len
  have a4 := h m
  rw [xo_xn zs h, xo_xn _ h', xo_xn zs h, u64_xor_nat _ _ (by omega) (by omega), u64_xor _ _ (by omega) (by omega) (by omega) (by omega)]
  congr 1
  rw [Int.toNat_natCast]
  have := xn_split zs m (len - m - 1)
  rw [show m + 1 + (len - m - 1) = len by omega] at this
  rw [this, Nat.xor_assoc, Nat.xor_assoc, Nat.xor_comm (xn (zs.drop (m + 1)) (len - m - 1)), ← Nat.xor_assoc (zs.getD m 0).toNat, Nat.xor_self, Nat.zero_xor]

theorem Sl.drewN {w : World} {a : Option Addr} {len : Nat} {zs : List Int} (h : Sl w a len zs) (n : Nat) : Sl (w.drewN n) a len zs := h

theorem rxor_q (a : Option Addr) (len cap : Nat) (zs : List Int) (w : World) (hbig : len ≤ 9223372036854775807) (hc : Sl w a len zs) :
    Calls Try.prog 17 #[.slice a len cap] w fun e w' => e = .returned (.int .u64 (xo zs len)) ∧ w' = w :=
  (rxor_any a len cap zs w hbig hc).mono fun _ _ ⟨he, hw⟩ => ⟨he, hw.symm⟩

theorem rrebuild_ok (a : Option Addr) (len cap : Nat) (zs : List Int) (m : Nat) (w : World) (hbig : len ≤ 9223372036854775807) (hlc : len ≤ cap) (hc : Sl w a len zs) (hm : m < len) :
    Calls Try.prog 15 #[.slice a len cap, .int .i64 m] w fun e w' => e = .returned (.tuple #[.int .u64 (bits .xor .u64 (xo zs m) (xo (zs.drop (m + 1)) (len - m - 1))), .int .i64 0]) ∧ Below w.heap.size w w' := by
  obtain ⟨b, off, rfl, hck⟩ := hc m hm
  have HC := hid hc
  clear hc hck
  have hm0 : ¬ (m : Int) < 0 := by omega
  have hm1 : ¬ (len : Int) ≤ (m : Int) := by omega
  go_enter Try.func15, Try.ntmps15
  have HC1 : Hid (Sl w (some ⟨b, off, none⟩) m zs) := fun j hj => HC.out j (by omega)
  have HC2 : Hid (Sl w (some ⟨b, off + (m + 1), none⟩) (len - (m + 1)) (zs.drop (m + 1))) := fun j hj => by
    obtain ⟨b', off', e, h⟩ := HC.out (m + 1 + j) (by omega)
    cases e
    refine ⟨b, _, rfl, ?_⟩
    have : (zs.drop (m + 1)).getD j 0 = zs.getD (m + 1 + j) 0 := by simp [List.getD_eq_getElem?_getD]
    rw [this, ← h, Nat.add_assoc]
  have HC3 : Hid (m + 1 = cap → Sl w (some ⟨b, off, none⟩) (len - (m + 1)) (zs.drop (m + 1))) := fun e j hj => by omega
  have b1 : m ≤ 9223372036854775807 := by omega
  have b2 : len - (m + 1) ≤ 9223372036854775807 := by omega
  by_cases hcap : m + 1 = cap
  · obtain rfl : cap = m + 1 := by omega
    obtain rfl : len = m + 1 := by omega
    clear hcap
    have Z : ∀ n, Sl (w.drewN n) (some ⟨b, off, none⟩) 0 [] := fun n j hj => by omega
    have HZ := hid Z
    clear Z
    go_wp2_with fail
    have d1 : IntKind.i64.wrap (↑m + 1) = ↑m + 1 := IntWalk.i64_in _ (by omega)
    have d2 : (0 : Int) ≤ ↑m + 1 := by omega
    have d3 : ((m : Int) + 1).toNat = m + 1 := by omega
    have d5 : (m : Int) ≤ ((m + 1 : Nat) : Int) := by omega
    go_quiet ((go_at_call 17; first | (with_reducible exact Calls.quiet_of_same (rxor_q (some ⟨b, off, none⟩) m _ zs _ b1 (Sl.drewN HC1.out _))) | (with_reducible exact Calls.quiet_of_same (rxor_q (some ⟨b, off, none⟩) 0 _ [] _ (Nat.zero_le _) (HZ.out _)))))
    clear d1 d2 d3 d5
    go_wp2
    go_ret2
    exact ⟨by rw [show m + 1 - m - 1 = 0 by omega]; rfl, below_drewN (Below.refl _ _) _⟩
  · go_wp2_with fail
    have d1 : IntKind.i64.wrap (↑m + 1) = ↑m + 1 := IntWalk.i64_in _ (by omega)
    have d2 : (0 : Int) ≤ ↑m + 1 := by omega
    have d3 : ((m : Int) + 1).toNat = m + 1 := by omega
    have d4 : (m : Int) + 1 ≤ (len : Int) := by omega
    have d5 : (m : Int) ≤ (cap : Int) := by omega
    have d6 : (m : Int) + 1 < (cap : Int) := by omega
    go_quiet ((go_at_call 17; first | (with_reducible exact Calls.quiet_of_same (rxor_q (some ⟨b, off, none⟩) m cap zs _ b1 (Sl.drewN HC1.out _))) | (with_reducible exact Calls.quiet_of_same (rxor_q (some ⟨b, off + (m + 1), none⟩) (len - (m + 1)) _ (zs.drop (m + 1)) _ b2 (Sl.drewN HC2.out _)))))
    clear d1 d2 d3 d4 d5 d6
    go_wp2
    go_ret2
    exact ⟨by rw [show len - m - 1 = len - (m + 1) by omega]; rfl, below_drewN (Below.refl _ _) _⟩

theorem rrebuild_no (a : Option Addr) (len cap : Nat) (m : Int) (w : World) (hm : m < 0 ∨ (len : Int) ≤ m) :
    Calls Try.prog 15 #[.slice a len cap, .int .i64 m] w fun e w' => e = .returned (.tuple #[.int .u64 0, .int .i64 1]) ∧ Below w.heap.size w w' := by
  by_cases h0 : m < 0
  · clear hm; go_enter Try.func15, Try.ntmps15; go_wp2; go_ret2; exact ⟨rfl, Below.refl _ _⟩
  have h1 : (len : Int) ≤ m := by omega
  clear hm; go_enter Try.func15, Try.ntmps15; go_wp2; go_ret2; exact ⟨rfl, Below.refl _ _⟩

theorem update_any (a b c : Int) (w : World) : Calls Try.prog 18 #[.int .u64 a, .int .u64 b, .int .u64 c] w fun e w' => e = .returned (.int .u64 (bits .xor .u64 (bits .xor .u64 a b) c)) ∧ w = w' := by
  go_enter Try.func18, Try.ntmps18
  go_wp2
  go_ret
  exact ⟨rfl, rfl⟩

theorem rebuilds (a : Option Addr) (len cap : Nat) (zs : List Int) (m : Int) (hbig : len ≤ 9223372036854775807) (hlc : len ≤ cap) (hz : ∀ j, 0 ≤ zs.getD j 0 ∧ zs.getD j 0 < 18446744073709551616) :
    ∃ v r : Int, (∀ w, Sl w a len zs → Calls Try.prog 14 #[.slice a len cap, .int .i64 m] w fun e w' => e = .returned (.tuple #[.int .u64 v, .int .i64 r]) ∧ Below w.heap.size w w') ∧
      (∀ w, Sl w a len zs → Calls Try.prog 15 #[.slice a len cap, .int .i64 m] w fun e w' => e = .returned (.tuple #[.int .u64 v, .int .i64 r]) ∧ Below w.heap.size w w') := by
  by_cases h : m < 0 ∨ (len : Int) ≤ m
  · exact ⟨0, 1, fun w _ => rebuild_no a len cap m w hbig (by omega), fun w _ => rrebuild_no a len cap m w h⟩
  · obtain ⟨k, rfl⟩ : ∃ k : Nat, m = k := ⟨m.toNat, by omega⟩
    refine ⟨_, 0, fun w hs => rebuild_ok a len cap zs k w hbig hs (by omega), fun w hs => ?_⟩
    have := rrebuild_ok a len cap zs k w hbig hlc hs (by omega)
    rwa [xo_split zs hz k len (by omega)] at this

theorem Sl.kept {w w' : World} {a : Option Addr} {len : Nat} {zs : List Int} (h : Sl w a len zs) (hb : Below w.heap.size w w') : Sl w' a len zs := by
  intro j hj
  obtain ⟨b, off, e, hc⟩ := h j hj
  have hB : b < w.heap.size := Nat.lt_of_not_le fun hge => by
    have hn : w.heap[b]? = none := by simp; omega
    simp [World.cell?, hn] at hc
  exact ⟨b, off, e, (hb.cell (p := ⟨b, off + j, none⟩) hB).trans hc⟩

end Go.Proofs.Ytahnmmichekamaa
