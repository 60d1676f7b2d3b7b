/- What Hex and FromHex undo of each other, on lists of bytes. No conditions but those of each theorem. -/
import Derived.Test.YtdpclmogfnigdaaI
namespace Go.Proofs.Ytdpclmogfnigdaa
set_option linter.unusedVariables false
set_option linter.unusedSimpArgs false

theorem dig16 (x k : Nat) (hk : k < 16) : dig x k = x / 16 ^ (16 - 1 - k) % 16 := by
  unfold dig
  rw [show 60 - 4 * k = 4 * (16 - 1 - k) by omega, Nat.pow_mul]
theorem hv_digits : ∀ (n a x : Nat), hv ((List.range n).map fun k => hexB (x / 16 ^ (n - 1 - k) % 16)) a = some (a * 16 ^ n + x % 16 ^ n) := by
  intro n
  induction n with
  | zero => intro a x; simp [hv, Nat.mod_one]
  | succ n ih =>
    intro a x
    rw [List.range_succ_eq_map, List.map_cons, List.map_map]
    have e : ((fun k => hexB (x / 16 ^ (n + 1 - 1 - k) % 16)) ∘ Nat.succ) = fun k => hexB (x / 16 ^ (n - 1 - k) % 16) := by
      funext k
      simp only [Function.comp_def]
      rw [show n + 1 - 1 - k.succ = n - 1 - k by omega]
    rw [e]
    have hd := digV_hex (x / 16 ^ n % 16) (Nat.mod_lt _ (by omega))
    show (if digV (hexB (x / 16 ^ n % 16)) < 0 then none else hv _ (a * 16 + (digV (hexB (x / 16 ^ n % 16))).toNat)) = _
    rw [hd, if_neg (by omega), ih, Int.toNat_natCast]
    congr 1
    rw [Nat.pow_succ, Nat.mod_mul, Nat.add_mul, Nat.mul_assoc, Nat.mul_comm 16 (16 ^ n), Nat.mul_comm (x / 16 ^ n % 16)]
    omega
theorem hv_back : ∀ (l : List UInt8) (a y : Nat), hv l a = some y → y / 16 ^ l.length = a ∧ ∀ i (h : i < l.length), l[i] = hexB (y / 16 ^ (l.length - 1 - i) % 16) := by
  intro l
  induction l with
  | nil =>
    intro a y h
    simp only [hv, Option.some.injEq] at h
    subst h
    exact ⟨by simp, fun i h => by simp at h⟩
  | cons c t ih =>
    intro a y h
    have h' : (if digV c < 0 then none else hv t (a * 16 + (digV c).toNat)) = some y := h
    by_cases hc : digV c < 0
    · rw [if_pos hc] at h'; cases h'
    rw [if_neg hc] at h'
    obtain ⟨h1, h2⟩ := ih _ _ h'
    obtain ⟨d1, d2⟩ := digV_le c
    have hd : (digV c).toNat < 16 := by omega
    have d3 := d2 (by omega)
    refine ⟨?_, fun i hi => ?_⟩
    · rw [List.length_cons, Nat.pow_succ, ← Nat.div_div_eq_div_mul, h1]; omega
    · cases i with
      | zero =>
        show c = hexB (y / 16 ^ (t.length + 1 - 1 - 0) % 16)
        rw [show t.length + 1 - 1 - 0 = t.length by omega, h1, show (a * 16 + (digV c).toNat) % 16 = (digV c).toNat by omega]
        exact d3
      | succ i =>
        have := h2 i (by simpa using hi)
        show t[i]'(by simpa using hi) = hexB (y / 16 ^ (t.length + 1 - 1 - (i + 1)) % 16)
        rw [show t.length + 1 - 1 - (i + 1) = t.length - 1 - i by omega]
        exact this
theorem hexL_eq (x : Nat) : hexL x = (List.range 16).map fun k => hexB (x / 16 ^ (16 - 1 - k) % 16) := by
  unfold hexL
  apply List.map_congr_left
  intro k hk
  rw [dig16 x k (by simpa using hk)]
theorem fh_hex (x : Nat) (hx : x < 18446744073709551616) : fhL (hexL x) = (x, 0) := by
  unfold fhL
  rw [if_pos (hexL_len x), hexL_eq, hv_digits]
  show ((0 * 16 ^ 16 + x % 16 ^ 16, 0) : Nat × Int) = (x, 0)
  rw [show (16 : Nat) ^ 16 = 18446744073709551616 from rfl, Nat.mod_eq_of_lt hx]
  simp
theorem fh_back (l : List UInt8) : fhL l = (0, 2) ∨ ∃ y, fhL l = (y, 0) ∧ y < 18446744073709551616 ∧ hexL y = l := by
  unfold fhL
  by_cases h : l.length = 16
  · rw [if_pos h]
    cases hh : hv l 0 with
    | none => exact .inl rfl
    | some y =>
      right
      obtain ⟨h1, h2⟩ := hv_back l 0 y hh
      rw [h] at h1
      refine ⟨y, rfl, ?_, ?_⟩
      · rw [show (16 : Nat) ^ 16 = 18446744073709551616 from rfl] at h1
        omega
      · rw [hexL_eq]
        apply List.ext_getElem
        · simp [h]
        · intro i i1 i2
          rw [h2 i i2, h]
          simp
  · rw [if_neg h]; exact .inl rfl
end Go.Proofs.Ytdpclmogfnigdaa
