/- A label with a changed word. No conditions but those of each theorem. -/
import Derived.Test.YtbgbjgedjmhcaaaLO
import Derived.Test.YtbgbjgedjmhcaaaLN
namespace Go.Proofs.Ytbgbjgedjmhcaaa
open Go.RowKit
set_option linter.unusedVariables false
set_option linter.unusedSimpArgs false
theorem sum_burst (B ys : List Nat) (n q b r : Nat) (hb : b < 2 ^ 32) (hr : r < 64) (hq : q < n)
    (HJ : ∀ j, ys[j]?.getD 0 = if j = q then B[j]?.getD 0 ^^^ (b * 2 ^ r % 2 ^ 64) else B[j]?.getD 0) :
    (OldA.ext 0 ys n = OldA.ext 0 B n) ↔ b * 2 ^ r % 2 ^ 64 = 0 := by
  have hDl : OldA.wd 0 (b * 2 ^ r % 2 ^ 64) 8 < 2 ^ 32 := OldA.wd_lt _ _ _ (by omega)
  have key := OldA.ext_diff B ys q 1 (n - q - 1) _ hDl (fun j hj => by rw [HJ, if_neg (by omega)]) (fun j hj => by rw [HJ, if_neg (by omega)]) (fun R hR => by
    simp only [OldA.wds, List.getElem?_drop, Nat.add_zero]
    rw [HJ q, if_pos rfl]
    have e1 := OldA.wd_lin2 R 0 (B[q]?.getD 0) (b * 2 ^ r % 2 ^ 64) 8 hR (by omega)
    rwa [Nat.xor_zero] at e1)
  rw [show q + 1 + (n - q - 1) = n by omega] at key
  rw [key, OldA.burst_one b r hb hr]
/-- a word with changed bits -/
def xw (x : Int) (d : Nat) : Int := ((x.toNat ^^^ d : Nat) : Int)
theorem xw_wd (x : Int) (b r : Nat) (hx : Wd x) : Wd (xw x (b * 2 ^ r % 2 ^ 64)) := by
  have := OldA.burst_lt x.toNat b r (by obtain ⟨h1, h2⟩ := hx; omega)
  unfold xw Wd
  omega
theorem xw_ne (x : Int) (d : Nat) (hx : 0 ≤ x) (h : xw x d ≠ x) : d ≠ 0 := fun e => h (by
  unfold xw
  rw [e, Nat.xor_zero]; omega)
theorem ofInt_nat (x : Int) (h : Wd x) : (BitVec.ofInt 64 x).toNat = x.toNat := by
  obtain ⟨h1, h2⟩ := h
  have e : x = ((x.toNat : Nat) : Int) := by omega
  rw [e, BitVec.ofInt_natCast, BitVec.toNat_ofNat, Int.toNat_natCast]
  exact Nat.mod_eq_of_lt (by omega)
theorem xor_eq (x b : Int) (r : Nat) (hx : Wd x) (hb : 0 ≤ b) : bitsV .xor .u64 x (w64 (b * 2 ^ r)) = xw x (b.toNat * 2 ^ r % 2 ^ 64) := by
  show (((BitVec.ofInt 64 x ^^^ BitVec.ofInt 64 (w64 (b * 2 ^ r))).toNat : Nat) : Int) = _
  rw [BitVec.toNat_xor, ofInt_nat x hx, ofInt_nat _ (w64_bd _)]
  have e : ∀ y, w64 y = y % 18446744073709551616 := fun y => by simp [w64, IntKind.wrap, IntKind.signed, IntKind.bits]
  have e2 : (w64 (b * 2 ^ r)).toNat = b.toNat * 2 ^ r % 2 ^ 64 := by
    obtain ⟨n, rfl⟩ : ∃ n : Nat, b = n := ⟨b.toNat, by omega⟩
    rw [e, Int.toNat_natCast]
    have h : ((n : Int) * 2 ^ r) % 18446744073709551616 = ((n * 2 ^ r % 2 ^ 64 : Nat) : Int) := by
      rw [Int.natCast_emod, Int.natCast_mul, Int.natCast_pow]; rfl
    rw [h, Int.toNat_natCast]
  rw [e2]; rfl
theorem sumL_ne (B C : List Int) (q b r : Nat) (hb : b < 2 ^ 32) (hr : r < 64) (hq : q < 7) (hB : B.length = 7) (hd : b * 2 ^ r % 2 ^ 64 ≠ 0) (hC : C = B.set q (xw (B.getD q default) (b * 2 ^ r % 2 ^ 64))) : sumW B ≠ sumW C := by
  intro e
  have hCl : C.length = 7 := by rw [hC, List.length_set, hB]
  unfold sumW extW at e
  rw [hB, hCl] at e
  have e2 := Int.ofNat.inj e
  refine hd ((sum_burst (B.map Int.toNat) (C.map Int.toNat) 7 q b r hb hr hq (fun j => ?_)).1 e2.symm)
  rw [hC, List.map_set, OldA.set_at _ _ _ _ (by rw [List.length_map, hB]; exact hq)]
  by_cases h : j = q
  · subst h
    rw [if_pos rfl, if_pos rfl]
    unfold xw
    rw [Int.toNat_natCast, List.getElem?_map, List.getD_eq_getElem?_getD]
    cases hh : B[j]? with
    | none => exact absurd (List.getElem?_eq_none_iff.1 hh) (by omega)
    | some z => rfl
  · rw [if_neg h, if_neg h]
set_option maxRecDepth 10000 in
/-- a label with a changed word is none -/
theorem fw_changed (i s t a g : Int) (hi : Wd i) (hs : Wd s) (ht : Wd t) (ha : Wd a) (hg : Wd g) (j b r : Nat) (hb : b < 2 ^ 32) (hr : r < 64) (hj : j < 8) (hne : (wdL i s t a g).set j (xw ((wdL i s t a g).getD j default) (b * 2 ^ r % 2 ^ 64)) ≠ wdL i s t a g) :
    ∃ e, (e = 2 ∨ e = 11) ∧ CallOK Try.prog 19 [.sl 1 0 1 8 none] [(1, .ro 1 8 (rowG encU ((wdL i s t a g).set j (xw ((wdL i s t a g).getD j default) (b * 2 ^ r % 2 ^ 64)))))] (.tup [noL, I e]) [] := by
  have hv : ∀ x, Wd x → x = xw x (b * 2 ^ r % 2 ^ 64) ∨ (xw x (b * 2 ^ r % 2 ^ 64) ≠ x ∧ b * 2 ^ r % 2 ^ 64 ≠ 0) := fun x hx => by
    by_cases h : xw x (b * 2 ^ r % 2 ^ 64) = x
    · exact .inl h.symm
    · exact .inr ⟨h, xw_ne x _ hx.1 h⟩
  have hw : ∀ x, Wd x → Wd (xw x (b * 2 ^ r % 2 ^ 64)) := fun x hx => xw_wd x b r hx
  generalize hd : b * 2 ^ r % 2 ^ 64 = d at *
  have sm : ∀ (q : Nat) (C : List Int), q < 7 → d ≠ 0 → C = [mgc, i, s, t, a, g, 0].set q (xw ([mgc, i, s, t, a, g, 0].getD q default) d) → sumL i s t a g ≠ sumW C := fun q C hq h0 hC => sumL_ne [mgc, i, s, t, a, g, 0] C q b r hb hr hq rfl (by rw [hd]; exact h0) (by rw [hd]; exact hC)
  have bd := sumL_bd i s t a g
  unfold wdL at hne ⊢
  generalize hS : sumL i s t a g = S at *
  have hSw : Wd S := ⟨bd.1, by omega⟩
  obtain rfl | rfl | rfl | rfl | rfl | rfl | rfl | rfl : j = 0 ∨ j = 1 ∨ j = 2 ∨ j = 3 ∨ j = 4 ∨ j = 5 ∨ j = 6 ∨ j = 7 := by omega
  · refine ⟨2, .inl rfl, fw_form (xw mgc d) i s t a g S 0 (.inl fun e => hne ?_)⟩
    show [xw mgc d, i, s, t, a, g, S, 0] = _
    rw [e]
  · refine ⟨11, .inr rfl, ?_⟩
    rcases hv i hi with h | ⟨h, h0⟩
    · exact absurd (by show [mgc, xw i d, s, t, a, g, S, 0] = _; rw [← h]) hne
    · exact fw_sum (xw i d) s t a g S (hw i hi) hs ht ha hg (sm 1 _ (by omega) h0 rfl)
  · refine ⟨11, .inr rfl, ?_⟩
    rcases hv s hs with h | ⟨h, h0⟩
    · exact absurd (by show [mgc, i, xw s d, t, a, g, S, 0] = _; rw [← h]) hne
    · exact fw_sum i (xw s d) t a g S hi (hw s hs) ht ha hg (sm 2 _ (by omega) h0 rfl)
  · refine ⟨11, .inr rfl, ?_⟩
    rcases hv t ht with h | ⟨h, h0⟩
    · exact absurd (by show [mgc, i, s, xw t d, a, g, S, 0] = _; rw [← h]) hne
    · exact fw_sum i s (xw t d) a g S hi hs (hw t ht) ha hg (sm 3 _ (by omega) h0 rfl)
  · refine ⟨11, .inr rfl, ?_⟩
    rcases hv a ha with h | ⟨h, h0⟩
    · exact absurd (by show [mgc, i, s, t, xw a d, g, S, 0] = _; rw [← h]) hne
    · exact fw_sum i s t (xw a d) g S hi hs ht (hw a ha) hg (sm 4 _ (by omega) h0 rfl)
  · refine ⟨11, .inr rfl, ?_⟩
    rcases hv g hg with h | ⟨h, h0⟩
    · exact absurd (by show [mgc, i, s, t, a, xw g d, S, 0] = _; rw [← h]) hne
    · exact fw_sum i s t a (xw g d) S hi hs ht ha (hw g hg) (sm 5 _ (by omega) h0 rfl)
  · refine ⟨11, .inr rfl, fw_sum i s t a g (xw S d) hi hs ht ha hg (fun e => hne ?_)⟩
    show [mgc, i, s, t, a, g, xw S d, 0] = _
    rw [e, hS]
  · refine ⟨2, .inl rfl, fw_form mgc i s t a g S (xw 0 d) (.inr fun e => hne ?_)⟩
    show [mgc, i, s, t, a, g, S, xw 0 d] = _
    rw [e]
end Go.Proofs.Ytbgbjgedjmhcaaa
