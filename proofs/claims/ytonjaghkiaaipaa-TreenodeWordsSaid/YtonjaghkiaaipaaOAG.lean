/- Words and Extend of layer 1 and of the reference return the same. No conditions but those of each theorem. -/
import Derived.Test.YtonjaghkiaaipaaOAX
import Derived.Test.YtonjaghkiaaipaaOAF
namespace Go.Proofs.Ytonjaghkiaaipaa.OldA
open Go.ChangeShapes Go.WideShapes Go.ChangeAt Go.RowKit
set_option linter.unusedVariables false

/-- the checksum of words behind a sum -/
def ext (sum : Nat) (ws : List Nat) (len : Nat) : Nat := nt (wds (nt sum) ws len)
theorem ext_lt (sum : Nat) (h : sum < 4294967296) (ws : List Nat) (len : Nat) : ext sum ws len < 4294967296 := nt_lt _ (wds_lt _ _ _ (nt_lt _ h))

theorem extend_ok (sum : Nat) (hsum : sum < 4294967296) (a : Option Addr) (len cap : Nat) (ws : List Nat) (hreach : len * 8 ≤ 140737488351232) (w : World) (hI : Wo w.heap.size w a len ws) :
    Calls Try.prog 63 #[.int .u32 (sum : Int), .slice a len cap] w fun e w' => e = .returned (.int .u32 (ext sum ws len : Nat)) ∧ Below w.heap.size w w' := by
  have h := extend_any sum hsum a len cap ws hreach w hI
  rwa [show fdl (nt sum) (upto (bt8 ws) (8 * len)) = wds (nt sum) ws len from wds_fdl _ _ _] at h

theorem words_ok (a : Option Addr) (len cap : Nat) (ws : List Nat) (hreach : len * 8 ≤ 140737488351232) (w : World) (hI : Wo w.heap.size w a len ws) :
    Calls Try.prog 56 #[.slice a len cap] w fun e w' => e = .returned (.int .u32 (ext 0 ws len : Nat)) ∧ Below w.heap.size w w' := by
  have H := hid (extend_ok 0 (by omega) a len cap ws hreach w hI)
  generalize ext 0 ws len = r at *
  clear hI
  go_enter Try.func56, Try.ntmps56
  go_wp2_with fail
  refine Calls.mono H.out ?_
  rintro e w1 ⟨rfl, hb1⟩
  go_wp2_with fail
  go_ret
  exact ⟨rfl, hb1⟩

theorem rextend_ok (sum : Nat) (hsum : sum < 4294967296) (a : Option Addr) (len cap : Nat) (ws : List Nat) (hreach : len * 8 ≤ 140737488351232) (w : World) (hI : Wo w.heap.size w a len ws) :
    Calls Try.prog 62 #[.int .u32 (sum : Int), .slice a len cap] w fun e w' => e = .returned (.int .u32 (ext sum ws len : Nat)) ∧ w = w' :=
  rextend_any sum hsum a len cap ws (by omega) _ w hI

theorem rwords_ok (a : Option Addr) (len cap : Nat) (ws : List Nat) (hreach : len * 8 ≤ 140737488351232) (w : World) (hI : Wo w.heap.size w a len ws) :
    Calls Try.prog 52 #[.slice a len cap] w fun e w' => e = .returned (.int .u32 (ext 0 ws len : Nat)) ∧ w = w' := by
  have H := hid (rextend_ok 0 (by omega) a len cap ws hreach w hI)
  generalize ext 0 ws len = r at *
  clear hI
  go_enter Try.func52, Try.ntmps52
  go_wp2_with fail
  refine Calls.mono H.out ?_
  rintro e w1 ⟨rfl, rfl⟩
  go_wp2_with fail
  go_ret
  exact ⟨rfl, rfl⟩

theorem Wo.kept {w w' : World} {a : Option Addr} {len : Nat} {ws : List Nat} (h : Wo w.heap.size w a len ws) (hb : Below w.heap.size w w') : Wo w'.heap.size w' a len ws := by
  obtain ⟨h1, h2⟩ := h.below hb
  exact ⟨h1, h2.imp id fun ⟨b, off, e, hb', hc⟩ => ⟨b, off, e, Nat.lt_of_lt_of_le hb' hb.size, hc⟩⟩

theorem wo_of {w : World} {a : Option Addr} {len cap : Nat} {zs : List Int} (h : IsRow .u64 w a len cap zs) : Wo w.heap.size w a len (zs.map Int.toNat) ∧ len ≤ maxLen := by
  rcases h with ⟨rfl, rfl, rfl, rfl⟩ | ⟨x, rfl, hl, hm, hz, hcell, hwz⟩
  · exact ⟨⟨fun j hj => by omega, .inl rfl⟩, by unfold maxLen; omega⟩
  · have hv : ∀ j, j < len → (zs.map Int.toNat)[j]?.getD 0 < 18446744073709551616 ∧ (((zs.map Int.toNat)[j]?.getD 0 : Nat) : Int) = zs.getD j 0 := fun j hj => by
      have hjz : j < zs.length := by omega
      have := hwz _ (List.getElem_mem hjz)
      simp [Lit.wf, IntKind.min, IntKind.max, IntKind.signed, IntKind.bits] at this
      simp [List.getD_eq_getElem?_getD, List.getElem?_eq_getElem hjz]
      omega
    refine ⟨⟨fun j hj => (hv j hj).1, ?_⟩, by omega⟩
    by_cases h0 : len = 0
    · exact .inl h0
    · obtain ⟨b, off, spot⟩ := x
      have hc := hcell 0 (by omega)
      have hspot : spot = none := by simpa [Addr.add] using World.cell?_spot hc
      subst hspot
      refine .inr ⟨b, off, rfl, ?_, fun j hj => ?_⟩
      · have hc' : w.cell? ⟨b, off, none⟩ = some (.int .u64 (zs.getD 0 0)) := by simpa [Addr.add] using hc
        exact block_lt_of_cell hc'
      · have := hcell j (by omega)
        rw [(hv j hj).2]
        by_cases e : j = 0
        · subst e; simpa [Addr.add] using this
        · simpa [Addr.add, e] using this

theorem by_of {w : World} {a : Option Addr} {len cap : Nat} {zs : List Int} (h : IsRow .u8 w a len cap zs) : By w a len (zs.map Int.toNat) ∧ len ≤ maxLen := by
  rcases h with ⟨rfl, rfl, rfl, rfl⟩ | ⟨x, rfl, hl, hm, hz, hcell, hwz⟩
  · exact ⟨fun j hj => by omega, by unfold maxLen; omega⟩
  · refine ⟨fun j hj => ?_, by omega⟩
    have hjz : j < zs.length := by omega
    have hw := hwz _ (List.getElem_mem hjz)
    simp [Lit.wf, IntKind.min, IntKind.max, IntKind.signed, IntKind.bits] at hw
    obtain ⟨b, off, spot⟩ := x
    have hc := hcell 0 (by omega)
    have hspot : spot = none := by simpa [Addr.add] using World.cell?_spot hc
    subst hspot
    have e1 : (zs.map Int.toNat).getD j 0 = (zs[j]).toNat := by simp [List.getD_eq_getElem?_getD, List.getElem?_eq_getElem hjz]
    refine ⟨by rw [e1]; omega, b, off, rfl, ?_⟩
    have := hcell j (by omega)
    have e2 : zs.getD j 0 = zs[j] := by simp [List.getD_eq_getElem?_getD, List.getElem?_eq_getElem hjz]
    rw [e1, Int.toNat_of_nonneg hw.1, ← e2]
    by_cases e : j = 0
    · subst e; simpa [Addr.add] using this
    · simpa [Addr.add, e] using this
end Go.Proofs.Ytonjaghkiaaipaa.OldA
