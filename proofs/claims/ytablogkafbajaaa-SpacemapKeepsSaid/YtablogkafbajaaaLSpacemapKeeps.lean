/- For all lists of numbers: SpacemapKeeps returns true. No condition. -/
import Derived.Test.YtablogkafbajaaaRows
import Derived.WalkKit
import Derived.ProofKit
import Derived.OpenShut
import Derived.ShutString
import Derived.ChangeOld
import Derived.Below
import Derived.Carry
import Derived.Test.YtablogkafbajaaaC
import Derived.Test.YtablogkafbajaaaD
import Derived.Test.YtablogkafbajaaaE
import Derived.Test.YtablogkafbajaaaF
import Derived.Test.YtablogkafbajaaaG
import Derived.Test.YtablogkafbajaaaH
import Derived.Test.YtablogkafbajaaaI
import Derived.Test.YtablogkafbajaaaJ
import Derived.Test.YtablogkafbajaaaKk
import Derived.Test.YtablogkafbajaaaN
import Derived.Test.YtablogkafbajaaaO
import Derived.Test.YtablogkafbajaaaS
import Derived.Test.YtablogkafbajaaaQ
import Derived.Test.YtablogkafbajaaaR
namespace Go.Proofs.Ytablogkafbajaaa.spacemapKeeps
open Go.ChangeShapes Go.WideShapes Go.ChangeAt Go.RowKit
open Go.ChangeMaps (open_string shut_string)
set_option linter.unusedVariables false

theorem own : ownKnob Try.prog.godebug = none := by kernel_rfl
theorem laidOut : laidOutB Try.prog = true := by kernel_rfl

set_option linter.unusedSimpArgs false
theorem gt_at (X : List Int) (k : Nat) (h : k < X.length) : gt X (k : Int) = ge X k := by
  unfold gt
  rw [if_pos ⟨by omega, by omega⟩]
  rfl
theorem ge_set (X : List Int) (k j : Nat) (x : Int) (hk : k < X.length) : ge (X.set k x) j = if k = j then x else ge X j := by
  unfold ge
  rw [List.getElem?_set]
  by_cases e : k = j
  · subst e; rw [if_pos rfl, if_pos hk, if_pos rfl]; rfl
  · rw [if_neg e, if_neg e]
theorem fr_set (X Y : List Int) (k j : Nat) (hk : k < X.length) (hne : k ≠ j) : fr (X.set k 1) Y j = fr X Y j := by
  unfold fr
  rw [ge_set X k j 1 hk, if_neg hne]
theorem nf_set (X Y : List Int) (k : Nat) (hk : k < X.length) (hf : fr X Y k = true) : ∀ m, nf (X.set k 1) Y m + (if k < m then 1 else 0) = nf X Y m := by
  intro m
  induction m with
  | zero => simp [nf]
  | succ m ih =>
    have u1 : nf (X.set k 1) Y (m + 1) = nf (X.set k 1) Y m + if fr (X.set k 1) Y m then 1 else 0 := rfl
    have u2 : nf X Y (m + 1) = nf X Y m + if fr X Y m then 1 else 0 := rfl
    rw [u1, u2]
    by_cases e : k = m
    · subst e
      have e0 : (if k < k then 1 else 0) = 0 := if_neg (by omega)
      have e1 : (if k < k + 1 then 1 else 0) = 1 := if_pos (by omega)
      have : fr (X.set k 1) Y k = false := by unfold fr; rw [ge_set X k k 1 hk, if_pos rfl]; rfl
      rw [this, hf, e1]
      rw [e0] at ih
      simp
      omega
    · rw [fr_set X Y k m hk e]
      by_cases h : k < m
      · have e0 : (if k < m then 1 else 0) = 1 := if_pos h
        have e1 : (if k < m + 1 then 1 else 0) = 1 := if_pos (by omega)
        rw [e1]
        rw [e0] at ih
        omega
      · have e0 : (if k < m then 1 else 0) = 0 := if_neg h
        have e1 : (if k < m + 1 then 1 else 0) = 0 := if_neg (by omega)
        rw [e1]
        rw [e0] at ih
        omega
theorem al_cases (X Y : List Int) : (∃ k, k < X.length ∧ al X Y = some k ∧ fr X Y k = true ∧ ∀ j, j < k → fr X Y j = false) ∨ (al X Y = none ∧ nf X Y X.length = 0) := by
  cases h : al X Y with
  | some k =>
    left
    unfold al at h
    rw [List.find?_range_eq_some] at h
    exact ⟨k, by simpa using h.2.1, rfl, h.1, fun j hj => by simpa using h.2.2 j hj⟩
  | none =>
    right
    refine ⟨rfl, ?_⟩
    unfold al at h
    rw [List.find?_eq_none] at h
    have : ∀ m, m ≤ X.length → nf X Y m = 0 := by
      intro m
      induction m with
      | zero => intro _; rfl
      | succ m ih =>
        intro hm
        unfold nf
        rw [ih (by omega)]
        have := h m (by simp; omega)
        simp at this
        rw [this]
        rfl
    exact this _ (Nat.le_refl _)
/-- an integer in memory -/
def ci (w : World) (a j : Nat) : Int := match w.cell? ⟨a, j, none⟩ with | some (.int _ x) => x | _ => 1
def nw (w : World) (a b : Nat) : Nat → Nat
  | 0 => 0
  | k + 1 => nw w a b k + if (ci w a k == 0 && ci w b k == 0) then 1 else 0
theorem nw_eq {W : World} {M a ca b cb : Nat} {X Y : List Int} (h : SM 66 W M a ca b cb X Y) : ∀ k, k ≤ X.length → nw W a b k = nf X Y k := by
  intro k
  induction k with
  | zero => intro _; rfl
  | succ k ih =>
    intro hk
    unfold nw nf
    rw [ih (by omega)]
    have h1 : ci W a k = ge X k := by unfold ci; rw [h.ra.at k (by omega)]
    have h2 : ci W b k = ge Y k := by unfold ci; rw [h.rb.at k (by rw [h.len]; omega)]
    rw [h1, h2]
    rfl
set_option maxRecDepth 100000 in
set_option maxHeartbeats 8000000 in
theorem walk (a0 : Option Addr) (len0 cap0 : Nat) (z0 : List Int) (w : World) (w0 : IsRow .i64 w a0 len0 cap0 z0) :
    Calls Try.prog 5 #[.slice a0 len0 cap0] w fun e w' => e = .returned (.bool true) ∧ Below w.heap.size w w' := by
  obtain ⟨hn, hl, hc⟩ := nums_of w0
  unfold maxLen at hc
  have HN := hid (new_ok a0 len0 cap0 w hn hl hc)
  have HAw := hid awake_any
  clear w0 hn hl hc
  go_enter Try.func5, Try.ntmps5
  go_wp2_with fail
  refine HN.out.mono ?_
  rintro e w1 ⟨rfl, HS, hb1⟩
  have HB1 := hid hb1
  have hs1 := hb1.size
  have HRg := hid (range_ok w.heap.size w.heap.size (Nat.le_refl _) 0 20 (by omega) (by omega) (by omega) w1 HS.out)
  clear hb1 HN HS
  go_wp2_with fail
  refine HRg.out.mono ?_
  rintro e w2 ⟨z, z0, z30, rfl, H2⟩
  have HB2 := hid (HB1.out.grown H2.out.1 hs1 (fun k e => by cases e; exact Nat.le_refl _))
  have HS2 := hid H2.out.2
  have hs2 := HB2.out.size
  clear H2 HRg HB1
  go_wp2_with fail
  refine (play_ok w.heap.size w.heap.size z w2 (Nat.le_refl _) hs2 z0 (by omega) HS2.out).mono ?_
  rintro e w3 ⟨M, a, ca, b, cb, R, c, cc, d, cd, X, Y, rfl, hX9, HT⟩
  clear HS2
  go_wp2_with fail
  obtain ⟨n, hn⟩ : ∃ n, n = X.length := ⟨_, rfl⟩
  have hU := hid (show ∀ j, ge X j = 0 → ge X j = 0 from fun j h => h)
  have hV := hid (show X.length = n from hn.symm)
  obtain ⟨U, hUe⟩ : ∃ U, U = X := ⟨_, rfl⟩
  have HU0 := hid (show ∀ j, ge X j = 0 → ge U j = 0 by rw [hUe]; exact fun j h => h)
  have HT0 := hid (show ST w.heap.size w.heap.size w2 w3 M a ca b cb R c cc d cd X Y U Y by rw [hUe]; exact HT.out)
  have HUl := hid (show U.length = n by rw [hUe, hn])
  rw [← hn] at hX9
  clear HT hUe hU hn
  go_loopw [7] (fun _ wr => ∃ X : List Int, Hid (X.length = n) ∧ Hid (∀ j, ge X j = 0 → ge U j = 0) ∧ Hid (ST w.heap.size w.heap.size w2 wr M a ca b cb R c cc d cd X Y U Y)) (fun _ wr => nw wr a b n)
  case atStart => exact ⟨X, hV, HU0, HT0⟩
  case round =>
    clear HT0 HU0 hV
    obtain ⟨X, hXn, HU, HT⟩ := hrel
    have HMe := hid (nw_eq HT.out.p n (Nat.le_of_eq hXn.out.symm))
    have HF := hid (nfree_ok HT.out.p)
    rw [hXn.out] at HF
    have hnf := nf_le X Y n
    obtain ⟨f, hf⟩ : ∃ f, f = nf X Y n := ⟨_, rfl⟩
    rw [← hf] at HF hnf
    have Hf := hid hf
    clear hf
    go_wp2_with fail
    refine HF.out.mono ?_
    rintro e w4 ⟨rfl, hb4⟩
    have HT4 := hid (HT.out.below hb4)
    clear hb4 HF HT
    have HA := hid (alloc_ok HT4.out.p)
    rcases al_cases X Y with ⟨k, hk, hal, hfr, hlt⟩ | ⟨hal, hn0⟩
    · have e1 : alV X Y = (k : Int) := by unfold alV; rw [hal]
      have e2 : alE X Y = 0 := by unfold alE; rw [hal]
      have e3 : alX X Y = X.set k 1 := by unfold alX; rw [hal]
      rw [e1, e2, e3] at HA
      have HNS := hid (nf_set X Y k hk hfr n)
      rw [if_pos (by rw [← hXn.out]; exact hk)] at HNS
      have hY0 : ge Y k = 0 ∧ ge X k = 0 := by unfold fr at hfr; simp at hfr; exact ⟨hfr.2, hfr.1⟩
      have hU0 := HU.out k hY0.2
      have Hl := hid hlt
      obtain ⟨X2, hX2⟩ : ∃ X2, X2 = X.set k 1 := ⟨_, rfl⟩
      have HX2 := hid hX2
      have Hk := hid hk
      rw [← hX2] at HA HNS
      clear hal hlt e1 e2 e3 hfr hX2
      go_wp2_with fail
      refine HA.out.mono ?_
      rintro e w5 ⟨rfl, H5⟩
      have HT5 := hid (HT4.out.prog H5.out.2 (.inl rfl) H5.out.1)
      clear H5 HA HT4
      have hX2n : X2.length = n := by rw [HX2.out, List.length_set]; exact hXn.out
      have HW := hid (was_ok HT5.out.p (k : Int))
      rw [gt_at Y k (by rw [HT5.out.p.len, hX2n, ← hXn.out]; exact Hk.out), hY0.1] at HW
      go_wp2_with fail
      refine HW.out.mono ?_
      rintro e w6 ⟨rfl, hb6⟩
      have HT6 := hid (HT5.out.below hb6)
      clear hb6 HW HT5
      have HC := hid (count_ok HT6.out.p (k : Int))
      rw [gt_at X2 k (by rw [hX2n, ← hXn.out]; exact Hk.out), show ge X2 k = 1 by rw [HX2.out, ge_set X k k 1 Hk.out, if_pos rfl]] at HC
      go_wp2_with fail
      refine HC.out.mono ?_
      rintro e w7 ⟨rfl, hb7⟩
      have HT7 := hid (HT6.out.below hb7)
      clear hb7 HC HT6
      have HF := hid (nfree_ok HT7.out.p)
      rw [hX2n] at HF
      have hfn : nf X2 Y n + 1 = f := by rw [Hf.out]; exact HNS.out
      obtain ⟨f2, hf2⟩ : ∃ f2, f2 = nf X2 Y n := ⟨_, rfl⟩
      have Hf2 := hid hf2
      rw [← hf2] at HF hfn
      have hfi : (f : Int) - 1 = (f2 : Int) := by omega
      clear hf2 HNS
      go_wp2_with fail
      refine HF.out.mono ?_
      rintro e w8 ⟨rfl, hb8⟩
      have HT8 := hid (HT7.out.below hb8)
      clear hb8 HF HT7
      have HRc := hid (rcount_ok HT8.out.r (k : Int))
      rw [gt_at U k (by rw [HUl.out, ← hXn.out]; exact Hk.out), hU0] at HRc
      go_wp2_with fail
      refine HRc.out.mono ?_
      rintro e w9 ⟨rfl, rfl⟩
      have hkn : k < n := by rw [← hXn.out]; exact Hk.out
      clear HRc
      go_wp2_with fail
      go_loopw [10] (fun jv wr => ∃ j : Nat, j ≤ k ∧ jv = .int .i64 (j : Int) ∧ Hid (ST w.heap.size w.heap.size w2 wr M a ca b cb R c cc d cd X2 Y U Y)) (fun jv _ => k - (intOf jv).toNat)
      case atStart => exact ⟨0, by omega, rfl, HT8⟩
      case round =>
        clear HT8
        obtain ⟨j, hj, rfl, HT⟩ := hrel
        by_cases hjk : j < k
        · have hjk' : (j : Int) < (k : Int) := by omega
          have hff := Hl.out j hjk
          have hgx : ge X2 j = ge X j := by rw [HX2.out, ge_set X k j 1 Hk.out, if_neg (by omega)]
          have HW := hid (was_ok HT.out.p (j : Int))
          rw [gt_at Y j (by rw [HT.out.p.len, hX2n]; omega)] at HW
          have hxy : (ge X j == 0 && ge Y j == 0) = false := hff
          clear hff
          by_cases hy : ge Y j = 0
          · have hx : ¬ ge X j = 0 := fun e => by rw [hy, e] at hxy; simp at hxy
            rw [hy] at HW
            go_wp2_with fail
            refine HW.out.mono ?_
            rintro e v1 ⟨rfl, hb1⟩
            have HT1 := hid (HT.out.below hb1)
            clear hb1 HW HT
            have HC := hid (count_ok HT1.out.p (j : Int))
            rw [gt_at X2 j (by rw [hX2n]; omega), hgx] at HC
            clear hgx hxy
            generalize ge X j = x at *
            have hx' : (x == 0) = false := by simpa using hx
            go_wp2_with fail
            refine HC.out.mono ?_
            rintro e v2 ⟨rfl, hb2⟩
            have HT2 := hid (HT1.out.below hb2)
            clear hb2 HC HT1
            go_wp2_with fail
            go_roundw
            case rel => exact ⟨j + 1, by omega, by go_num, HT2⟩
            case measure => simp [intOf]; omega
          · clear hxy hgx
            generalize ge Y j = y at *
            have hy' : (y == 0) = false := by simpa using hy
            go_wp2_with fail
            refine HW.out.mono ?_
            rintro e v1 ⟨rfl, hb1⟩
            have HT1 := hid (HT.out.below hb1)
            clear hb1 HW HT
            go_wp2_with fail
            go_roundw
            case rel => exact ⟨j + 1, by omega, by go_num, HT1⟩
            case measure => simp [intOf]; omega
        · obtain rfl : j = k := by omega
          have hjk' : ¬ (j : Int) < (j : Int) := by omega
          have HMe2 := hid (nw_eq HT.out.p n (Nat.le_of_eq hX2n.symm))
          go_wp2_with fail
          go_roundw
          case rel => exact ⟨X2, hid hX2n, hid (fun i hi => by
            rw [HX2.out, ge_set X j i 1 Hk.out] at hi
            by_cases e : j = i
            · rw [if_pos e] at hi; omega
            · rw [if_neg e] at hi; exact HU.out i hi), HT⟩
          case measure => rw [HMe.out, HMe2.out, ← Hf.out, ← Hf2.out]; omega
    · have e1 : alV X Y = 0 := by unfold alV; rw [hal]
      have e2 : alE X Y = 14 := by unfold alE; rw [hal]
      have e3 : alX X Y = X := by unfold alX; rw [hal]
      rw [e1, e2, e3] at HA
      rw [hXn.out, ← Hf.out] at hn0
      subst hn0
      clear hal e1 e2 e3
      go_wp2_with fail
      refine HA.out.mono ?_
      rintro e w5 ⟨rfl, H5⟩
      have HT := hid (HT4.out.prog H5.out.2 (.inl rfl) H5.out.1)
      clear H5 HA HT4
      go_wp2_with fail
      refine (HAw.out _).mono ?_
      rintro e w9 ⟨rfl, hb9⟩
      have HT9 := hid (HT.out.below hb9)
      clear hb9
      go_wp2_with fail
      go_ret
      exact ⟨rfl, HB2.out.trans HT9.out.bel⟩

set_option maxRecDepth 100000 in
theorem lifted (os : Os) (started : os.Started) (H : Type) (enc : TypeId × Value → H) :
    ReturnsInHanded {} Try.checked os 5 .any (Rows.spacemapKeepsSpec.pre6 enc Try.prog Try.f5 Rows.spacemapKeepsRow.domain false) (Rows.spacemapKeepsSpec.post enc Try.prog Try.f5 false true false false) := by
  refine returnsInHanded_of_change (C := Try.checked) own started (by kernel_rfl) Try.func5
    (ChangeSpec.witness6 (enc := enc) (C := Try.checked) false ⟨#[], #[.slice none 0 0], []⟩ 8 (by kernel_rfl) (by kernel_rfl) (by kernel_rfl) (by kernel_rfl)) ?_
  intro W base args ds gs before hval0 hW hcnd _
  have hval : ∀ (j : Nat) t v, Try.f5.params[j]? = some t → args[j]? = some v → Value.okWide Try.prog W .any base t v := hval0
  have hW' := hW
  obtain ⟨p, q, hA0, hV, rfl, hfz, hnd⟩ := hW
  have hA : DataW.TrodAll enc Try.prog W 0 (fun _ => true) true Try.f5.params.toList args.toList ds p := hA0
  rw [Try.params5] at hA hval
  obtain ⟨v0, vs0, d0, ds0, p0, q0, hargs, rfl, rfl, h0, r0⟩ := trodAll_cons hA
  obtain ⟨rfl, rfl, rfl⟩ := trodAll_nil r0
  obtain rfl : args = #[v0] := by cases args; simp_all
  obtain ⟨rfl, rfl⟩ := trodVars_none hV
  obtain ⟨a0, len0, cap0, rfl⟩ := okWide_slice Try.underlying22 (hval 0 22 v0 rfl rfl)
  have k0 := h0
  have lt0 : ∀ x ∈ p0, x.block < W.heap.size := by obtain ⟨m, hm⟩ := k0; exact DataW.trod_lt m _ _ _ hm
  obtain ⟨z0, w0⟩ : ∃ zs, IsRow .i64 W a0 len0 cap0 zs := by
    obtain ⟨fuel, hf⟩ := h0
    rcases open_ints Try.underlying22 Try.underlying3 (by kernel_rfl) hf with ⟨hcs, _⟩ | ⟨x, l, c, zs, hcs, _, hl, hm, hz, _, hcell, hwz⟩
    · simp [Value.cells] at hcs
      obtain ⟨rfl, rfl, rfl⟩ := hcs
      exact ⟨[], .inl ⟨rfl, rfl, rfl, rfl⟩⟩
    · simp [Value.cells] at hcs
      obtain ⟨rfl, rfl, rfl⟩ := hcs
      exact ⟨zs, .inr ⟨_, rfl, hl, hm, by simpa using hz, hcell, hwz⟩⟩
  clear hA0 hval0
  refine (walk a0 len0 cap0 z0 W w0).mono fun e W' ⟨he, bel⟩ => ?_
  subst he
  exact ⟨_, rfl, _, _, _, [], _, [], hW', trodAll_mk1 (shut_bool Try.underlying4 _), (trodAll_cons_mk (Below.trod laidOut (by kernel_rfl) (of_decide_eq_true (by kernel_rfl)) k0 bel lt0) trodAll_mk0), rfl, bel.frame _, fun h => by cases h⟩

theorem over : Rows.spacemapKeepsRow.holds Try.pinned (OpenSpec.ofChange Rows.spacemapKeepsSpec) :=
  OpenClaim.holds_of_wide 5 Try.f5 rfl rfl rfl rfl rfl rfl rfl ⟨rfl, rfl, rfl, rfl, rfl⟩ rfl rfl rfl rfl rfl (by kernel_rfl) Try.func5 (by kernel_rfl)
    (of_decide_eq_true (by kernel_rfl)) (by unfold Func.isWrapper; first | (rw [if_pos (by decide +kernel)]; kernel_rfl) | (rw [if_neg (by decide +kernel)]; exact ⟨rfl, rfl⟩))
    (fun os started H enc _ => lifted os started H enc)

theorem proved : Rows.SpacemapKeepsSaid := over
#print axioms proved
end Go.Proofs.Ytablogkafbajaaa.spacemapKeeps
