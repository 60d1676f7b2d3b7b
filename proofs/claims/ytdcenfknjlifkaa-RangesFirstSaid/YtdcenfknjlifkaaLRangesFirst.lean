/- For all lists a of ranges and all n: RangesFirst returns true and leaves its arguments as they were. No condition. -/
import Derived.Test.YtdcenfknjlifkaaRows
import Derived.WalkKit
import Derived.ProofKit
import Derived.OpenShut
import Derived.ShutString
import Derived.ChangeOld
import Derived.Below
import Derived.Carry
import Derived.Test.YtdcenfknjlifkaaZ
import Derived.Test.YtdcenfknjlifkaaS
namespace Go.Proofs.Ytdcenfknjlifkaa.rangesFirst
open Go.ChangeShapes Go.WideShapes Go.ChangeAt Go.RowKit
open Go.ChangeMaps (open_string shut_string)
set_option linter.unusedVariables false

theorem own : ownKnob Try.prog.godebug = none := by kernel_rfl
theorem laidOut : laidOutB Try.prog = true := by kernel_rfl

set_option linter.unusedSimpArgs false

/-- all numbers from i on, k many, are in the set -/
def Run (A : List Rn) (k i : Int) : Prop := ∀ j, i ≤ j → j < i + k → Mem A j
theorem run_one {X : List Rn} (h : NF X) (k i : Int) (hk : 1 ≤ k) (hr : Run X k i) : ∃ q, q < X.length ∧ (X[q]?.getD (0, 0)).1 ≤ i ∧ i + k ≤ (X[q]?.getD (0, 0)).1 + (X[q]?.getD (0, 0)).2 := by
  obtain ⟨r, hrm, h1, h2⟩ := hr i (Int.le_refl _) (by omega)
  obtain ⟨q, hq⟩ := List.getElem?_of_mem hrm
  have hql := (List.getElem?_eq_some_iff.1 hq).1
  refine ⟨q, hql, by rw [hq]; exact h1, ?_⟩
  rw [hq]
  simp only [Option.getD_some]
  refine Decidable.byContradiction fun hn => ?_
  obtain ⟨r', hrm', h3, h4⟩ := hr (r.1 + r.2) (by omega) (by omega)
  obtain ⟨q', hq'⟩ := List.getElem?_of_mem hrm'
  have hql' := (List.getElem?_eq_some_iff.1 hq').1
  have hp := List.pairwise_iff_getElem.1 h.2
  have e1 : X[q] = r := by rw [List.getElem?_eq_getElem hql] at hq; exact Option.some.inj hq
  have e2 : X[q'] = r' := by rw [List.getElem?_eq_getElem hql'] at hq'; exact Option.some.inj hq'
  rcases Nat.lt_trichotomy q q' with h5 | h5 | h5
  · have := hp q q' hql hql' h5
    rw [e1, e2] at this
    omega
  · subst h5
    rw [e1] at e2
    subst e2
    omega
  · have := hp q' q hql' hql h5
    rw [e1, e2] at this
    omega
theorem start_lt {X : List Rn} (h : NF X) (p q : Nat) (hp : p < X.length) (hq : q < X.length) (hl : (X[q]?.getD (0, 0)).1 < (X[p]?.getD (0, 0)).1) : q < p := by
  refine Decidable.byContradiction fun hn => ?_
  by_cases e : p = q
  · subst e; omega
  · have := List.pairwise_iff_getElem.1 h.2 p q hp hq (by omega)
    have hv := h.1 X[p] (List.getElem_mem hp)
    rw [List.getElem?_eq_getElem hp, List.getElem?_eq_getElem hq] at hl
    simp only [Option.getD_some] at hl
    omega
theorem first_spec (A X : List Rn) (hA : ∀ r ∈ A, 0 ≤ r.1 ∧ r.1 < 64 ∧ 0 ≤ r.2 ∧ r.2 < 16) (h : NF X) (hm : ∀ m, Mem X m ↔ Mem A m) (k s E : Int) (hk : 1 ≤ k)
    (hE : (E = 0 ∧ ∃ q, q < X.length ∧ s = (X[q]?.getD (0, 0)).1 ∧ k ≤ (X[q]?.getD (0, 0)).2 ∧ ∀ j, j < q → (X[j]?.getD (0, 0)).2 < k) ∨ (E = 12 ∧ s = 0 ∧ ∀ j, j < X.length → (X[j]?.getD (0, 0)).2 < k)) :
    (∀ i, 0 ≤ i → i < 90 → Run A k i → (∀ i', 0 ≤ i' → i' < i → ¬ Run A k i') → E = 0 ∧ s = i) ∧ ((∀ i, 0 ≤ i → i < 90 → ¬ Run A k i) → E = 12 ∧ s = 0) := by
  have hrun : ∀ i, Run A k i → Run X k i := fun i hi j h1 h2 => (hm j).2 (hi j h1 h2)
  rcases hE with ⟨rfl, q, hq, rfl, hql, hfirst⟩ | ⟨rfl, rfl, hall⟩
  · have hin := h.1 _ (at_mem X q hq)
    have hr : Run A k (X[q]?.getD (0, 0)).1 := fun j h1 h2 => (hm j).1 ⟨_, at_mem X q hq, h1, by omega⟩
    have hs : (X[q]?.getD (0, 0)).1 < 90 := by
      obtain ⟨r, hr1, hr2, hr3⟩ := hr (X[q]?.getD (0, 0)).1 (Int.le_refl _) (by omega)
      have := hA r hr1
      omega
    refine ⟨fun i h0 h90 hi hless => ⟨rfl, ?_⟩, fun hnone => absurd hr (hnone _ (by omega) hs)⟩
    rcases Int.lt_trichotomy (X[q]?.getD (0, 0)).1 i with h1 | h1 | h1
    · exact absurd hr (hless _ (by omega) h1)
    · exact h1
    · obtain ⟨p, hp, hp1, hp2⟩ := run_one h k i hk (hrun i hi)
      have := start_lt h q p hq hp (by omega)
      have := hfirst p this
      omega
  · refine ⟨fun i h0 h90 hi _ => ?_, fun _ => ⟨rfl, rfl⟩⟩
    obtain ⟨p, hp, hp1, hp2⟩ := run_one h k i hk (hrun i hi)
    have := hall p hp
    omega

/-- a bool that tells whether something holds -/
structure Tr (t : Bool) (P : Prop) : Prop where
  fst : t = true → P
  snd : P → t = true
set_option maxRecDepth 100000 in
set_option maxHeartbeats 2000000 in
theorem walk {H : Type} {enc : TypeId × Value → H} {base : Nat} {d0 : DataW H} {p0 : List MemPlace} (v0 : Value) (a1 : Int) (w : World) (ok0 : Value.okWide Try.prog w .any base 22 v0) (k0 : DataW.Trod enc Try.prog w 0 (fun _ => true) true 22 v0 d0 p0) (w1 : (Lit.int .u8 a1).wf = true) :
    Calls Try.prog 9 #[v0, .int .u8 a1] w fun e w' => e = .returned (.bool true) ∧ Below w.heap.size w w' := by
  obtain ⟨a, len, cap, rs, rfl, hl, hR⟩ := open_ranges ok0 k0
  have HR := hid hR
  have ha1 : 0 ≤ a1 ∧ a1 ≤ 255 := by simp [Lit.wf, IntKind.min, IntKind.max, IntKind.signed, IntKind.bits] at w1; simpa using w1
  clear hR ok0 k0 w1
  obtain ⟨ha1, ha2⟩ := ha1
  obtain ⟨k, hk⟩ : ∃ k, 1 + a1 % 12 = k := ⟨_, rfl⟩
  have hk1 : 1 ≤ k ∧ k ≤ 12 := by omega
  obtain ⟨hk1, hk2⟩ := hk1
  have hv1 := hid (tm_ok rs)
  have hv2 := hid (tm_vld rs)
  have hl1 := tm_length rs
  go_enter Try.func9, Try.ntmps9
  go_wp2_with fail
  refine (tame_any a len cap rs hl w HR.out).mono ?_
  rintro e w1 ⟨a', ca, rfl, H1⟩
  have HA := hid H1.out.1
  have HB1 := hid H1.out.2
  clear H1 HR
  generalize tm rs = A at *
  go_wp2_with fail
  refine (first_any a' A.length ca A k hk1 (by omega) (by omega) hv1.out w1 HA.out).mono ?_
  rintro e w2 ⟨s, E, rfl, ⟨X, hX, hXm, hE⟩, HB⟩
  obtain ⟨f1, f2⟩ := first_spec A X hv2.out hX hXm k s E hk1 hE
  have F1 := hid f1; have F2 := hid f2
  have HA2 := hid (HA.out.kept HB.out)
  have HB2 := hid (bt HB1.out HB.out)
  clear hX hXm hE f1 f2 HA HB1 HB
  go_wp2_with fail
  go_loopw [8] (fun iv wr => ∃ i : Int, 0 ≤ i ∧ i ≤ 90 ∧ iv = .int .i64 i ∧ Hid (∀ i', 0 ≤ i' → i' < i → ¬ Run A k i') ∧ Hid (Rg wr.heap.size wr a' A.length A) ∧ Hid (Below w.heap.size w wr)) (fun iv _ => (90 - intOf iv).toNat)
  case atStart => exact ⟨0, by omega, by omega, rfl, hid (fun i' h1 h2 => by omega), HA2, HB2⟩
  case round =>
    obtain ⟨i, i0, i90, rfl, HN, HAr, HBr⟩ := hrel
    by_cases hlt : i < 90
    · go_wp2_with fail
      go_loopw [9, 10] (fun tv jv wr => ∃ (j : Int) (t : Bool), i ≤ j ∧ j ≤ i + k ∧ jv = .int .i64 j ∧ tv = .bool t ∧ Hid (Tr t (∀ m, i ≤ m → m < j → Mem A m)) ∧ Hid (Rg wr.heap.size wr a' A.length A) ∧ Hid (Below w.heap.size w wr)) (fun _ jv _ => (i + k - intOf jv).toNat)
      case atStart => exact ⟨i, true, by omega, by omega, rfl, rfl, hid ⟨fun _ m h1 h2 => by omega, fun _ => rfl⟩, HAr, HBr⟩
      case round =>
        obtain ⟨j, t, j0, j1, rfl, rfl, HT, HAj, HBj⟩ := hrel
        by_cases hj : j < i + k
        · cases t with
          | false =>
            go_wp2_with fail
            go_roundw
            case rel => exact ⟨j + 1, false, by omega, by omega, by go_num, rfl, hid ⟨fun h => (by cases h), fun h => HT.out.snd (fun m h1 h2 => h m h1 (by omega))⟩, HAj, HBj⟩
            case measure => simp [intOf]; omega
          | true =>
            go_wp2_with fail
            refine (has_any a' A.length ca A j (by unfold I64; omega) (by omega) hv1.out _ HAj.out).mono ?_
            rintro e w3 ⟨rfl, hb⟩
            have HA3 := hid (HAj.out.kept hb)
            have HB3 := hid (bt HBj.out hb)
            have HT2 := hid (show Tr (decide (Mem A j)) (∀ m, i ≤ m → m < j + 1 → Mem A m) from ⟨fun h m h1 h2 => by
              by_cases e : m = j
              · subst e; exact of_decide_eq_true h
              · exact HT.out.fst rfl m h1 (by omega), fun h => decide_eq_true (h j j0 (by omega))⟩)
            clear hb HT
            generalize decide (Mem A j) = t at *
            cases t with
            | false =>
              go_wp2_with fail
              go_roundw
              case rel => exact ⟨j + 1, false, by omega, by omega, by go_num, rfl, HT2, HA3, HB3⟩
              case measure => simp [intOf]; omega
            | true =>
              go_wp2_with fail
              go_roundw
              case rel => exact ⟨j + 1, true, by omega, by omega, by go_num, rfl, HT2, HA3, HB3⟩
              case measure => simp [intOf]; omega
        · obtain rfl : j = i + k := by omega
          cases t with
          | false =>
            have HN2 := hid (show ∀ i', 0 ≤ i' → i' < i + 1 → ¬ Run A k i' from fun i' h1 h2 => by
              by_cases e : i' = i
              · subst e; intro hr; have := HT.out.snd hr; cases this
              · exact HN.out i' h1 (by omega))
            go_wp2_with fail
            go_roundw
            case rel => exact ⟨i + 1, by omega, by omega, by go_num, HN2, HAj, HBj⟩
            case measure => simp [intOf]; omega
          | true =>
            obtain ⟨rfl, rfl⟩ := F1.out i i0 hlt (HT.out.fst rfl) HN.out
            go_wp2_with fail
            refine (awake_ok _).mono ?_
            rintro e w3 ⟨rfl, hb⟩
            have HB3 := hid (bt HBj.out hb)
            clear hb
            go_wp2_with fail
            go_ret
            exact ⟨rfl, HB3.out⟩
    · obtain rfl : i = 90 := by omega
      obtain ⟨rfl, rfl⟩ := F2.out (fun i h1 h2 => HN.out i h1 h2)
      go_wp2_with fail
      refine (awake_ok _).mono ?_
      rintro e w3 ⟨rfl, hb⟩
      have HB3 := hid (bt HBr.out hb)
      clear hb
      go_wp2_with fail
      go_ret
      exact ⟨rfl, HB3.out⟩

set_option maxRecDepth 100000 in
theorem lifted (os : Os) (started : os.Started) (H : Type) (enc : TypeId × Value → H) :
    ReturnsInHanded {} Try.checked os 9 .any (Rows.rangesFirstSpec.pre6 enc Try.prog Try.f9 Rows.rangesFirstRow.domain false) (Rows.rangesFirstSpec.post enc Try.prog Try.f9 false true false false) := by
  refine returnsInHanded_of_change (C := Try.checked) own started (by kernel_rfl) Try.func9
    (ChangeSpec.witness6 (enc := enc) (C := Try.checked) false ⟨#[], #[.slice none 0 0, .int .u8 0], []⟩ 8 (by kernel_rfl) (by kernel_rfl) (by kernel_rfl) (by kernel_rfl)) ?_
  intro W base args ds gs before hval0 hW hcnd _
  have hval : ∀ (j : Nat) t v, Try.f9.params[j]? = some t → args[j]? = some v → Value.okWide Try.prog W .any base t v := hval0
  have hW' := hW
  obtain ⟨p, q, hA0, hV, rfl, hfz, hnd⟩ := hW
  have hA : DataW.TrodAll enc Try.prog W 0 (fun _ => true) true Try.f9.params.toList args.toList ds p := hA0
  rw [Try.params9] at hA hval
  obtain ⟨v0, vs0, d0, ds0, p0, q0, hargs, rfl, rfl, h0, r0⟩ := trodAll_cons hA
  obtain ⟨v1, vs1, d1, ds1, p1, q1, rfl, rfl, rfl, h1, r1⟩ := trodAll_cons r0
  obtain ⟨rfl, rfl, rfl⟩ := trodAll_nil r1
  obtain rfl : args = #[v0, v1] := by cases args; simp_all
  obtain ⟨rfl, rfl⟩ := trodVars_none hV
  have k0 := h0
  have lt0 : ∀ x ∈ p0, x.block < W.heap.size := by obtain ⟨m, hm⟩ := k0; exact DataW.trod_lt m _ _ _ hm
  have ok0 := hval 0 22 v0 rfl rfl
  obtain ⟨a1, rfl, rfl, rfl, w1⟩ := open_int Try.underlying5 (hval 1 5 v1 rfl rfl) h1
  clear hA0 hval0
  refine (walk v0 a1 W ok0 k0 w1).mono fun e W' ⟨he, bel⟩ => ?_
  subst he
  exact ⟨_, rfl, _, _, _, [], _, [], hW', trodAll_mk1 (shut_bool Try.underlying4 _), (trodAll_cons_mk (Below.trod laidOut (by kernel_rfl) (of_decide_eq_true (by kernel_rfl)) k0 bel lt0) (trodAll_cons_mk (shut_int Try.underlying5 w1) trodAll_mk0)), rfl, bel.frame _, fun h => by cases h⟩

theorem over : Rows.rangesFirstRow.holds Try.pinned (OpenSpec.ofChange Rows.rangesFirstSpec) :=
  OpenClaim.holds_of_wide 9 Try.f9 rfl rfl rfl rfl rfl rfl rfl ⟨rfl, rfl, rfl, rfl, rfl⟩ rfl rfl rfl rfl rfl (by kernel_rfl) Try.func9 (by kernel_rfl)
    (of_decide_eq_true (by kernel_rfl)) (by unfold Func.isWrapper; first | (rw [if_pos (by decide +kernel)]; kernel_rfl) | (rw [if_neg (by decide +kernel)]; exact ⟨rfl, rfl⟩))
    (fun os started H enc _ => lifted os started H enc)

theorem proved : Rows.RangesFirstSaid := over
#print axioms proved
end Go.Proofs.Ytdcenfknjlifkaa.rangesFirst
