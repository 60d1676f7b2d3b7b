/- For all ints chunk, n, at, leg and every list of sizes: ParityPlaces returns true and leaves its arguments as they were. No condition. -/
import Derived.Test.YtahnmmichekamaaRows
import Derived.WalkKit
import Derived.ProofKit
import Derived.OpenShut
import Derived.ShutString
import Derived.ChangeOld
import Derived.Below
import Derived.Carry
import Derived.Test.YtahnmmichekamaaC
import Derived.Test.YtahnmmichekamaaD
import Derived.Test.YtahnmmichekamaaE
import Derived.Test.YtahnmmichekamaaF
import Derived.Test.YtahnmmichekamaaB
import Derived.Test.YtahnmmichekamaaS
namespace Go.Proofs.Ytahnmmichekamaa.parityPlaces
open Go.ChangeShapes Go.WideShapes Go.ChangeAt Go.RowKit
open Go.ChangeMaps (open_string shut_string)
set_option linter.unusedVariables false

theorem own : ownKnob Try.prog.godebug = none := by kernel_rfl
theorem laidOut : laidOutB Try.prog = true := by kernel_rfl

/-- the two rows of 'tries' lie in block B -/
def Tries (B : Nat) (w : World) : Prop := ∀ k, k < 2 → ∃ t0 t1 t2 t3 : Int, w.cell? ⟨B, k * 4, none⟩ = some (.int .i64 t0) ∧ w.cell? ⟨B, k * 4 + 1, none⟩ = some (.int .i64 t1) ∧ w.cell? ⟨B, k * 4 + 2, none⟩ = some (.int .i64 t2) ∧ w.cell? ⟨B, k * 4 + 3, none⟩ = some (.int .i64 t3)

theorem Tries.kept {B : Nat} {w w' : World} (h : Tries B w) (hb : Below w.heap.size w w') (hB : B < w.heap.size) : Tries B w' := by
  intro k hk
  obtain ⟨t0, t1, t2, t3, h0, h1, h2, h3⟩ := h k hk
  exact ⟨t0, t1, t2, t3, (hb.cell (p := ⟨B, k * 4, none⟩) hB).trans h0, (hb.cell (p := ⟨B, k * 4 + 1, none⟩) hB).trans h1, (hb.cell (p := ⟨B, k * 4 + 2, none⟩) hB).trans h2, (hb.cell (p := ⟨B, k * 4 + 3, none⟩) hB).trans h3⟩

theorem SzRow.kept {w w' : World} {a : Option Addr} {len : Nat} {zs : List Int} (h : SzRow w a len zs) (hb : Below w.heap.size w w') : SzRow w' a len zs := by
  rcases h with h | ⟨b, off, h1, h2, h3⟩
  · exact .inl h
  · exact .inr ⟨b, off, h1, Nat.lt_of_lt_of_le h2 hb.size, fun j hj => (hb.cell (p := ⟨b, off + j, none⟩) h2).trans (h3 j hj)⟩

def Four (B : Nat) (t0 t1 t2 t3 : Int) (w : World) : Prop := B < w.heap.size ∧ w.cell? ⟨B, 0, none⟩ = some (.int .i64 t0) ∧ w.cell? ⟨B, 1, none⟩ = some (.int .i64 t1) ∧ w.cell? ⟨B, 2, none⟩ = some (.int .i64 t2) ∧ w.cell? ⟨B, 3, none⟩ = some (.int .i64 t3)

theorem Four.kept {B : Nat} {t0 t1 t2 t3 : Int} {w w' : World} (h : Four B t0 t1 t2 t3 w) (hb : Below w.heap.size w w') : Four B t0 t1 t2 t3 w' := by
  obtain ⟨hB, h0, h1, h2, h3⟩ := h
  exact ⟨Nat.lt_of_lt_of_le hB hb.size, (hb.cell (p := ⟨B, 0, none⟩) hB).trans h0, (hb.cell (p := ⟨B, 1, none⟩) hB).trans h1, (hb.cell (p := ⟨B, 2, none⟩) hB).trans h2, (hb.cell (p := ⟨B, 3, none⟩) hB).trans h3⟩

theorem Four.new (t0 t1 t2 t3 : Int) (t : TypeId) (w : World) : Four w.heap.size t0 t1 t2 t3 (w.alloc (.cells #[.int .i64 t0, .int .i64 t1, .int .i64 t2, .int .i64 t3] t)) :=
  ⟨by simp, by simp [go_sem], by simp [go_sem], by simp [go_sem], by simp [go_sem]⟩

theorem bt' {W a b : World} (h : Below W.heap.size W a) (k : Below a.heap.size a b) : Below W.heap.size W b := bt h k

set_option maxRecDepth 100000 in
theorem walk_in (a0 a1 a2 a3 : Int) (a4 : Option Addr) (len4 cap4 : Nat) (z4 : List Int) (w : World) (hr : SzRow w a4 len4 z4) (hl : len4 ≤ 10) :
    Calls Try.prog 3 #[.int .i64 a0, .int .i64 a1, .int .i64 a2, .int .i64 a3, .slice a4 len4 cap4] w fun e w' => e = .returned (.bool true) ∧ Below w.heap.size w w' := by
  have hl' : ¬ 10 < (len4 : Int) := by omega
  have HR := hid hr
  clear hr
  go_enter Try.func3, Try.ntmps3
  go_wp2_with fail
  go_loopw [12] (fun i wr => ∃ k : Nat, k ≤ 2 ∧ i = .int .i64 k ∧ Tries w.heap.size wr ∧ w.heap.size < wr.heap.size ∧ Below w.heap.size w wr) (fun i _ => 2 - (intOf i).toNat)
  case atStart =>
    refine ⟨0, by omega, rfl, ?_, by simp, (Below.refl _ _).alloc (Nat.le_refl _) _⟩
    intro k hk
    match k, hk with
    | 0, _ => exact ⟨_, _, _, _, by simp [go_sem]; rfl, by simp [go_sem]; rfl, by simp [go_sem]; rfl, by simp [go_sem]; rfl⟩
    | 1, _ => exact ⟨_, _, _, _, by simp [go_sem]; rfl, by simp [go_sem]; rfl, by simp [go_sem]; rfl, by simp [go_sem]; rfl⟩
  case round =>
    obtain ⟨k, hk, rfl, HT, hwr, hb0⟩ := hrel
    by_cases hk2 : k < 2
    · obtain ⟨t0, t1, t2, t3, c0, c1, c2, c3⟩ := HT k hk2
      have HT' := hid HT
      clear HT
      go_wp2_with fail
      have F0 := hid (Four.new t0 t1 t2 t3 24 wr)
      refine (place_any _ _ _ _).mono ?_
      rintro e w1 ⟨x1, y1, zz1, r1, rfl, H1, hb1⟩
      have F1 := hid (F0.out.kept hb1); obtain ⟨_, x0, x1, x2, x3⟩ := F1.out
      go_wp2_with fail
      refine (rplace_same _ _ _ _ _ _ _ H1 _).mono ?_
      rintro e w2 ⟨rfl, hb2⟩
      clear x0 x1 x2 x3
      have F2 := hid (F1.out.kept hb2); obtain ⟨_, x0, x1, x2, x3⟩ := F2.out
      go_wp2_with fail
      refine (back_any _ _ _ _ _).mono ?_
      rintro e w3 ⟨i3, is3, r3, rfl, H3, hb3⟩
      clear x0 x1 x2 x3
      have F3 := hid (F2.out.kept hb3); obtain ⟨_, x0, x1, x2, x3⟩ := F3.out
      go_wp2_with fail
      refine (rback_same _ _ _ _ _ _ _ H3 _).mono ?_
      rintro e w4 ⟨rfl, hb4⟩
      clear x0 x1 x2 x3
      have F4 := hid (F3.out.kept hb4); obtain ⟨_, x0, x1, x2, x3⟩ := F4.out
      have hb04 : Below wr.heap.size wr w4 := bt (bt (bt (((Below.refl _ _).alloc (Nat.le_refl _) _).trans (hb1.mono (by simp))) hb2) hb3) hb4
      have HR4 := hid (SzRow.kept HR.out (bt' hb0 hb04))
      go_wp2_with fail
      refine (size_any _ _ _ _ _ _ HR4.out).mono ?_
      rintro e w5 ⟨i5, r5, rfl, H5, hb5⟩
      have HR5 := hid (SzRow.kept HR4.out hb5)
      clear x0 x1 x2 x3
      have F5 := hid (F4.out.kept hb5); obtain ⟨_, x0, x1, x2, x3⟩ := F5.out
      go_wp2_with fail
      refine (rsize_same _ _ _ _ _ _ _ H5 _ HR5.out).mono ?_
      rintro e w6 ⟨rfl, hb6⟩
      have hb06 := hid (bt (bt hb04 hb5) hb6)
      clear hb1 hb2 hb3 hb4 hb5 hb6 hb04 x0 x1 x2 x3 c0 c1 c2 c3
      go_wp2_with fail
      go_roundw
      case rel => exact ⟨k + 1, by omega, by go_num, HT'.out.kept hb06.out hwr, Nat.lt_of_lt_of_le hwr hb06.out.size, bt' hb0 hb06.out⟩
      case measure => simp [intOf]; omega
    · obtain rfl : k = 2 := by omega
      go_wp2_with fail
      refine (awake_ok _).mono ?_
      rintro e w1 ⟨rfl, hb1⟩
      go_wp2_with fail
      go_ret
      exact ⟨rfl, bt' hb0 hb1⟩

theorem szrow_of {w : World} {a : Option Addr} {len cap : Nat} {zs : List Int} (h : IsRow .i64 w a len cap zs) : SzRow w a len zs := by
  rcases h with ⟨rfl, rfl, rfl, rfl⟩ | ⟨x, rfl, hl, hm, hz, hcell, hwz⟩
  · exact .inl rfl
  · by_cases h0 : len = 0
    · exact .inl h0
    · obtain ⟨b, off, spot⟩ := x
      have hc := hcell 0 (by omega)
      have hspot : spot = none := by simpa [Addr.add] using World.cell?_spot hc
      subst hspot
      refine .inr ⟨b, off, rfl, ?_, fun j hj => ?_⟩
      rotate_left
      · have := hcell j (by omega)
        by_cases e : j = 0
        · subst e; simpa [Addr.add] using this
        · simpa [Addr.add, e] using this
      exact Nat.lt_of_not_le fun hge => by
        have hn : w.heap[b]? = none := by simp; omega
        simp [World.cell?, Addr.add, hn] at hc

set_option maxRecDepth 100000 in
theorem walk (a0 a1 a2 a3 : Int) (a4 : Option Addr) (len4 cap4 : Nat) (z4 : List Int) (w : World) (w0 : (Lit.int .i64 a0).wf = true) (w1 : (Lit.int .i64 a1).wf = true) (w2 : (Lit.int .i64 a2).wf = true) (w3 : (Lit.int .i64 a3).wf = true) (w4 : IsRow .i64 w a4 len4 cap4 z4) :
    Calls Try.prog 3 #[.int .i64 a0, .int .i64 a1, .int .i64 a2, .int .i64 a3, .slice a4 len4 cap4] w fun e w' => e = .returned (.bool true) ∧ Below w.heap.size w w' := by
  by_cases hl : len4 ≤ 10
  · exact walk_in a0 a1 a2 a3 a4 len4 cap4 z4 w (szrow_of w4) hl
  · clear w0 w1 w2 w3 w4
    have hl' : 10 < (len4 : Int) := by omega
    go_enter Try.func3, Try.ntmps3
    go_wp2_with fail
    refine (awake_ok _).mono ?_
    rintro e w1 ⟨rfl, hb1⟩
    go_wp2_with fail
    go_ret
    exact ⟨rfl, hb1⟩

set_option maxRecDepth 100000 in
theorem lifted (os : Os) (started : os.Started) (H : Type) (enc : TypeId × Value → H) :
    ReturnsInHanded {} Try.checked os 3 .any (Rows.parityPlacesSpec.pre6 enc Try.prog Try.f3 Rows.parityPlacesRow.domain false) (Rows.parityPlacesSpec.post enc Try.prog Try.f3 false true false false) := by
  refine returnsInHanded_of_change (C := Try.checked) own started (by kernel_rfl) Try.func3
    (ChangeSpec.witness6 (enc := enc) (C := Try.checked) false ⟨#[], #[.int .i64 0, .int .i64 0, .int .i64 0, .int .i64 0, .slice none 0 0], []⟩ 8 (by kernel_rfl) (by kernel_rfl) (by kernel_rfl) (by kernel_rfl)) ?_
  intro W base args ds gs before hval0 hW hcnd _
  have hval : ∀ (j : Nat) t v, Try.f3.params[j]? = some t → args[j]? = some v → Value.okWide Try.prog W .any base t v := hval0
  have hW' := hW
  obtain ⟨p, q, hA0, hV, rfl, hfz, hnd⟩ := hW
  have hA : DataW.TrodAll enc Try.prog W 0 (fun _ => true) true Try.f3.params.toList args.toList ds p := hA0
  rw [Try.params3] at hA hval
  obtain ⟨v0, vs0, d0, ds0, p0, q0, hargs, rfl, rfl, h0, r0⟩ := trodAll_cons hA
  obtain ⟨v1, vs1, d1, ds1, p1, q1, rfl, rfl, rfl, h1, r1⟩ := trodAll_cons r0
  obtain ⟨v2, vs2, d2, ds2, p2, q2, rfl, rfl, rfl, h2, r2⟩ := trodAll_cons r1
  obtain ⟨v3, vs3, d3, ds3, p3, q3, rfl, rfl, rfl, h3, r3⟩ := trodAll_cons r2
  obtain ⟨v4, vs4, d4, ds4, p4, q4, rfl, rfl, rfl, h4, r4⟩ := trodAll_cons r3
  obtain ⟨rfl, rfl, rfl⟩ := trodAll_nil r4
  obtain rfl : args = #[v0, v1, v2, v3, v4] := by cases args; simp_all
  obtain ⟨rfl, rfl⟩ := trodVars_none hV
  obtain ⟨a0, rfl, rfl, rfl, w0⟩ := open_int Try.underlying3 (hval 0 3 v0 rfl rfl) h0
  obtain ⟨a1, rfl, rfl, rfl, w1⟩ := open_int Try.underlying3 (hval 1 3 v1 rfl rfl) h1
  obtain ⟨a2, rfl, rfl, rfl, w2⟩ := open_int Try.underlying3 (hval 2 3 v2 rfl rfl) h2
  obtain ⟨a3, rfl, rfl, rfl, w3⟩ := open_int Try.underlying3 (hval 3 3 v3 rfl rfl) h3
  obtain ⟨a4, len4, cap4, rfl⟩ := okWide_slice Try.underlying22 (hval 4 22 v4 rfl rfl)
  have k4 := h4
  have lt4 : ∀ x ∈ p4, x.block < W.heap.size := by obtain ⟨m, hm⟩ := k4; exact DataW.trod_lt m _ _ _ hm
  obtain ⟨z4, w4⟩ : ∃ zs, IsRow .i64 W a4 len4 cap4 zs := by
    obtain ⟨fuel, hf⟩ := h4
    rcases open_ints Try.underlying22 Try.underlying3 (by kernel_rfl) hf with ⟨hcs, _⟩ | ⟨x, l, c, zs, hcs, _, hl, hm, hz, _, hcell, hwz⟩
    · simp [Value.cells] at hcs
      obtain ⟨rfl, rfl, rfl⟩ := hcs
      exact ⟨[], .inl ⟨rfl, rfl, rfl, rfl⟩⟩
    · simp [Value.cells] at hcs
      obtain ⟨rfl, rfl, rfl⟩ := hcs
      exact ⟨zs, .inr ⟨_, rfl, hl, hm, by simpa using hz, hcell, hwz⟩⟩
  clear hA0 hval0
  refine (walk a0 a1 a2 a3 a4 len4 cap4 z4 W w0 w1 w2 w3 w4).mono fun e W' ⟨he, bel⟩ => ?_
  subst he
  exact ⟨_, rfl, _, _, _, [], _, [], hW', trodAll_mk1 (shut_bool Try.underlying4 _), (trodAll_cons_mk (shut_int Try.underlying3 w0) (trodAll_cons_mk (shut_int Try.underlying3 w1) (trodAll_cons_mk (shut_int Try.underlying3 w2) (trodAll_cons_mk (shut_int Try.underlying3 w3) (trodAll_cons_mk (Below.trod laidOut (by kernel_rfl) (of_decide_eq_true (by kernel_rfl)) k4 bel lt4) trodAll_mk0))))), rfl, bel.frame _, fun h => by cases h⟩

theorem over : Rows.parityPlacesRow.holds Try.pinned (OpenSpec.ofChange Rows.parityPlacesSpec) :=
  OpenClaim.holds_of_wide 3 Try.f3 rfl rfl rfl rfl rfl rfl rfl ⟨rfl, rfl, rfl, rfl, rfl⟩ rfl rfl rfl rfl rfl (by kernel_rfl) Try.func3 (by kernel_rfl)
    (of_decide_eq_true (by kernel_rfl)) (by unfold Func.isWrapper; first | (rw [if_pos (by decide +kernel)]; kernel_rfl) | (rw [if_neg (by decide +kernel)]; exact ⟨rfl, rfl⟩))
    (fun os started H enc _ => lifted os started H enc)

theorem proved : Rows.ParityPlacesSaid := over
#print axioms proved
end Go.Proofs.Ytahnmmichekamaa.parityPlaces
