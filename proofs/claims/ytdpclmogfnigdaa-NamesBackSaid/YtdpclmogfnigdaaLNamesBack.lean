/- For all lists of numbers: NamesBack returns true. No condition. -/
import Derived.Test.YtdpclmogfnigdaaRows
import Derived.WalkKit
import Derived.ProofKit
import Derived.OpenShut
import Derived.ShutString
import Derived.ChangeOld
import Derived.Below
import Derived.Carry
import Derived.Test.YtdpclmogfnigdaaC
import Derived.Test.YtdpclmogfnigdaaP
import Derived.Test.YtdpclmogfnigdaaPV
import Derived.Test.YtdpclmogfnigdaaD
import Derived.Test.YtdpclmogfnigdaaE
import Derived.Test.YtdpclmogfnigdaaF
import Derived.Test.YtdpclmogfnigdaaG
import Derived.Test.YtdpclmogfnigdaaH
import Derived.Test.YtdpclmogfnigdaaI
import Derived.Test.YtdpclmogfnigdaaJ
import Derived.Test.YtdpclmogfnigdaaK
import Derived.Test.YtdpclmogfnigdaaL
namespace Go.Proofs.Ytdpclmogfnigdaa.namesBack
open Go.ChangeShapes Go.WideShapes Go.ChangeAt Go.RowKit
open Go.ChangeMaps (open_string shut_string)
set_option linter.unusedVariables false

theorem own : ownKnob Try.prog.godebug = none := by kernel_rfl
theorem laidOut : laidOutB Try.prog = true := by kernel_rfl

set_option linter.unusedSimpArgs false
theorem below_drewN (k : Nat) (w : World) (n : Nat) : Below k w (w.drewN n) := ⟨rfl, rfl, rfl, Nat.le_refl _, fun _ _ => rfl⟩
/-- an answer of Leg or Part -/
def Ans (x a : List UInt8) (e : Int) : Prop := (e = 0 ∧ okL x = true ∧ parL a = (x, true) ∧ hidL a = true ∧ rootL a = rootL x ∧ a.length ≤ 40) ∨ (e ≠ 0 ∧ a = [])
theorem ans_leg (l : List UInt8) (k : Int) : Ans l (legT l k).1 (legT l k).2 := by
  rcases leg_cases l k with ⟨h1, h2, h3, h4, h5, h6⟩ | h
  · rw [h6]
    have h7 : l.length + (sLeg ++ [(48 + k).toNat.toUInt8]).length ≤ 40 := by simpa [sLeg] using h4
    exact .inl ⟨rfl, h1, par_app h1 h5 h7, hid_app h1 h5 h7, root_app h1 h5 h7, by simpa using h7⟩
  · exact .inr ⟨h.2, h.1⟩
theorem ans_part (l : List UInt8) (k : Int) : Ans l (partL l k).1 (partL l k).2 := by
  rcases part_cases l k with ⟨h1, h2, h3, h4, h5, h6⟩ | h
  · rw [h6]
    exact .inl ⟨rfl, h1, par_app h1 h5 h4, hid_app h1 h5 h4, root_app h1 h5 h4, by simpa using h4⟩
  · exact .inr ⟨h.2, h.1⟩

set_option maxRecDepth 100000 in
set_option maxHeartbeats 4000000 in
theorem walk (a0 : Option Addr) (len0 cap0 : Nat) (z0 : List Int) (w : World) (w0 : IsRow .i64 w a0 len0 cap0 z0) :
    Calls Try.prog 5 #[.slice a0 len0 cap0] w fun e w' => e = .returned (.bool true) ∧ Below w.heap.size w w' := by
  obtain ⟨hn, hl, hc⟩ := nums_of w0
  unfold maxLen at hc
  have HN := hid (new_ok a0 len0 cap0 w hn hl hc)
  have HAw := hid awake_any
  clear w0 hn hl hc
  go_enter Try.func5, Try.ntmps5
  go_wp2_with fail
  refine HN.out.mono ?_
  rintro e w1 ⟨rfl, HS, hb1⟩
  have HB1 := hid hb1
  have HBt := hid (built_ok w.heap.size w.heap.size (Nat.le_refl _) w1 hb1.size HS.out)
  clear hb1 HN
  go_wp2_with fail
  refine HBt.out.mono ?_
  rintro e w2 ⟨x, hx, rfl, H2⟩
  have HB2 := hid (HB1.out.grown H2.out.1 HB1.out.size (fun k e => by cases e; exact Nat.le_refl _))
  have HS2 := hid H2.out.2
  clear H2 HBt HS
  go_wp2_with fail
  refine (n_ok w.heap.size w.heap.size (Nat.le_refl _) 8 (by omega) (by omega) w2 HS2.out).mono ?_
  rintro e w3 ⟨k, k0, k8, rfl, H3⟩
  have HB3 := hid (HB2.out.grown H3.out.1 HB2.out.size (fun k e => by cases e; exact Nat.le_refl _))
  clear H3 HS2
  have hxs : x.size ≤ 9223372036854775000 := by omega
  have HV := hid (vis_any x (by omega))
  have HH := hid (hid_any x (by omega))
  have HNm := hid (name_any x (by omega))
  have HL := hid (leg_any x k hxs)
  have HP := hid (part_any x (1 + k % 4) hxs)
  have HR := hid (root_any x (by omega))
  have A1 := hid (ans_leg x.data.toList k)
  have A2 := hid (ans_part x.data.toList (1 + k % 4))
  have hvh : visL x.data.toList = true → hidL x.data.toList = false := vis_hid
  have hok : (visL x.data.toList || hidL x.data.toList) = true → nameL x.data.toList = true := ok_name
  generalize legT x.data.toList k = la at *
  generalize partL x.data.toList (1 + k % 4) = pa at *
  obtain ⟨a, ea⟩ := la
  obtain ⟨b, eb⟩ := pa
  simp only at HL HP A1 A2
  generalize visL x.data.toList = vb at *
  generalize hidL x.data.toList = hb at *
  generalize nameL x.data.toList = nb at *
  have hcase : (vb = true ∧ hb = false ∧ nb = true) ∨ (vb = false ∧ hb = true ∧ nb = true) ∨ (vb = false ∧ hb = false) := by
    cases vb <;> cases hb <;> simp_all
  clear hvh hok
  rcases hcase with ⟨rfl, rfl, rfl⟩ | ⟨rfl, rfl, rfl⟩ | ⟨rfl, rfl⟩
  go_wp2_with fail
  refine (HV.out _).mono ?_
  rintro e v40 ⟨rfl, hb40⟩
  have HB40 := hid (bt HB3.out hb40)
  clear hb40
  go_wp2_with fail
  refine (HH.out _).mono ?_
  rintro e v41 ⟨rfl, hb41⟩
  have HB41 := hid (bt HB40.out hb41)
  clear hb41
  go_wp2_with fail
  refine (HV.out _).mono ?_
  rintro e v42 ⟨rfl, hb42⟩
  have HB42 := hid (bt HB41.out hb42)
  clear hb42
  go_wp2_with fail
  refine (HNm.out _).mono ?_
  rintro e v4 ⟨rfl, hb4⟩
  have HB4 := hid (bt HB42.out hb4)
  clear hb4
  go_wp2_with fail
  rotate_left
  go_wp2_with fail
  refine (HV.out _).mono ?_
  rintro e v40 ⟨rfl, hb40⟩
  have HB40 := hid (bt HB3.out hb40)
  clear hb40
  go_wp2_with fail
  refine (HV.out _).mono ?_
  rintro e v41 ⟨rfl, hb41⟩
  have HB41 := hid (bt HB40.out hb41)
  clear hb41
  go_wp2_with fail
  refine (HH.out _).mono ?_
  rintro e v42 ⟨rfl, hb42⟩
  have HB42 := hid (bt HB41.out hb42)
  clear hb42
  go_wp2_with fail
  refine (HNm.out _).mono ?_
  rintro e v4 ⟨rfl, hb4⟩
  have HB4 := hid (bt HB42.out hb4)
  clear hb4
  go_wp2_with fail
  rotate_left
  go_wp2_with fail
  refine (HV.out _).mono ?_
  rintro e v40 ⟨rfl, hb40⟩
  have HB40 := hid (bt HB3.out hb40)
  clear hb40
  go_wp2_with fail
  refine (HV.out _).mono ?_
  rintro e v41 ⟨rfl, hb41⟩
  have HB41 := hid (bt HB40.out hb41)
  clear hb41
  go_wp2_with fail
  refine (HH.out _).mono ?_
  rintro e v4 ⟨rfl, hb4⟩
  have HB4 := hid (bt HB41.out hb4)
  clear hb4
  go_wp2_with fail
  rotate_left
  all_goals
    refine (HL.out _).mono ?_
    rintro e v5 ⟨rfl, hb5⟩
    have HB5 := hid (bt HB4.out hb5)
    clear hb5
    go_wp2_with fail
    refine (HP.out _).mono ?_
    rintro e v6 ⟨rfl, hb6⟩
    have HB6 := hid (bt HB5.out hb6)
    clear hb6
    go_wp2_with fail
    obtain ⟨g, hg⟩ : ∃ g, g = v6.heap.size := ⟨_, rfl⟩
    obtain ⟨W0, hW0⟩ : ∃ W0, W0 = (v6.alloc (.cells #[.string (bs a), .string (bs b)] 9)).alloc (.cells #[.int .i64 ea, .int .i64 eb] 32) := ⟨_, rfl⟩
    have C0 := hid (show W0.cell? ⟨g, 0, none⟩ = some (.string (bs a)) by rw [hW0, hg]; simp [go_sem])
    have C1 := hid (show W0.cell? ⟨g, 1, none⟩ = some (.string (bs b)) by rw [hW0, hg]; simp [go_sem])
    have D0 := hid (show W0.cell? ⟨g + 1, 0, none⟩ = some (.int .i64 ea) by rw [hW0, hg]; simp [go_sem])
    have D1 := hid (show W0.cell? ⟨g + 1, 1, none⟩ = some (.int .i64 eb) by rw [hW0, hg]; simp [go_sem])
    have HB7 := hid (show Below w.heap.size w W0 by rw [hW0]; exact (HB6.out.alloc HB6.out.size _).alloc (by have := HB6.out.size; simp; omega) _)
    have hs0 : W0.heap.size = g + 2 := by rw [hW0, hg]; simp
    rw [← hW0]
    clear hW0
    rw [← hg]
    clear hg
    go_loopw [12] (fun iv wr => ∃ i : Nat, i ≤ 2 ∧ iv = .int .i64 (i : Int) ∧ Hid (Below W0.heap.size W0 wr)) (fun iv _ => 2 - (intOf iv).toNat)
    case atStart => exact ⟨0, by omega, rfl, hid (Below.refl _ _)⟩
    case round =>
      obtain ⟨i, hi, rfl, HBr⟩ := hrel
      by_cases h2 : i < 2
      · obtain ⟨t, et, HA, c0, d0⟩ : ∃ t et, Hid (Ans x.data.toList t et) ∧ wr.cell? ⟨g, i, none⟩ = some (.string (bs t)) ∧ wr.cell? ⟨g + 1, i, none⟩ = some (.int .i64 et) := by
          have e1 := fun (p : Addr) (h : p.block < W0.heap.size) => HBr.out.cell (p := p) h
          rcases (show i = 0 ∨ i = 1 by omega) with rfl | rfl
          · exact ⟨a, ea, A1, (e1 ⟨g, 0, none⟩ (by rw [hs0]; show g < g + 2; omega)).trans C0.out, (e1 ⟨g + 1, 0, none⟩ (by rw [hs0]; show g + 1 < g + 2; omega)).trans D0.out⟩
          · exact ⟨b, eb, A2, (e1 ⟨g, 1, none⟩ (by rw [hs0]; show g < g + 2; omega)).trans C1.out, (e1 ⟨g + 1, 1, none⟩ (by rw [hs0]; show g + 1 < g + 2; omega)).trans D1.out⟩
        have hi2 : (i : Int) < 2 := by omega
        rcases HA.out with ⟨rfl, h1, h2, h3, h4, h5⟩ | ⟨h1, h2⟩
        · have HP1 := hid (par_any (bs t) (by rw [bs_size]; omega))
          have HH1 := hid (hid_any (bs t) (by rw [bs_size]; omega))
          have HR1 := hid (root_any (bs t) (by rw [bs_size]; omega))
          rw [bs_data, h2, bs_self] at HP1
          rw [bs_data, h3] at HH1
          rw [bs_data, h4] at HR1
          have CC := hid c0
          clear HA h1 h2 h3 h4 h5
          go_wp2_with fail
          refine (HP1.out _).mono ?_
          rintro e v8 ⟨rfl, hb8⟩
          have HB8 := hid (HBr.out.trans (hb8.mono HBr.out.size))
          have c8 : v8.cell? ⟨g, i, none⟩ = some (.string (bs t)) := (hb8.cell (p := ⟨g, i, none⟩) (block_lt_of_cell c0)).trans CC.out
          clear hb8 c0 d0
          go_wp2_with fail
          refine (HH1.out _).mono ?_
          rintro e v9 ⟨rfl, hb9⟩
          have HB9 := hid (HB8.out.trans (hb9.mono HB8.out.size))
          have c9 : v9.cell? ⟨g, i, none⟩ = some (.string (bs t)) := (hb9.cell (p := ⟨g, i, none⟩) (block_lt_of_cell c8)).trans c8
          clear hb9 c8
          go_wp2_with fail
          refine (HR1.out _).mono ?_
          rintro e v10 ⟨rfl, hb10⟩
          have HB10 := hid (HB9.out.trans (hb10.mono HB9.out.size))
          clear hb10 c9
          go_wp2_with fail
          refine (HR.out _).mono ?_
          rintro e v11 ⟨rfl, hb11⟩
          have HB11 := hid (HB10.out.trans (hb11.mono HB10.out.size))
          clear hb11
          go_wp2_with fail
          go_roundw
          case rel => exact ⟨i + 1, by omega, by go_num, HB11⟩
          case measure => simp [intOf]; omega
        · have h1' : ¬ et = 0 := h1
          clear h2 HA
          go_wp2_with fail
          go_roundw
          case rel => exact ⟨i + 1, by omega, by go_num, HBr⟩
          case measure => simp [intOf]; omega
      · obtain rfl : i = 2 := by omega
        go_wp2_with fail
        refine (HAw.out _).mono ?_
        rintro e v8 ⟨rfl, hb8⟩
        have HB8 := hid (HBr.out.trans (hb8.mono HBr.out.size))
        clear hb8
        go_wp2_with fail
        go_ret
        exact ⟨rfl, HB7.out.trans (HB8.out.mono HB7.out.size)⟩

set_option maxRecDepth 100000 in
theorem lifted (os : Os) (started : os.Started) (H : Type) (enc : TypeId × Value → H) :
    ReturnsInHanded {} Try.checked os 5 .any (Rows.namesBackSpec.pre6 enc Try.prog Try.f5 Rows.namesBackRow.domain false) (Rows.namesBackSpec.post enc Try.prog Try.f5 false true false false) := by
  refine returnsInHanded_of_change (C := Try.checked) own started (by kernel_rfl) Try.func5
    (ChangeSpec.witness6 (enc := enc) (C := Try.checked) false ⟨#[], #[.slice none 0 0], []⟩ 8 (by kernel_rfl) (by kernel_rfl) (by kernel_rfl) (by kernel_rfl)) ?_
  intro W base args ds gs before hval0 hW hcnd _
  have hval : ∀ (j : Nat) t v, Try.f5.params[j]? = some t → args[j]? = some v → Value.okWide Try.prog W .any base t v := hval0
  have hW' := hW
  obtain ⟨p, q, hA0, hV, rfl, hfz, hnd⟩ := hW
  have hA : DataW.TrodAll enc Try.prog W 0 (fun _ => true) true Try.f5.params.toList args.toList ds p := hA0
  rw [Try.params5] at hA hval
  obtain ⟨v0, vs0, d0, ds0, p0, q0, hargs, rfl, rfl, h0, r0⟩ := trodAll_cons hA
  obtain ⟨rfl, rfl, rfl⟩ := trodAll_nil r0
  obtain rfl : args = #[v0] := by cases args; simp_all
  obtain ⟨rfl, rfl⟩ := trodVars_none hV
  obtain ⟨a0, len0, cap0, rfl⟩ := okWide_slice Try.underlying24 (hval 0 24 v0 rfl rfl)
  have k0 := h0
  have lt0 : ∀ x ∈ p0, x.block < W.heap.size := by obtain ⟨m, hm⟩ := k0; exact DataW.trod_lt m _ _ _ hm
  obtain ⟨z0, w0⟩ : ∃ zs, IsRow .i64 W a0 len0 cap0 zs := by
    obtain ⟨fuel, hf⟩ := h0
    rcases open_ints Try.underlying24 Try.underlying3 (by kernel_rfl) hf with ⟨hcs, _⟩ | ⟨x, l, c, zs, hcs, _, hl, hm, hz, _, hcell, hwz⟩
    · simp [Value.cells] at hcs
      obtain ⟨rfl, rfl, rfl⟩ := hcs
      exact ⟨[], .inl ⟨rfl, rfl, rfl, rfl⟩⟩
    · simp [Value.cells] at hcs
      obtain ⟨rfl, rfl, rfl⟩ := hcs
      exact ⟨zs, .inr ⟨_, rfl, hl, hm, by simpa using hz, hcell, hwz⟩⟩
  clear hA0 hval0
  refine (walk a0 len0 cap0 z0 W w0).mono fun e W' ⟨he, bel⟩ => ?_
  subst he
  exact ⟨_, rfl, _, _, _, [], _, [], hW', trodAll_mk1 (shut_bool Try.underlying4 _), (trodAll_cons_mk (Below.trod laidOut (by kernel_rfl) (of_decide_eq_true (by kernel_rfl)) k0 bel lt0) trodAll_mk0), rfl, bel.frame _, fun h => by cases h⟩

theorem over : Rows.namesBackRow.holds Try.pinned (OpenSpec.ofChange Rows.namesBackSpec) :=
  OpenClaim.holds_of_wide 5 Try.f5 rfl rfl rfl rfl rfl rfl rfl ⟨rfl, rfl, rfl, rfl, rfl⟩ rfl rfl rfl rfl rfl (by kernel_rfl) Try.func5 (by kernel_rfl)
    (of_decide_eq_true (by kernel_rfl)) (by unfold Func.isWrapper; first | (rw [if_pos (by decide +kernel)]; kernel_rfl) | (rw [if_neg (by decide +kernel)]; exact ⟨rfl, rfl⟩))
    (fun os started H enc _ => lifted os started H enc)

theorem proved : Rows.NamesBackSaid := over
#print axioms proved
end Go.Proofs.Ytdpclmogfnigdaa.namesBack
