/- Any calls on both space maps: they agree after each. No conditions but those of each theorem. -/
import Derived.Test.YtablogkafbajaaaQ
namespace Go.Proofs.Ytablogkafbajaaa
open Go.ChangeShapes Go.WideShapes Go.ChangeAt Go.RowKit
set_option linter.unusedVariables false
set_option linter.unusedSimpArgs false

/-- what play leaves -/
def Played (n₀ B : Nat) (W W' : World) (e : Ending) : Prop := ∃ M a ca b cb R c cc d cd X Y, e = .returned (.tuple #[.pointer (some ⟨M, 0, none⟩), .pointer (some ⟨R, 0, none⟩), .bool true]) ∧ X.length ≤ 9 ∧ Hid (ST n₀ B W W' M a ca b cb R c cc d cd X Y X Y)
theorem src_grown {n₀ B : Nat} {W W' : World} {row : Option Nat} (h : SrcOK n₀ B W) (hg : W.grownBy W' row) (hn : n₀ ≤ W.heap.size) (hr : ∀ k, row = some k → B < k ∧ n₀ ≤ k) : SrcOK n₀ B W' :=
  h.kept hg (fun e => by have := (hr B e.symm).1; omega) hn (fun k e => (hr k e).2)
theorem len_al (X Y : List Int) : (alX X Y).length = X.length := by unfold alX; split <;> simp
theorem len_inc (X : List Int) (b : Int) : (incX X b).length = X.length := by unfold incX; split <;> simp
theorem len_dec (X : List Int) (b : Int) : (decX X b).length = X.length := by unfold decX; split <;> simp
theorem st_new {n₀ B : Nat} {W W7 wr wL : World} {M a ca b cb R c cc d cd : Nat} {X Y U V : List Int} (hp : SM 66 W7 M a ca b cb X Y) (hr : SM 51 W7 R c cc d cd U V) (hs : SrcOK n₀ B W7) (hb : Below n₀ W W7) (hn : n₀ ≤ wr.heap.size) (hB : n₀ ≤ B) (hBl : B < wr.heap.size) (h1 : wr.heap.size ≤ M ∧ wr.heap.size ≤ a ∧ wr.heap.size ≤ b) (h2 : M < wL.heap.size ∧ a < wL.heap.size ∧ b < wL.heap.size) (h3 : wL.heap.size ≤ R ∧ wL.heap.size ≤ c ∧ wL.heap.size ≤ d) (hs7 : wr.heap.size ≤ W7.heap.size) : ST n₀ B W W7 M a ca b cb R c cc d cd X Y U V := by
  have e1 := hp.na
  have e2 := hp.nb
  have e3 := hp.ab
  have e4 := hr.na
  have e5 := hr.nb
  refine ⟨hp, hr, hs, hb, by omega, ?_, ?_, ?_, ?_, by omega, by omega⟩
  · simp
    exact ⟨⟨by omega, by omega, by omega, by omega⟩, ⟨e1, e2, by omega⟩, ⟨e3, by omega⟩, by omega⟩
  · simp; exact ⟨by omega, by omega, by omega, by omega, by omega⟩
  · simp; exact ⟨by omega, by omega, by omega, by omega, by omega⟩
  · intro q hq
    simp at hq
    rcases hq with rfl | rfl | rfl | rfl | rfl <;> omega
set_option maxRecDepth 100000 in
set_option maxHeartbeats 8000000 in
theorem play_ok (n₀ B : Nat) (steps : Int) (W : World) (hB : n₀ ≤ B) (hn : n₀ ≤ W.heap.size) (h0 : 0 ≤ steps) (h1 : steps ≤ 100) (hS : SrcOK n₀ B W) :
    Calls Try.prog 15 #[.pointer (some ⟨B, 0, none⟩), .int .i64 steps] W fun e W' => Played n₀ B W W' e := by
  have hBl := hS.lt
  have HR := hid (range_ok n₀ B hB 1 9 (by omega) (by omega) (by omega) W hS)
  obtain ⟨i0, hi, hz0, hz1, hz2⟩ := info_parts Try.info3
  have HI := hid hi; have HZ0 := hid hz0; have HZ1 := hid hz1; have HZ2 := hid hz2
  clear hi hz0 hz1 hz2 hS
  go_enter Try.func15, Try.ntmps15
  go_wp2_with fail
  refine HR.out.mono ?_
  rintro e w1 ⟨z, z1, z9, rfl, H1⟩
  obtain ⟨n, rfl⟩ : ∃ n : Nat, z = n := ⟨z.toNat, by omega⟩
  have hs1 := H1.out.1.size
  have HG1 := hid H1.out.1
  have HS1 := hid H1.out.2
  clear H1 HR
  go_wp2_with fail
  go_loopw [8, 9] (fun av iv wr => ∃ (k : Nat) (K : List Int), k ≤ n ∧ iv = .int .i64 (k : Int) ∧ K.length = k ∧ Hid (okc K) ∧ Hid (wr.ownsRow w1.heap.size 3 1 av k (vi K)) ∧ Hid (SrcOK n₀ B wr) ∧ Hid (Below n₀ W wr) ∧ Hid (w1.heap.size ≤ wr.heap.size)) (fun _ iv _ => n - (intOf iv).toNat)
  case atStart => exact ⟨0, [], by omega, rfl, rfl, hid (fun j hj => by simp at hj), hid (World.ownsRow_nil _ _ _ _), HS1, hid ((Below.refl n₀ W).grown HG1.out hn (fun k e => by cases e; exact hB)), hid (Nat.le_refl _)⟩
  case round =>
    clear HS1
    obtain ⟨k, K, hk, rfl, hK, HK, HO, HS, HBl, HSz⟩ := hrel
    by_cases hlt : k < n
    · have hlt' : (k : Int) < (n : Int) := by omega
      have hsz := HSz.out
      have hBw := HS.out.lt
      have gA := World.grownBy_alloc wr (.cells #[.int .i64 0, .int .i64 0, .int .i64 0, .int .i64 1, .int .i64 1, .int .i64 2, .int .i64 3, .int .i64 65535, .int .i64 65534] 3) none
      have HP := hid (pick_ok n₀ B hB wr.heap.size 9 L9 (by decide) (by decide) _ (by omega) (row9 wr) (HS.out.kept gA (by simp) (by omega) (fun k e => by cases e)))
      have hWn : n₀ ≤ wr.heap.size := by omega
      have HOA := hid (HO.out.alloc (.cells #[.int .i64 0, .int .i64 0, .int .i64 0, .int .i64 1, .int .i64 1, .int .i64 2, .int .i64 3, .int .i64 65535, .int .i64 65534] 3))
      have HBA := hid (HBl.out.alloc hWn (.cells #[.int .i64 0, .int .i64 0, .int .i64 0, .int .i64 1, .int .i64 1, .int .i64 2, .int .i64 3, .int .i64 65535, .int .i64 65534] 3))
      have hsA := hid gA.size
      clear HO HBl HS gA
      go_wp2_with fail
      refine HP.out.mono ?_
      rintro e w2 ⟨j, hj, rfl, H2⟩
      have hv := L9_in j hj
      have HB2 := hid (HBA.out.grown H2.out.1 (by have := hsA.out; omega) (fun k e => by cases e; exact hB))
      have HO2 := hid (HOA.out.kept H2.out.1 (.inr (fun e => by have := own_base HOA.out _ e; omega)))
      have HS2 := hid H2.out.2
      have hs2 : w1.heap.size ≤ w2.heap.size := by have := H2.out.1.size; have := hsA.out; omega
      generalize ge L9 j = x at *
      clear H2 HP HOA HBA hsA
      obtain ⟨va, vc, hu⟩ := own_slice HO2.out
      subst hu
      have hC5 := hid (show w1.heap.size ≤ (w2.alloc (.cells #[.int .i64 x] 3)).heap.size by simp; omega)
      go_wp2_with (first | (at_builtin; refine wpList_append_own _ rfl _ _ 22 rfl w1.heap.size 3 i0 (.int .i64 0) 1 8 Try.underlying22 HI.out HZ0.out HZ1.out HZ2.out rfl (by decide) _ _ _ rfl (HO2.out.alloc _) ⟨w2.heap.size, 0, none⟩ 1 1 [.int .i64 x] rfl rfl (cell_one_new _ _ _) (by simp [Value.oneCell']) (by unfold maxLen; omega) (by omega) hC5.out ?_; intro y4 w4 hown4 hgrow4 _))
      have hob := own_base HO2.out
      have gA := World.grownBy_alloc w2 (.cells #[.int .i64 x] 3) none
      have HSA := HS2.out.kept gA (by simp) (by omega) (fun k e => by cases e)
      have HS4 := hid (src_grown HSA hgrow4 (by have := gA.size; omega) (fun k e => by have := hob k e; omega))
      have HB4 := hid ((HB2.out.alloc (by omega) _).grown hgrow4 (by have := gA.size; omega) (fun k e => by have := hob k e; omega))
      have hs4 := hid (show w1.heap.size ≤ w4.heap.size by have := gA.size; have := hgrow4.size; omega)
      have HK4 := hid (okc_app HK.out hv.1 hv.2)
      have HO4 := hid (show w4.ownsRow w1.heap.size 3 1 y4 (k + 1) (vi (K ++ [x])) by simpa [vi] using hown4)
      clear hown4 hgrow4 HSA gA hob
      go_roundw
      case rel => exact ⟨k + 1, K ++ [x], by omega, by go_num, by simp [hK], HK4, HO4, HS4, HB4, hs4⟩
      case measure => simp [intOf]; omega
    · obtain rfl : k = n := by omega
      obtain ⟨g, gc, rfl, hg, hRow⟩ := row_of HO.out (by omega) hK.symm
      have HRow := hid hRow
      subst hK
      have hpos : 1 ≤ K.length := by omega
      have hK9 : K.length ≤ 9 := by omega
      have hBw := HS.out.lt
      have hwn : n₀ ≤ wr.heap.size := Nat.le_trans hn HBl.out.size
      clear hRow HO
      go_wp2_with fail
      refine (load_ok (some ⟨g, 0, none⟩) gc K wr hpos (by omega) HRow.out.arg).mono ?_
      rintro e wL ⟨h1, h2, hbL⟩
      obtain ⟨M, a, ca, b, cb, rfl, hids, SP⟩ := h1 HK.out
      have HRowL := hid (HRow.out.kept (grown_below hbL) (by simp))
      have HSL := hid (HS.out.kept (grown_below hbL) (by simp) hwn (fun k e => by cases e))
      have HBL := hid (HBl.out.trans (hbL.mono hwn))
      have hsL := hbL.size
      have hwL : n₀ ≤ wL.heap.size := by omega
      clear h1 h2 hbL HRow HS HBl
      go_wp2_with fail
      refine (rload_ok (some ⟨g, 0, none⟩) gc K wL hpos (by omega) HRowL.out.arg).mono ?_
      rintro e w7 ⟨h1, h2, hb7⟩
      obtain ⟨R, c, cc, d, cd, rfl, hids2, SR⟩ := h1 HK.out
      have SP7 := hid (SP.out.below hb7)
      have HS7 := hid (HSL.out.kept (grown_below hb7) (by simp) hwL (fun k e => by cases e))
      have HB7 := hid (HBL.out.trans (hb7.mono hwL))
      have hs7 := hb7.size
      have HT0 := hid (st_new SP7.out SR.out HS7.out HB7.out hwn hB hBw hids ⟨SP.out.lt, SP.out.ra.lt, SP.out.rb.lt⟩ hids2 (by omega))
      clear h1 h2 hb7 HRowL HSL HBL SP SP7 HS7 HB7 SR hids hids2
      go_wp2_with fail
      refine (same_ok HT0.out.p HT0.out.r).mono ?_
      rintro e w8 ⟨rfl, hb8⟩
      have HT8 := hid (HT0.out.below hb8)
      clear hb8 HT0
      go_wp2_with fail
      go_loopw [14] (fun iv wr => ∃ (i : Nat) (c cc d cd : Nat) (X Y : List Int), (i : Int) ≤ steps ∧ iv = .int .i64 (i : Int) ∧ X.length = K.length ∧ Hid (ST n₀ B W wr M a ca b cb R c cc d cd X Y X Y)) (fun iv _ => (steps - intOf iv).toNat)
      case atStart => exact ⟨0, c, cc, d, cd, K, K, by omega, rfl, rfl, HT8⟩
      case round =>
        clear HT8
        obtain ⟨i, c, cc, d, cd, X, Y, hi, rfl, hX, HT⟩ := hrel
        by_cases hlt : (i : Int) < steps
        · have HN := hid (n_ok n₀ B hB ((K.length : Int) + 2) (by omega) (by omega) _ HT.out.s)
          go_wp2_with fail
          refine HN.out.mono ?_
          rintro e v1 ⟨q, q0, q1, rfl, H1⟩
          have HS1 := hid (HT.out.src H1.out.1 H1.out.2)
          clear H1 HN HT
          have HN := hid (n_ok n₀ B hB 7 (by omega) (by omega) _ HS1.out.s)
          go_wp2_with fail
          refine HN.out.mono ?_
          rintro e v2 ⟨z, z0, z7, rfl, H2⟩
          have HS := hid (HS1.out.src H2.out.1 H2.out.2)
          clear H2 HN HS1
          have hz : z = 0 ∨ z = 1 ∨ z = 2 ∨ z = 3 ∨ z = 4 ∨ z = 5 ∨ z = 6 := by omega
          clear z0 z7
          rcases hz with rfl | rfl | rfl | rfl | rfl | rfl | rfl
          · go_wp2_with fail
            refine (alloc_ok HS.out.p).mono ?_
            rintro e v1 ⟨rfl, H1⟩
            have HT1 := hid (HS.out.prog H1.out.2 (.inl rfl) H1.out.1)
            clear H1 HS
            go_wp2_with fail
            refine (ralloc_ok HT1.out.r).mono ?_
            rintro e v2 ⟨rfl, H2⟩
            have HT := hid (HT1.out.ref H2.out.2 H2.out.1)
            clear H2 HT1
            go_wp2_with fail
            refine (same_ok HT.out.p HT.out.r).mono ?_
            rintro e v9 ⟨rfl, hb9⟩
            have HT9 := hid (HT.out.below hb9)
            clear hb9 HT
            go_wp2_with fail
            go_roundw
            case rel => exact ⟨i + 1, _, _, _, _, _, _, by omega, by go_num, by rw [len_al, hX], HT9⟩
            case measure => simp [intOf]; omega
          · go_wp2_with fail
            refine (alloc_ok HS.out.p).mono ?_
            rintro e v1 ⟨rfl, H1⟩
            have HT1 := hid (HS.out.prog H1.out.2 (.inl rfl) H1.out.1)
            clear H1 HS
            go_wp2_with fail
            refine (ralloc_ok HT1.out.r).mono ?_
            rintro e v2 ⟨rfl, H2⟩
            have HT := hid (HT1.out.ref H2.out.2 H2.out.1)
            clear H2 HT1
            go_wp2_with fail
            refine (same_ok HT.out.p HT.out.r).mono ?_
            rintro e v9 ⟨rfl, hb9⟩
            have HT9 := hid (HT.out.below hb9)
            clear hb9 HT
            go_wp2_with fail
            go_roundw
            case rel => exact ⟨i + 1, _, _, _, _, _, _, by omega, by go_num, by rw [len_al, hX], HT9⟩
            case measure => simp [intOf]; omega
          · go_wp2_with fail
            refine (inc_ok HS.out.p (q - 1)).mono ?_
            rintro e v1 ⟨rfl, H1⟩
            have HT1 := hid (HS.out.prog H1.out.2 (.inl rfl) H1.out.1)
            clear H1 HS
            go_wp2_with fail
            refine (rinc_ok HT1.out.r (q - 1)).mono ?_
            rintro e v2 ⟨rfl, H2⟩
            have HT := hid (HT1.out.ref H2.out.2 H2.out.1)
            clear H2 HT1
            go_wp2_with fail
            refine (same_ok HT.out.p HT.out.r).mono ?_
            rintro e v9 ⟨rfl, hb9⟩
            have HT9 := hid (HT.out.below hb9)
            clear hb9 HT
            go_wp2_with fail
            go_roundw
            case rel => exact ⟨i + 1, _, _, _, _, _, _, by omega, by go_num, by rw [len_inc, hX], HT9⟩
            case measure => simp [intOf]; omega
          · go_wp2_with fail
            refine (dec_ok HS.out.p (q - 1)).mono ?_
            rintro e v1 ⟨rfl, H1⟩
            have HT1 := hid (HS.out.prog H1.out.2 (.inl rfl) H1.out.1)
            clear H1 HS
            go_wp2_with fail
            refine (rdec_ok HT1.out.r (q - 1)).mono ?_
            rintro e v2 ⟨rfl, H2⟩
            have HT := hid (HT1.out.ref H2.out.2 H2.out.1)
            clear H2 HT1
            go_wp2_with fail
            refine (same_ok HT.out.p HT.out.r).mono ?_
            rintro e v9 ⟨rfl, hb9⟩
            have HT9 := hid (HT.out.below hb9)
            clear hb9 HT
            go_wp2_with fail
            go_roundw
            case rel => exact ⟨i + 1, _, _, _, _, _, _, by omega, by go_num, by rw [len_dec, hX], HT9⟩
            case measure => simp [intOf]; omega
          · go_wp2_with fail
            refine (dec_ok HS.out.p (q - 1)).mono ?_
            rintro e v1 ⟨rfl, H1⟩
            have HT1 := hid (HS.out.prog H1.out.2 (.inl rfl) H1.out.1)
            clear H1 HS
            go_wp2_with fail
            refine (rdec_ok HT1.out.r (q - 1)).mono ?_
            rintro e v2 ⟨rfl, H2⟩
            have HT := hid (HT1.out.ref H2.out.2 H2.out.1)
            clear H2 HT1
            go_wp2_with fail
            refine (same_ok HT.out.p HT.out.r).mono ?_
            rintro e v9 ⟨rfl, hb9⟩
            have HT9 := hid (HT.out.below hb9)
            clear hb9 HT
            go_wp2_with fail
            go_roundw
            case rel => exact ⟨i + 1, _, _, _, _, _, _, by omega, by go_num, by rw [len_dec, hX], HT9⟩
            case measure => simp [intOf]; omega
          · go_wp2_with fail
            refine (commit_ok HS.out.p).mono ?_
            rintro e v1 ⟨rfl, H1⟩
            have HT1 := hid (HS.out.prog H1.out.2 (.inr rfl) H1.out.1)
            clear H1 HS
            go_wp2_with fail
            refine (rcommit_ok HT1.out.r).mono ?_
            rintro e v2 ⟨rfl, d', cd', hd', H2⟩
            have HT := hid (HT1.out.ref1 H2.out.2 hd' H2.out.1)
            clear H2 HT1
            go_wp2_with fail
            refine (same_ok HT.out.p HT.out.r).mono ?_
            rintro e v9 ⟨rfl, hb9⟩
            have HT9 := hid (HT.out.below hb9)
            clear hb9 HT
            go_wp2_with fail
            go_roundw
            case rel => exact ⟨i + 1, _, _, _, _, _, _, by omega, by go_num, hX, HT9⟩
            case measure => simp [intOf]; omega
          · have hlen := HS.out.p.len
            have HN := hid (n_ok n₀ B hB 3 (by omega) (by omega) _ HS.out.s)
            go_wp2_with fail
            refine HN.out.mono ?_
            rintro e v3 ⟨y, y0, y3, rfl, H3⟩
            have HS := hid (HS.out.src H3.out.1 H3.out.2)
            clear H3 HN
            by_cases hy : y = 0
            · subst hy
              go_wp2_with fail
              refine (rollback_ok HS.out.p).mono ?_
              rintro e v1 ⟨rfl, H1⟩
              have HT1 := hid (HS.out.prog H1.out.2 (.inl rfl) H1.out.1)
              clear H1 HS
              go_wp2_with fail
              refine (rrollback_ok HT1.out.r).mono ?_
              rintro e v2 ⟨rfl, d', cd', hd', H2⟩
              have HT := hid (HT1.out.ref0 H2.out.2 hd' H2.out.1)
              clear H2 HT1
              go_wp2_with fail
              refine (same_ok HT.out.p HT.out.r).mono ?_
              rintro e v9 ⟨rfl, hb9⟩
              have HT9 := hid (HT.out.below hb9)
              clear hb9 HT
              go_wp2_with fail
              go_roundw
              case rel => exact ⟨i + 1, _, _, _, _, _, _, by omega, by go_num, by rw [hlen, hX], HT9⟩
              case measure => simp [intOf]; omega
            · have HT := HS
              clear HS
              go_wp2_with fail
              refine (same_ok HT.out.p HT.out.r).mono ?_
              rintro e v9 ⟨rfl, hb9⟩
              have HT9 := hid (HT.out.below hb9)
              clear hb9 HT
              go_wp2_with fail
              go_roundw
              case rel => exact ⟨i + 1, _, _, _, _, _, _, by omega, by go_num, hX, HT9⟩
              case measure => simp [intOf]; omega
        · have hi2 : (i : Int) = steps := by omega
          have hlt' : ¬ (i : Int) < steps := hlt
          go_wp2_with fail
          go_ret3
          exact ⟨M, a, ca, b, cb, R, c, cc, d, cd, X, Y, rfl, by omega, HT⟩
end Go.Proofs.Ytablogkafbajaaa
