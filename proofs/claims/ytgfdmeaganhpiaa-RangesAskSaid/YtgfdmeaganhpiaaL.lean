/- The walk of layer 3: what a union, a difference and an intersection return. No conditions but those of each theorem. -/
import Derived.Test.YtgfdmeaganhpiaaK
namespace Go.Proofs.Ytgfdmeaganhpiaa.Old
open Go.ChangeShapes Go.WideShapes Go.ChangeAt Go.RowKit
set_option linter.unusedVariables false
set_option linter.unusedSimpArgs false

theorem Rg.kept2 {n : Nat} {W W' : World} {a : Option Addr} {len : Nat} {rs : List Rn} (h : Rg n W a len rs) (hb : Below n W W') (hn : n ≤ W'.heap.size) : Rg W'.heap.size W' a len rs := by
  have := h.below hb
  refine ⟨this.1, this.2.1, this.2.2.imp id fun ⟨b, off, e, h1, h2⟩ => ⟨b, off, e, Nat.lt_of_lt_of_le h1 hn, h2⟩⟩

theorem below_grown {W W' : World} (h : Below W.heap.size W W') : W.grownBy W' none := ⟨h.os, h.tape, h.output, h.size, fun i hi _ => h.block i hi⟩
/-- what newCursor left is a cursor in front of all ends -/
theorem cu_of {W W' : World} {base : Nat} {ev : Value} {E : List Int} {B : Nat} {n : Nat} (hn : E.length = n) (ho : W.ownsRow base 3 1 ev n (vi E)) (hg : W.grownBy W' none) (hP : Pr W' B 51 ev (.bool false)) (hB : W.heap.size ≤ B) : ∃ g, Cu W' B g E 0 ∧ (E ≠ [] → base ≤ g ∧ g < W.heap.size) := by
  rcases ho.2 with ⟨hv, h0⟩ | ⟨g, cap, cur, hv, hb, hh, hc, hm, _⟩
  · have : E = [] := List.length_eq_zero_iff.1 (by omega)
    subst this
    subst hv
    exact ⟨0, ⟨⟨none, 0, hP, by simp, by unfold maxLen; omega, fun h => by simp at h⟩, by omega, fun j hj => by simp at hj, fun h => absurd rfl h, fun h => absurd rfl h⟩, fun h => absurd rfl h⟩
  · have hlt : g < W.heap.size := (Array.getElem?_eq_some_iff.1 hh).1
    subst hv
    refine ⟨g, ⟨⟨some ⟨g, 0, none⟩, cap, by rw [hn]; exact hP, by omega, hm, fun _ => rfl⟩, by omega, fun j hj => ?_, fun _ => Nat.lt_of_lt_of_le hlt hg.size, fun _ => by omega⟩, fun _ => ⟨hb, hlt⟩⟩
    rw [World.cell?_of_block (a := ⟨g, j, none⟩) (hg.block g hlt (by simp)), ho.cellAt j (by omega)]
    simp [vi, List.getElem?_eq_getElem hj]

set_option maxRecDepth 100000 in
set_option maxHeartbeats 4000000 in
theorem walk_any (f : Nat) (cf : Bool → Bool → Bool) (h0 : cf false false = false) (ef : ∀ args w, (callFunc f args).run Try.prog w = .ok (.enter f args) w) (hcl : ∀ p q w, Calls Try.prog f #[.bool p, .bool q] w fun e w' => e = .returned (.bool (cf p q)) ∧ w' = w)
    (a b : Option Addr) (len cap len2 cap2 : Nat) (rs rs2 : List Rn) (hbig : len ≤ 10000) (hbig2 : len2 ≤ 10000) (hv : ∀ r ∈ rs, Vld r) (hv2 : ∀ r ∈ rs2, Vld r) (w : World) (hR : Rg w.heap.size w a len rs) (hR2 : Rg w.heap.size w b len2 rs2) :
    Calls Try.prog 32 #[.slice a len cap, .slice b len2 cap2, .func (.func f) #[] #[]] w fun e w' => ∃ v', e = .returned (.tuple #[v', .int .i64 0]) ∧ ∃ out, NF out ∧ out.length ≤ 2 * (len + len2) ∧ (∀ n, Mem out n ↔ cf (decide (Mem rs n)) (decide (Mem rs2 n)) = true) ∧ Hid (w'.ownsRow w.heap.size 42 2 v' out.length (vr out) ∧ Below w.heap.size w w') := by
  have HR := hid hR; have HR2 := hid hR2; have HV := hid hv; have HV2 := hid hv2
  have HCl := hid hcl
  clear hR hR2 hv hv2 hcl
  go_enter Try.func32, Try.ntmps32
  go_wp2_with fail
  have P0 := hid (Pr.new w 22 (.slice a len cap) (.slice b len2 cap2))
  have hB0 := hid ((Below.refl w.heap.size w).alloc (Nat.le_refl _) (.cells #[.slice a len cap, .slice b len2 cap2] 22))
  have hs0 := hid (show w.heap.size ≤ (w.alloc (.cells #[.slice a len cap, .slice b len2 cap2] 22)).heap.size by simp)
  generalize w.alloc (.cells #[.slice a len cap, .slice b len2 cap2] 22) = wA at *
  refine (check_ok w.heap.size a b len cap len2 cap2 rs rs2 (by omega) (by omega) HV.out HV2.out wA P0.out (HR.out.kept2 hB0.out hs0.out) (HR2.out.kept2 hB0.out hs0.out)).mono ?_
  rintro e w1 ⟨rfl, hb⟩
  have HB1 := hid (hB0.out.trans (hb.mono hs0.out))
  have hs1 := hid (Nat.le_trans hs0.out hb.size)
  clear hB0 P0 hb hs0
  go_wp2_with fail
  refine (cursor_any a len cap rs (by omega) HV.out w1 (HR.out.kept2 HB1.out hs1.out)).mono ?_
  rintro e w2 ⟨ea, rfl, A, hA, hAl, hAm, H2⟩
  have HB2 := hid (HB1.out.trans (H2.out.2.mono hs1.out))
  have hs2 := hid (Nat.le_trans hs1.out H2.out.2.size)
  obtain ⟨ea1, ea2, rfl⟩ := own_slice H2.out.1
  go_wp2_with fail
  refine (cursor_any b len2 cap2 rs2 (by omega) HV2.out w2 (HR2.out.kept2 HB2.out hs2.out)).mono ?_
  rintro e w3 ⟨eb, rfl, B, hB, hBl, hBm, H3⟩
  have HB3 := hid (HB2.out.trans (H3.out.2.mono hs2.out))
  have hs3 := hid (Nat.le_trans hs2.out H3.out.2.size)
  obtain ⟨eb1, eb2, rfl⟩ := own_slice H3.out.1
  clear HR HR2 HV HV2
  go_wp2_with fail
  have hAlen := ends_length A
  have hBlen := ends_length B
  have G3 := hid (grown_trans (World.grownBy_alloc w3 (.cells #[.slice ea1 (2 * A.length) ea2, .bool false] 51) none) (World.grownBy_alloc _ (.cells #[.slice eb1 (2 * B.length) eb2, .bool false] 51) none))
  have PX := hid ((Pr.new w3 51 (.slice ea1 (2 * A.length) ea2) (.bool false)).alloc (.cells #[.slice eb1 (2 * B.length) eb2, .bool false] 51))
  have PY := hid (Pr.new (w3.alloc (.cells #[.slice ea1 (2 * A.length) ea2, .bool false] 51)) 51 (.slice eb1 (2 * B.length) eb2) (.bool false))
  rw [World.size_alloc] at PY
  have hs4 : ((w3.alloc (.cells #[.slice ea1 (2 * A.length) ea2, .bool false] 51)).alloc (.cells #[.slice eb1 (2 * B.length) eb2, .bool false] 51)).heap.size = w3.heap.size + 2 := by simp
  generalize (w3.alloc (.cells #[.slice ea1 (2 * A.length) ea2, .bool false] 51)).alloc (.cells #[.slice eb1 (2 * B.length) eb2, .bool false] 51) = w4 at *
  have h23 : w2.heap.size ≤ w3.heap.size := H3.out.2.size
  obtain ⟨ga, hCa, hga⟩ := cu_of hAlen H2.out.1 (grown_trans (below_grown H3.out.2) G3.out) PX.out h23
  obtain ⟨gb, hCb, hgb⟩ := cu_of hBlen H3.out.1 G3.out PY.out (by omega)
  have hga2 : ends A ≠ [] → ga < w3.heap.size := fun h => Nat.lt_of_lt_of_le (hga h).2 h23
  have hgb2 : ends B ≠ [] → gb < w3.heap.size := fun h => (hgb h).2
  have HGa := hid hga2; have HGb := hid hgb2
  have HCa := hid hCa; have HCb := hid hCb
  have HB4 := hid (HB3.out.grown G3.out hs3.out (fun k e => by cases e))
  have hw3 := hs3.out
  have HA := hid hA; have HBn := hid hB; have HAm := hid hAm; have HBm := hid hBm
  have HW := hid (way_start A B hA hB cf h0)
  clear H2 H3 PX PY G3 hga hgb hga2 hgb2 hCa hCb HB3 HB2 HB1 hs1 hs2 hs3 h23 hA hB hAm hBm
  refine (next_any w4 w3.heap.size ga (ends A) 0 (by omega) HCa.out).mono ?_
  rintro e w5 ⟨rfl, rfl⟩
  go_wp2_with fail
  refine (next_any w5 (w3.heap.size + 1) gb (ends B) 0 (by omega) HCb.out).mono ?_
  rintro e w6 ⟨rfl, rfl⟩
  go_wp2_with fail
  go_loopw [11, 12] (fun ov iv wr => ∃ (x : Int) (p q : Nat) (out : List Rn), iv = .int .i64 x ∧ 0 ≤ x ∧ x ≤ 1073741825 ∧ Hid (WayW A B cf p q x out) ∧ Hid (Cu wr w3.heap.size ga (ends A) p) ∧ Hid (Cu wr (w3.heap.size + 1) gb (ends B) q) ∧ Hid (wr.ownsRow (w3.heap.size + 2) 42 2 ov out.length (vr out)) ∧ Hid (Below w.heap.size w wr ∧ w3.heap.size + 2 ≤ wr.heap.size)) (fun _ iv _ => (1073741826 - intOf iv).toNat)
  case atStart =>
    have n1 := nx_in A HA.out 0
    have n2 := nx_in B HBn.out 0
    exact ⟨_, 0, 0, [], rfl, by omega, by omega, HW, HCa, HCb, hid (World.ownsRow_nil _ _ _ _), hid ⟨HB4.out, by omega⟩⟩
  case round =>
    obtain ⟨x, p, q, out, rfl, x0, x1, HW, HX, HY, HO, HB⟩ := hrel
    by_cases hx : x ≤ 1073741824
    · obtain ⟨p', hp'⟩ : ∃ p', p' = if nx (ends A) p = x then p + 1 else p := ⟨_, rfl⟩
      obtain ⟨q', hq'⟩ : ∃ q', q' = if nx (ends B) q = x then q + 1 else q := ⟨_, rfl⟩
      obtain ⟨y, hy⟩ : ∃ y, y = min (nx (ends A) p') (nx (ends B) q') := ⟨_, rfl⟩
      obtain ⟨⟨_, y1, y2⟩, HT, HF⟩ := way_step A B HA.out HBn.out cf h0 p q x out HW.out hx p' q' hp' hq' y hy
      have HT := hid HT; have HF := hid HF
      have SX := hid (step_any wr w3.heap.size ga (ends A) p x (by omega) HX.out hx)
      rw [← hp'] at SX
      have HQ := hid hq'; have HYe := hid hy
      have hol := HW.out.len
      have hpl := HW.out.hp
      have hql := HW.out.hq
      have hnf := HW.out.nf
      have HNf := hid hnf
      clear hp' hq' hy HX HW hnf
      go_wp2_with fail
      refine SX.out.mono ?_
      rintro e w5 ⟨rfl, H5⟩
      have HY5 := hid (HY.out.kept H5.out.1 (fun e => by have := Option.some.inj e; omega) (fun h e => by have := Option.some.inj e; have := HGb.out h; omega))
      have HO5 := hid (own_grown' HO.out H5.out.1 (fun k hk e => by have := own_base HO.out k hk; have := Option.some.inj e; omega))
      have HB5 := hid (show Below w.heap.size w w5 ∧ w3.heap.size + 2 ≤ w5.heap.size from ⟨HB.out.1.grown H5.out.1 (by have := HB.out.2; omega) (fun k e => by have := Option.some.inj e; omega), Nat.le_trans HB.out.2 H5.out.1.size⟩)
      have HX5 := hid H5.out.2
      have SY := hid (step_any w5 (w3.heap.size + 1) gb (ends B) q x (by omega) HY5.out hx)
      rw [← HQ.out] at SY
      clear H5 HY HO HB SX
      go_wp2_with fail
      refine SY.out.mono ?_
      rintro e w6 ⟨rfl, H6⟩
      have HX6 := hid (HX5.out.kept H6.out.1 (fun e => by have := Option.some.inj e; omega) (fun h e => by have := Option.some.inj e; have := HGa.out h; omega))
      have HO6 := hid (own_grown' HO5.out H6.out.1 (fun k hk e => by have := own_base HO5.out k hk; have := Option.some.inj e; omega))
      have HB6 := hid (show Below w.heap.size w w6 ∧ w3.heap.size + 2 ≤ w6.heap.size from ⟨HB5.out.1.grown H6.out.1 (by have := HB5.out.2; omega) (fun k e => by have := Option.some.inj e; omega), Nat.le_trans HB5.out.2 H6.out.1.size⟩)
      have HY6 := hid H6.out.2
      clear H6 HY5 HX5 HO5 HB5 SY
      go_wp2_with fail
      refine (next_any w6 w3.heap.size ga (ends A) p' (by omega) HX6.out).mono ?_
      rintro e w7 ⟨rfl, rfl⟩
      go_wp2_with fail
      refine (next_any w7 (w3.heap.size + 1) gb (ends B) q' (by omega) HY6.out).mono ?_
      rintro e w8 ⟨rfl, rfl⟩
      obtain ⟨_, _, pX, _⟩ := HX6.out.pr
      obtain ⟨_, _, pY, _⟩ := HY6.out.pr
      have cX := pX.c1
      have cY := pY.c1
      have hye := HYe.out.symm
      obtain ⟨c, hc⟩ : ∃ c, cf (p' % 2 == 1) (q' % 2 == 1) = c := ⟨_, rfl⟩
      have HC := hid (HCl.out (p' % 2 == 1) (q' % 2 == 1))
      rw [hc] at HC HT HF
      have HX7 := HX6; have HY7 := HY6
      clear HX6 HY6 pX pY hc
      cases c with
      | true =>
        obtain ⟨y3, HW2⟩ := HT.out rfl
        have HAdd := hid (add_any (w3.heap.size + 2) _ out.length out x (y - x) x0 (by omega) (by omega) (fun r hr => by have := HNf.out.1 r hr; omega) (by omega) w8 HB6.out.2 HO6.out)
        go_wp2_with fail
        refine (HC.out w8).mono ?_
        rintro e w9 ⟨rfl, rfl⟩
        go_wp2_with fail
        refine HAdd.out.mono ?_
        rintro e w10 ⟨v4, rfl, H7⟩
        have hrow : ∀ k, (w9.ownsRow (w3.heap.size + 2) 42 2 u11 out.length (vr out)) → u11.ownBlock = some k → w3.heap.size + 2 ≤ k := fun k h hk => own_base h k hk
        have HX8 := hid (HX7.out.kept H7.out.2.1 (fun e => by have := own_base HO6.out _ e; omega) (fun h e => by have := own_base HO6.out _ e; have := HGa.out h; omega))
        have HY8 := hid (HY7.out.kept H7.out.2.1 (fun e => by have := own_base HO6.out _ e; omega) (fun h e => by have := own_base HO6.out _ e; have := HGb.out h; omega))
        have HB8 := hid (show Below w.heap.size w w10 ∧ w3.heap.size + 2 ≤ w10.heap.size from ⟨HB6.out.1.grown H7.out.2.1 (by have := HB6.out.2; omega) (fun k e => by have := own_base HO6.out _ e; omega), Nat.le_trans HB6.out.2 H7.out.2.1.size⟩)
        have HO8 := hid H7.out.1
        clear H7 HAdd hrow
        go_wp2_with fail
        go_roundw
        case rel => exact ⟨y, p', q', _, rfl, by omega, by omega, hid HW2, HX8, HY8, HO8, HB8⟩
        case measure => simp [intOf]; omega
      | false =>
        have HW2 := HF.out rfl
        go_wp2_with fail
        refine (HC.out w8).mono ?_
        rintro e w9 ⟨rfl, rfl⟩
        go_wp2_with fail
        go_roundw
        case rel => exact ⟨y, p', q', _, rfl, by omega, by omega, hid HW2, HX7, HY7, HO6, HB6⟩
        case measure => simp [intOf]; omega
    · have hend := way_end A B HA.out HBn.out cf h0 p q x out HW.out hx
      have hle : out.length ≤ 2 * (len + len2) := by have := HW.out.len; have := HW.out.hp; have := HW.out.hq; omega
      have hnf := HW.out.nf
      obtain ⟨va, vc, rfl⟩ := own_slice HO.out
      clear HX HY HW
      go_wp2_with fail
      go_ret2
      refine ⟨_, rfl, out, hnf, hle, fun n => ?_, hid ⟨own_mono (by omega) HO.out, HB.out.1⟩⟩
      rw [hend n, decide_eq_decide.2 (HAm.out n), decide_eq_decide.2 (HBm.out n)]
end Go.Proofs.Ytgfdmeaganhpiaa.Old
