/- A device of one disk from the caller's words; its image, its unflushed writes. No conditions but those of each theorem. -/
import Derived.Test.YtbgbjgedjmhcaaaSyZ
import Derived.KernelRfl
import Derived.Test.YtbgbjgedjmhcaaaLK
namespace Go.Proofs.Ytbgbjgedjmhcaaa
open Go.RowKit Go.ChangeShapes Go.WideShapes Go.ChangeAt
open OldD (DA Dk Co fp Gr Row Fresh hid hd hs gu nk good ldK ge vu Ar un stF chk3 chk4 rdV wrE wrK flK)
set_option linter.unusedVariables false
set_option linter.unnecessarySimpa false
set_option linter.unusedSimpArgs false
set_option maxRecDepth 10000
theorem image_c (m : Nat) (k : Dk) (d : Nat) (X : List Int) (hX : (gu k.U d).now = X) (hd : d < k.U.length) :
    CallOK Try.prog 26 [.ptr 0 0 0 0, I (d : Int)] [(0, .box (dbox m k))] (.tup [.sl 10 0 1 X.length none, I 0]) [(10, some (.vec 22 1 X.length (rowG encU X)))] := by
  subst hX
  refine ⟨Try.call26, fun E W cs hcs rh hn => ?_⟩
  simp only [RVs, RV, I] at hcs
  obtain ⟨y, l, rfl, ⟨a0, k0, e0, rfl⟩, y2, l2, rfl, rfl, rfl⟩ := hcs
  obtain ⟨A, co, kk, e1, e2, e3, e4, e5⟩ := dbox_open (rh.holds 0 _ rfl) (c := .pointer (some ⟨a0.block, a0.off + (0 * 0 + 0), none⟩)) (by simp only [RV]; exact ⟨a0, k0, e0, rfl⟩)
  rw [e1]
  refine (OldD.image_ok e3 d hd).mono ?_
  rintro e W' ⟨g, cg, rfl, hg, HH⟩
  obtain ⟨hr, hb⟩ := HH.out
  have hne := hn 10 (by simp [newIds, hasId, find, upd])
  have hxt := nw_set E 10 (some ⟨g, 0, none⟩, cg) hne
  have gb : W.grownBy W' none := ⟨hb.os, hb.tape, hb.output, hb.size, fun i hi _ => hb.block i hi⟩
  have hh : Holds (fun y => if y = 10 then some (some ⟨g, 0, none⟩, cg) else E y) W' 10 (.vec 22 1 (gu k.U d).now.length (rowG encU (gu k.U d).now)) := by
    refine ⟨some ⟨g, 0, none⟩, cg, vu (gu k.U d).now, by simp, hr, OldD.one_vu _, fun q hq => ?_⟩
    have hq2 : q < (vu (gu k.U d).now).length := by simpa [vu] using hq
    simp only [cellsAt, Nat.mul_one]
    rw [List.drop_eq_getElem_cons hq2, List.take_succ_cons, List.take_zero]
    simp only [rowG, encU, U, RVs, RV]
    refine ⟨_, _, rfl, ?_, rfl⟩
    simp [vu, List.getD_eq_getElem?_getD, List.getElem?_eq_getElem hq]
  obtain ⟨q1, q2⟩ := RH.change (h' := upd [(0, .box (dbox m k))] 10 (.vec 22 1 (gu k.U d).now.length (rowG encU (gu k.U d).now))) (row := none) rh hxt gb (fun b hb => by cases hb) (by rw [find_upd]; simp) (fun x hx y hy => by rw [find_upd, if_neg (fun e => hx e.symm)] at hy; exact hy) hh (fun b hb => .inr (by
    simp only [Foot, Ob.bx, FootB, blkOf, if_pos, Option.some.injEq] at hb
    omega))
  refine ⟨_, _, rfl, hxt, ?_, q1, q2⟩
  have hcap := OldD.own_cap hr
  simp only [RV, RVs, I]
  exact ⟨[.slice (some ⟨g, 0, none⟩) (gu k.U d).now.length cg, .int .i64 0], rfl, _, _, rfl, ⟨some ⟨g, 0, none⟩, cg, by simp, 0, cg, rfl, hcap.1, by omega, fun _ => by simp, by simp⟩, _, _, rfl, rfl, rfl⟩
theorem unfl_ok {W : World} {A : Nat} {c : Co} {k : Dk} (h : DA W A c k) :
    Calls Try.prog 27 #[.pointer (some ⟨A, 0, none⟩)] W fun e W' => e = .returned (.int .i64 (k.F.length : Int)) ∧ W' = W := by
  have c0 := h.c2
  clear h
  go_enter Try.func27, Try.ntmps27
  go_wp2_with fail
  go_ret
  exact ⟨rfl, rfl⟩
theorem unfl_c (m : Nat) (k : Dk) : CallOK Try.prog 27 [.ptr 0 0 0 0] [(0, .box (dbox m k))] (I (k.F.length : Int)) [(0, some (.box (dbox m k)))] :=
  dk_call (cargs := []) (cret := .int .i64 (k.F.length : Int)) Try.call27 (fun E cs h => by simpa [RVs, RV, I] using h) (fun E => by simp [RV, I]) fun W A c h hm =>
    (unfl_ok h).mono fun e W' ⟨he, hw⟩ => by subst hw; exact ⟨he, c, h, hm, Gr.refl _ _, Fresh.refl _ _ _⟩
end Go.Proofs.Ytbgbjgedjmhcaaa
namespace Go.Proofs.Ytbgbjgedjmhcaaa.OldD
open Go.ChangeShapes Go.WideShapes Go.ChangeAt Go.RowKit
set_option linter.unusedVariables false
set_option linter.unusedSimpArgs false
set_option maxRecDepth 100000
def RoR (w : World) (x : Addr) (X : List Int) : Prop := x.block < w.heap.size ∧ ∀ j u, (vu X)[j]? = some u → w.cell? (x.add j) = some u
theorem add_block (x : Addr) (j : Nat) : (x.add j).block = x.block := by
  rw [addr_plus]
  split <;> rfl
theorem RoR.gr {w w' : World} {x : Addr} {X : List Int} {S : List Nat} (h : RoR w x X) (hg : Gr S w w') (hn : x.block ∉ S) : RoR w' x X :=
  ⟨Nat.lt_of_lt_of_le h.1 hg.size, fun j u hu => (hg.cell (p := x.add j) (by rw [add_block]; exact h.1) (by rw [add_block]; exact hn)).trans (h.2 j u hu)⟩
theorem Row.copyRo {w : World} {p cp cq : Nat} {x : Addr} {D N : List Int} (hD : Row w p cp D) (hN : RoR w x N) (hl : D.length = N.length) (h1 : 1 ≤ N.length) (ty : TypeId) :
    ∃ w', (Builtin.copy_ #[25, 25] ty #[.slice (some ⟨p, 0, none⟩) N.length cp, .slice (some x) N.length cq]).run Try.prog w = .ok (goInt N.length) w' ∧ Row w' p cp N ∧ Gr [p] w w' := by
  rcases hD.2 with ⟨h2, _⟩ | ⟨g, cap, cur, h2, hb, hg, hnc, hcm, hcs, htake⟩
  · simp at h2
  · simp only [Value.slice.injEq, Option.some.injEq, Addr.mk.injEq, and_true, true_and] at h2
    obtain ⟨rfl, rfl⟩ := h2
    have hvl := vu_len N
    have hrun := run_copy_row (P := Try.prog) w 25 25 ty 22 p 0 N.length cp x N.length cq cur 22 (vu N) Try.underlying25 (by kernel_rfl) hg (by rw [hvl]; simp) hN.2 (by rw [hvl, hcs]; omega) (one_vu N)
    rw [hvl] at hrun
    refine ⟨_, hrun, ⟨by rw [hvl]; omega, .inr ⟨p, cp, _, rfl, hb, setRow_heap _ _ _ _ _ _ hg, by omega, hcm, ?_, ?_⟩⟩, ?_⟩
    · simp [hvl]; omega
    · rw [List.toList_toArray, Nat.mul_one]
      rw [List.take_zero, List.nil_append, List.take_left' hvl]
    · exact ⟨rfl, rfl, rfl, by simp [World.setRow], fun k hk hn => setRow_other _ _ _ _ (by intro e; apply hn; rw [e]; simp)⟩
set_option maxHeartbeats 8000000 in
theorem load_ro {W : World} {A : Nat} {c : Co} {k : Dk} (h : DA W A c k) (n : Nat) (hn : n < k.U.length) (x : Addr) (cg : Nat) (X : List Int) (hX : RoR W x X) (hgn : x.block ∉ fp A c) (hl : X.length = (gu k.U n).now.length) (hF : k.F.length ≤ 2 ^ 32) (hmn : c.mn = 0) :
    Calls Try.prog 58 #[.pointer (some ⟨A, 0, none⟩), .int .i64 (n : Int), .slice (some x) X.length cg] W fun e W' => e = .returned (.int .i64 0) ∧ Hid (DA W' A c (ldK k n X) ∧ Gr (fp A c) W W') := by
  have hmx : Try.prog.follows .mixedOrders = true := by kernel_rfl
  have hb8 := h.b8
  have hbn := h.bn n hn
  have hb1 := (Below.refl W.heap.size W).alloc (Nat.le_refl _) (.cells #[.int .i64 (n : Int)] 3)
  have H1 := hid (h.below hb1)
  have HX1 := hid (hX.gr (Gr.of_below hb1 []) (by simp))
  have HG1 := hid (Gr.of_below hb1 (fp A c))
  have HD1 := hid (show (W.alloc (.cells #[.int .i64 (n : Int)] 3)).cell? ⟨W.heap.size, 0, none⟩ = some (.int .i64 (n : Int)) by go_simp)
  have HS1 := hid (show W.heap.size < (W.alloc (.cells #[.int .i64 (n : Int)] 3)).heap.size by simp)
  have HNF := hid (show W.heap.size ∉ fp A c from fun hx => Nat.lt_irrefl _ (h.fp_lt _ hx))
  have HGN := hid hgn
  have HN := hid hn
  have HLX := hid hl
  have HFF := hid hF
  have HMN := hid hmn
  have hx1 : 1 ≤ X.length ∧ X.length ≤ 65536 := by omega
  have hlb : ((X.length : Int) != ((gu k.U n).now.length : Int)) = false := by rw [hl]; simp
  have HLB := hid hlb
  clear h hX hgn hl hF hb1 hmn hlb hbn
  go_enter Try.func58, Try.ntmps58
  go_wp2_with fail
  generalize W.alloc (.cells #[.int .i64 (n : Int)] 3) = w1 at *
  refine (has_ok H1.out (n : Int)).mono ?_
  rintro e w1 ⟨rfl, rfl⟩
  rw [hd_iff.2 ⟨n, rfl, HN.out⟩]
  obtain ⟨ub, hub, hul, c1, c2, -, -⟩ := H1.out.unit HN.out
  have c0 := H1.out.c0
  rw [hub] at c0
  have d0 := HD1.out
  have hlb := HLB.out
  have hbu := H1.out.bn n HN.out
  go_wp2_with fail
  go_quiet (fail)
  clear hlb
  have H2 := H1.out.below (W' := w1.drewN nq) (bdn _ _ _)
  have HX2 := HX1.out.gr (Gr.of_below (bdn w1.heap.size w1 nq) []) (by simp)
  have HG2 := HG1.out.trans (Gr.of_below (bdn w1.heap.size w1 nq) (fp A c))
  have d2 : (w1.drewN nq).cell? ⟨W.heap.size, 0, none⟩ = some (.int .i64 (n : Int)) := d0
  have s2 : W.heap.size < (w1.drewN nq).heap.size := HS1.out
  generalize hw2 : w1.drewN nq = w2 at *
  clear hw2 H1 HX1 HG1 HD1 HS1 d0 c0 c1 c2 hub hbu
  obtain ⟨ub, hub, hul, c1, c2, -, -⟩ := H2.unit HN.out
  have c0 := H2.c0
  rw [hub] at c0
  have hbn2 := H2.bn n HN.out
  go_wp2_with fail
  have e1 := HLX.out
  obtain ⟨w4, hrun, hR4, hg4⟩ := (Row.gr (H2.rn n HN.out) (Gr.of_below (Below.refl w2.heap.size w2).drew []) (by simp)).copyRo (cq := cg) (RoR.gr HX2 (Gr.of_below (Below.refl w2.heap.size w2).drew []) (by simp)) e1.symm hx1.1 3
  rw [e1] at hrun
  go_still_tail 9, (by kernel_rfl)
  repeat still_step
  change wpList _ _ _ _ _ w2.drew
  have H3 := H2.below (W' := w2.drew) (Below.refl _ _).drew
  have HX3 := HX2.gr (Gr.of_below (Below.refl w2.heap.size w2).drew []) (by simp)
  have HG3 := HG2.trans (Gr.of_below (Below.refl w2.heap.size w2).drew (fp A c))
  have d3 : w2.drew.cell? ⟨W.heap.size, 0, none⟩ = some (.int .i64 (n : Int)) := d2
  have s3 : W.heap.size < w2.drew.heap.size := s2
  have hfn : (gb c.bs n).n ∈ fp A c := fp_n (by rw [H3.lb]; exact HN.out)
  have H4 := hid (show DA w4 A c (nowK k n X) from H3.rowN HN.out hg4 hR4 e1)
  have HG4 := hid (HG3.trans (hg4.mono (T := fp A c) (fun x hx => by obtain rfl := List.mem_singleton.1 hx; exact hfn)))
  have HX4 := hid (HX3.gr hg4 (by rw [List.mem_singleton]; intro e; exact HGN.out (e ▸ hfn)))
  have HD4 := hid (box_kept d3 s3 (hg4.mono (T := fp A c) (fun x hx => by obtain rfl := List.mem_singleton.1 hx; exact hfn)) HNF.out)
  have HS4 := hid (Nat.lt_of_lt_of_le s3 hg4.size)
  have HE := hid (ldK_eq HN.out X)
  have HL4 := hid (show (gu (nowK k n X).U n).now.length = (gu k.U n).now.length by rw [gu_nowK HN.out]; exact e1)
  have HN4 := hid (show n < (nowK k n X).U.length by rw [len_nowK]; exact HN.out)
  have HF4 := hid (show (nowK k n X).F.length ≤ 2 ^ 32 from HFF.out)
  have HB4 := hid (show (nowK k n X).bad = k.bad from rfl)
  clear H2 HX2 HG2 d2 s2 H3 HX3 HG3 d3 s3 hfn hR4 hg4 hub c0 c1 c2 hul
  generalize nowK k n X = k4 at *
  obtain ⟨ub, hub, hul, c1, c2, -, -⟩ := H4.out.unit HN4.out
  have c0 := H4.out.c0
  rw [hub] at c0
  have hbn4 := H4.out.bn n HN4.out
  have hb84 := H4.out.b8
  have hul4 : n < k4.U.length := HN4.out
  have d4 := HD4.out
  rw [HL4.out] at c2 hbn4
  go_wp2_with fail
  clear hrun
  obtain ⟨w5, hrun, hR5, hg5⟩ := (Row.gr (H4.out.rd n HN4.out) (Gr.of_below (Below.refl w4.heap.size w4).drew []) (by simp)).copyRo (cq := cg) (RoR.gr HX4.out (Gr.of_below (Below.refl w4.heap.size w4).drew []) (by simp)) ((H4.out.ld n HN4.out).trans (HL4.out.trans e1.symm)) hx1.1 3
  rw [e1] at hrun
  go_still_tail 9, (by kernel_rfl)
  repeat still_step
  change wpList _ _ _ _ _ w4.drew
  have H5 := H4.out.below (W' := w4.drew) (Below.refl _ _).drew
  have HG5 := HG4.out.trans (Gr.of_below (Below.refl w4.heap.size w4).drew (fp A c))
  have d5 : w4.drew.cell? ⟨W.heap.size, 0, none⟩ = some (.int .i64 (n : Int)) := d4
  have s5 : W.heap.size < w4.drew.heap.size := HS4.out
  have hfd : (gb c.bs n).d ∈ fp A c := fp_d (by rw [H5.lb]; exact HN4.out)
  have H6 := hid (show DA w5 A c (durK k4 n X) from H5.rowD HN4.out hg5 hR5 (e1.trans HL4.out.symm))
  have HG6 := hid (HG5.trans (hg5.mono (T := fp A c) (fun x hx => by obtain rfl := List.mem_singleton.1 hx; exact hfd)))
  have HD6 := hid (box_kept d5 s5 (hg5.mono (T := fp A c) (fun x hx => by obtain rfl := List.mem_singleton.1 hx; exact hfd)) HNF.out)
  have HS6 := hid (Nat.lt_of_lt_of_le s5 hg5.size)
  have HN6 := hid (show n < (durK k4 n X).U.length by rw [len_durK]; exact HN4.out)
  have HF6 := hid (show (durK k4 n X).F.length ≤ 2 ^ 32 from HF4.out)
  clear H4 HX4 HG4 HD4 HS4 HL4 HN4 HF4 H5 HG5 d5 s5 d4 hfd hR5 hg5 hub c0 c1 c2 hul hbn4 hb84 hul4
  generalize durK k4 n X = k6 at *
  have d6 := HD6.out
  go_wp2_with fail
  refine (settle_ok H6.out n HN6.out HF6.out 99 false (fun args w => enters_of Try.func99 (by kernel_rfl) rfl args w) surv61).mono ?_
  rintro e w7 ⟨rfl, HS⟩
  rw [HE.out] at HS
  have H7 := hid HS.out.1
  have HG7 := hid (HG6.out.trans HS.out.2)
  have HD7 := hid (box_kept d6 HS6.out HS.out.2 HNF.out)
  clear HS H6 HG6 HD6 HS6 HN6 HF6 HE d6
  have d7 := HD7.out
  have c0 := H7.out.c1
  have HM7 := hid (show BM w7 c.mb 0 (ldK k n X).bad by rw [← HMN.out]; exact H7.out.mp)
  go_wp2_with fail
  refine (delf_ok HM7.out _).mono ?_
  rintro e w8 ⟨rfl, hb8⟩
  have H8 := hid (H7.out.below hb8)
  have HG8 := hid (HG7.out.trans (Gr.of_below hb8 (fp A c)))
  clear H7 HG7 HM7 d7 c0 hb8 HD7
  go_wp2_with fail
  go_ret
  exact ⟨rfl, hid ⟨H8.out, HG8.out⟩⟩
end Go.Proofs.Ytbgbjgedjmhcaaa.OldD
namespace Go.Proofs.Ytbgbjgedjmhcaaa
set_option linter.unusedVariables false
set_option linter.unnecessarySimpa false
set_option linter.unusedSimpArgs false
set_option maxRecDepth 10000
open OldD (RoR DA Dk Co fp Gr Row Fresh hid hd hs gu nk good ldK ge vu Ar un stF chk3 chk4 rdV wrE wrK flK)
theorem ro_row {E : Env} {W : World} {id : Nat} {X : List Int} {c : Value} (h1 : 1 ≤ X.length) (hh : Holds E W id (.ro 1 X.length (rowG encU X))) (hc : RV E (.sl id 0 1 X.length none) c) :
    ∃ x cg, c = .slice (some x) X.length cg ∧ RoR W x X ∧ Foot E W id (.ro 1 X.length (rowG encU X)) x.block := by
  obtain ⟨a, cap, rfl, h⟩ := row_of hh hc
  rcases h with h0 | ⟨b, off, rfl, hb, hcell⟩
  · omega
  refine ⟨⟨b, off, none⟩, cap, rfl, ⟨hb, fun j u hu => ?_⟩, ?_⟩
  · have hj : j < X.length := by
      have := (List.getElem?_eq_some_iff.1 hu).1
      simpa [vu] using this
    obtain ⟨v, g1, g2⟩ := hcell j hj
    simp only [rowG, encU, U, RVs, RV] at g1
    obtain ⟨y, l, e1, rfl, rfl⟩ := g1
    simp only [List.cons.injEq, and_true] at e1
    have ea : (⟨b, off, none⟩ : Addr).add j = ⟨b, off + j, none⟩ := by
      rw [addr_plus]
      split
      · rename_i h; subst h; rfl
      · rfl
    rw [ea, g2, e1, ← hu]
    simp [vu, List.getD_eq_getElem?_getD, List.getElem?_eq_getElem hj]
  · obtain ⟨b1, k, xs, g1, _⟩ := hh
    simp only [RV] at hc
    obtain ⟨b2, k2, h6, h7⟩ := hc
    rw [g1] at h6
    simp only [Option.some.injEq, Prod.mk.injEq] at h6
    obtain ⟨rfl, rfl⟩ := h6
    cases b1 with
    | none =>
      obtain ⟨b', _, e, _⟩ := h7
      omega
    | some a =>
      obtain ⟨o, m, e, _⟩ := h7
      simp only [Value.slice.injEq, Option.some.injEq, Addr.mk.injEq] at e
      simp [Foot, Ob.bx, FootB, blkOf, g1, e.1.1]
theorem load_cr (k : Dk) (n : Nat) (X : List Int) (hn : n < k.U.length) (hl : X.length = (gu k.U n).now.length) (h1 : 1 ≤ X.length) (hF : k.F.length ≤ 2 ^ 32) :
    CallOK Try.prog 58 [.ptr 0 0 0 0, I (n : Int), .sl 1 0 1 X.length none] [(0, .box (dbox 0 k)), (1, .ro 1 X.length (rowG encU X))] (I 0) [(0, some (.box (dbox 0 (ldK k n X))))] := by
  refine ⟨Try.call58, fun E W cs hcs rh _ => ?_⟩
  simp only [RVs, RV, I] at hcs
  obtain ⟨y, l, rfl, ⟨a0, k0, e0, rfl⟩, y2, l2, rfl, rfl, y3, l3, rfl, hs3, rfl⟩ := hcs
  obtain ⟨A, co, kk, e1, e2, e3, e4, e5⟩ := dbox_open (rh.holds 0 _ rfl) (c := .pointer (some ⟨a0.block, a0.off + (0 * 0 + 0), none⟩)) (by simp only [RV]; exact ⟨a0, k0, e0, rfl⟩)
  obtain ⟨x, cg, rfl, hr, hfg⟩ := ro_row h1 (rh.holds 1 _ rfl) (by simp only [RV]; exact hs3)
  rw [e1]
  refine (OldD.load_ro e3 n hn x cg X hr (fun hm => rh.apart 0 1 _ _ rfl rfl (by decide) rfl x.block ((e5 x.block).2 hm) hfg) hl hF (by omega)).mono ?_
  rintro e W' ⟨rfl, HH⟩
  obtain ⟨q1, q2⟩ := box_step (m' := 0) rh rfl e2 e5 HH.out.1 e4 HH.out.2 (Fresh.refl _ _ _)
  exact ⟨_, E, rfl, Ext.refl E, by simp [RV, I], q1, q2⟩
set_option maxHeartbeats 2000000 in
theorem loadedN1r (X : List Int) (hx : 1 ≤ X.length ∧ X.length ≤ 1000) :
    CallOK Try.prog 21 [.sl 1 0 1 1 none] [(1, .ro 1 1 (rowsOf [.sl 2 0 1 X.length none] 1)), (2, .ro 1 X.length (rowG encU X))] (.ptr 10 0 0 0) [(10, some (.box (dbox 0 (dkN [X]))))] := by
  refine CallOK.intro Try.call21 Try.func21 rfl rfl ⟨rfl, fun q => closed_rows rfl q, rfl, fun _ => rfl, trivial⟩ ?_
  obtain ⟨k0, hk0⟩ : ∃ k, k = nk [(X.length : Int)] := ⟨_, rfl⟩
  obtain ⟨k1, hk1⟩ : ∃ k, k = ldK k0 0 X := ⟨_, rfl⟩
  have l0 := load_cr k0 0 X (by simp [hk0, nk, ldK]) (by simp [hk0, nk, gu, un, ldK]) hx.1 (by simp [hk0, nk, ldK, stF])
  rw [← hk1] at l0
  have nc := newc1 (X.length : Int) (by omega)
  rw [← hk0] at nc
  have e : dkN [X] = k1 := by rw [hk1, hk0]; rfl
  rw [e]
  clear e hk1 hk0
  refine Safe.gotoE mixed 58 [⟨1100, []⟩, ⟨1200, []⟩, ⟨1300, []⟩, ⟨1400, []⟩, ⟨1500, []⟩, ⟨1600, []⟩, ⟨1700, []⟩, ⟨1800, [(1, .call [1507] (.tup [.ptr 1855 0 0 0, I 0]) [(1855, some (.box (dbox (0 : Nat) k0)))])]⟩, ⟨1900, []⟩, ⟨2000, []⟩, ⟨2100, []⟩, ⟨2200, [(6, .call [1855, 2] (I 0) [(1855, some (.box (dbox (0 : Nat) k1)))])]⟩, ⟨2300, []⟩, ⟨2400, []⟩, ⟨2500, []⟩] [2] [1, 2, 1855] (sl := slotsOf 48 [(2, .ptr 1855 0 0 0)]) (hp := [(1, .ro 1 1 (rowsOf [AV.sl (2 : Nat) (0 : Nat) (1 : Nat) X.length none] (1 : Nat))), (2, .ro 1 X.length (rowG encU X)), (1855, .box (dbox (0 : Nat) k1))]) (ob := [(0 : Int) ≤ (0 : Int) ∧ (0 : Int) < (↑(1 : Nat) : Int), (0 : Nat) < (1 : Nat), (0 : Nat) + (1 : Nat) ≤ (1 : Nat), (1 : Nat) ≤ (1099511627776 : Nat), inK IntKind.i64 ((0 : Int) + (1 : Int)), CallOK Try.prog (57 : Nat) ([] ++ [AV.sl (1507 : Nat) (0 : Nat) (1 : Nat) (1 : Nat) none] ++ []) [((1507 : Nat), Ob.vec (3 : Nat) (1 : Nat) (1 : Nat) (rowsOf [AV.val (Value.int IntKind.i64 (↑X.length : Int))] (1 : Nat)))] (AV.tup [AV.ptr (1855 : Nat) (0 : Nat) (0 : Nat) (0 : Nat), AV.val (Value.int IntKind.i64 (0 : Int))]) [((1855 : Nat), some (Ob.box (dbox (0 : Nat) k0)))], (0 : Int) ≤ (0 : Int) ∧ (0 : Int) < (↑(1 : Nat) : Int), (0 : Nat) < (1 : Nat), CallOK Try.prog (58 : Nat) ([] ++ [AV.ptr (1855 : Nat) (0 : Nat) (0 : Nat) (0 : Nat), AV.val (Value.int IntKind.i64 (0 : Int)), AV.sl (2 : Nat) (0 : Nat) (1 : Nat) X.length none] ++ []) [((1855 : Nat), Ob.box (dbox (0 : Nat) k0)), ((2 : Nat), Ob.ro (1 : Nat) X.length (rowG encU X))] (AV.val (Value.int IntKind.i64 (0 : Int))) [((1855 : Nat), some (Ob.box (dbox (0 : Nat) k1)))], inK IntKind.i64 ((0 : Int) + (1 : Int))]) rfl rfl (by kernel_rfl) ⟨(by first | omega | assumption), (by first | omega | assumption), (by first | omega | assumption), (by first | omega | assumption), (by simp only [inK]; first | omega | assumption), (CallOK.simR (CallOK.ren (CallOK.own 3 1 (es := (1 : Nat)) (n := (1 : Nat)) (row := rowsOf [I (↑X.length : Int)] (1 : Nat)) rfl rfl rfl nc) [(1, 1507), (10, 1855)] [1, 10] rfl rfl rfl rfl ⟨rfl, closed_rows rfl, trivial⟩ rfl ⟨rfl, closed_rows rfl, rfl, trivial, trivial⟩) (HpSim.cons rfl (OSim.rowsV rfl) HpSim.nil)), (by first | omega | assumption), (by first | omega | assumption), (CallOK.ren l0 [(0, 1855), (1, 2)] [0, 1] rfl rfl rfl rfl ⟨rfl, trivial, rfl, fun _ => rfl, trivial⟩ rfl ⟨rfl, trivial, rfl, fun _ => rfl, trivial⟩), (by simp only [inK]; first | omega | assumption), trivial⟩ rfl ⟨rfl, closed_rows rfl, rfl, fun _ => rfl, rfl, trivial, trivial⟩ fun td htd => ?_
  refine Safe.ren [(1855, 10)] rfl rfl rfl rfl ⟨rfl, closed_rows rfl, rfl, fun _ => rfl, rfl, trivial, trivial⟩ ?_
  refine Safe.endsT Try.func21 htd (r := .ptr 10 0 0 0) (hp := [(1, .ro 1 1 (fun q => renL [((1855 : Nat), (10 : Nat))] (rowsOf [AV.sl (2 : Nat) (0 : Nat) (1 : Nat) X.length none] (1 : Nat) q))), (2, .ro 1 X.length (fun q => renL [((1855 : Nat), (10 : Nat))] (rowG encU X q))), (10, .box (dbox (0 : Nat) k1))]) (ob := []) rfl (by kernel_rfl) trivial rfl ⟨⟨rfl, rfl, fun _ _ => by first | rfl | exact renL_rowsOf _ _ _ _⟩, ⟨rfl, rfl, fun _ _ => rfl⟩, ObLe.refl _, trivial⟩ ⟨rfl, closed_rows rfl, rfl, fun _ => rfl, rfl, trivial, trivial⟩ rfl
  all_goals exact ObLe.refl _
end Go.Proofs.Ytbgbjgedjmhcaaa
