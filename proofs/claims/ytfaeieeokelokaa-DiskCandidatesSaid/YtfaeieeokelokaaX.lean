/- The program's Load (over an empty map of bad sectors). No conditions but those of each theorem. -/
import Derived.Test.YtfaeieeokelokaaV
namespace Go.Proofs.Ytfaeieeokelokaa
open Go.ChangeShapes Go.WideShapes Go.ChangeAt Go.RowKit
set_option linter.unusedVariables false
set_option linter.unusedSimpArgs false
/-- what Load leaves -/
def ldK (k : Dk) (n : Nat) (X : List Int) : Dk := { k with U := k.U.set n { gu k.U n with now := X, dur := X }, F := stF k.F n }
theorem stU_false (d : Nat) (U : List Un) : ∀ F : List Wr, stU d false U F = U := by
  intro F
  unfold stU
  induction F generalizing U with
  | nil => rfl
  | cons w F ih => rw [List.foldl_cons, if_neg (by simp)]; exact ih U
/-- the live sectors laid -/
def nowK (k : Dk) (n : Nat) (X : List Int) : Dk := { k with U := k.U.set n { gu k.U n with now := X } }
/-- the durable sectors laid -/
def durK (k : Dk) (n : Nat) (X : List Int) : Dk := { k with U := k.U.set n { gu k.U n with dur := X } }
theorem gu_nowK {k : Dk} {n : Nat} (hn : n < k.U.length) (X : List Int) : gu (nowK k n X).U n = { gu k.U n with now := X } := by
  unfold nowK; rw [gu_set, if_pos ⟨rfl, hn⟩]
theorem len_nowK (k : Dk) (n : Nat) (X : List Int) : (nowK k n X).U.length = k.U.length := by unfold nowK; simp
theorem gu_durK {k : Dk} {n : Nat} (hn : n < k.U.length) (X : List Int) : gu (durK k n X).U n = { gu k.U n with dur := X } := by
  unfold durK; rw [gu_set, if_pos ⟨rfl, hn⟩]
theorem len_durK (k : Dk) (n : Nat) (X : List Int) : (durK k n X).U.length = k.U.length := by unfold durK; simp
theorem ldK_eq {k : Dk} {n : Nat} (hn : n < k.U.length) (X : List Int) : { durK (nowK k n X) n X with U := stU n false (durK (nowK k n X) n X).U (durK (nowK k n X) n X).F, F := stF (durK (nowK k n X) n X).F n } = ldK k n X := by
  rw [stU_false]
  unfold ldK durK
  rw [gu_nowK hn]
  unfold nowK
  simp [List.set_set]
set_option maxRecDepth 100000 in
set_option maxHeartbeats 8000000 in
theorem load_ok {W : World} {A : Nat} {c : Co} {k : Dk} (h : DA W A c k) (n : Nat) (hn : n < k.U.length) (g cg : Nat) (X : List Int) (hX : Row W g cg X) (hgn : g ∉ fp A c) (hl : X.length = (gu k.U n).now.length) (hF : k.F.length ≤ 2 ^ 32) (hmn : c.mn = 0) :
    Calls Try.prog 46 #[.pointer (some ⟨A, 0, none⟩), .int .i64 (n : Int), .slice (some ⟨g, 0, none⟩) X.length cg] W fun e W' => e = .returned (.int .i64 0) ∧ Hid (DA W' A c (ldK k n X) ∧ Gr (fp A c) W W') := by
  have hmx : Try.prog.follows .mixedOrders = true := by kernel_rfl
  have hb8 := h.b8
  have hbn := h.bn n hn
  have hb1 := (Below.refl W.heap.size W).alloc (Nat.le_refl _) (.cells #[.int .i64 (n : Int)] 3)
  have H1 := hid (h.below hb1)
  have HX1 := hid (hX.gr (Gr.of_below hb1 []) (by simp))
  have HG1 := hid (Gr.of_below hb1 (fp A c))
  have HD1 := hid (show (W.alloc (.cells #[.int .i64 (n : Int)] 3)).cell? ⟨W.heap.size, 0, none⟩ = some (.int .i64 (n : Int)) by go_simp)
  have HS1 := hid (show W.heap.size < (W.alloc (.cells #[.int .i64 (n : Int)] 3)).heap.size by simp)
  have HNF := hid (show W.heap.size ∉ fp A c from fun hx => Nat.lt_irrefl _ (h.fp_lt _ hx))
  have HGN := hid hgn
  have HN := hid hn
  have HLX := hid hl
  have HFF := hid hF
  have HMN := hid hmn
  have hx1 : 1 ≤ X.length ∧ X.length ≤ 65536 := by omega
  have hlb : ((X.length : Int) != ((gu k.U n).now.length : Int)) = false := by rw [hl]; simp
  have HLB := hid hlb
  clear h hX hgn hl hF hb1 hmn hlb hbn
  go_enter Try.func46, Try.ntmps46
  go_wp2_with fail
  generalize W.alloc (.cells #[.int .i64 (n : Int)] 3) = w1 at *
  refine (has_ok H1.out (n : Int)).mono ?_
  rintro e w1 ⟨rfl, rfl⟩
  rw [hd_iff.2 ⟨n, rfl, HN.out⟩]
  obtain ⟨ub, hub, hul, c1, c2, -, -⟩ := H1.out.unit HN.out
  have c0 := H1.out.c0
  rw [hub] at c0
  have d0 := HD1.out
  have hlb := HLB.out
  have hbu := H1.out.bn n HN.out
  go_wp2_with fail
  go_quiet (fail)
  clear hlb
  have H2 := H1.out.below (W' := w1.drewN nq) (bdn _ _ _)
  have HX2 := HX1.out.gr (Gr.of_below (bdn w1.heap.size w1 nq) []) (by simp)
  have HG2 := HG1.out.trans (Gr.of_below (bdn w1.heap.size w1 nq) (fp A c))
  have d2 : (w1.drewN nq).cell? ⟨W.heap.size, 0, none⟩ = some (.int .i64 (n : Int)) := d0
  have s2 : W.heap.size < (w1.drewN nq).heap.size := HS1.out
  generalize hw2 : w1.drewN nq = w2 at *
  clear hw2 H1 HX1 HG1 HD1 HS1 d0 c0 c1 c2 hub hbu
  obtain ⟨ub, hub, hul, c1, c2, -, -⟩ := H2.unit HN.out
  have c0 := H2.c0
  rw [hub] at c0
  have hbn2 := H2.bn n HN.out
  go_wp2_with fail
  have e1 := HLX.out
  obtain ⟨w4, hrun, hR4, hg4⟩ := (Row.gr (H2.rn n HN.out) (Gr.of_below (Below.refl w2.heap.size w2).drew []) (by simp)).copy (Row.gr HX2 (Gr.of_below (Below.refl w2.heap.size w2).drew []) (by simp)) e1.symm hx1.1 3
  rw [e1] at hrun
  go_still_tail 9, (by kernel_rfl)
  repeat still_step
  change wpList _ _ _ _ _ w2.drew
  have H3 := H2.below (W' := w2.drew) (Below.refl _ _).drew
  have HX3 := HX2.gr (Gr.of_below (Below.refl w2.heap.size w2).drew []) (by simp)
  have HG3 := HG2.trans (Gr.of_below (Below.refl w2.heap.size w2).drew (fp A c))
  have d3 : w2.drew.cell? ⟨W.heap.size, 0, none⟩ = some (.int .i64 (n : Int)) := d2
  have s3 : W.heap.size < w2.drew.heap.size := s2
  have hfn : (gb c.bs n).n ∈ fp A c := fp_n (by rw [H3.lb]; exact HN.out)
  have H4 := hid (show DA w4 A c (nowK k n X) from H3.rowN HN.out hg4 hR4 e1)
  have HG4 := hid (HG3.trans (hg4.mono (T := fp A c) (fun x hx => by obtain rfl := List.mem_singleton.1 hx; exact hfn)))
  have HX4 := hid (HX3.gr hg4 (by rw [List.mem_singleton]; intro e; exact HGN.out (e ▸ hfn)))
  have HD4 := hid (box_kept d3 s3 (hg4.mono (T := fp A c) (fun x hx => by obtain rfl := List.mem_singleton.1 hx; exact hfn)) HNF.out)
  have HS4 := hid (Nat.lt_of_lt_of_le s3 hg4.size)
  have HE := hid (ldK_eq HN.out X)
  have HL4 := hid (show (gu (nowK k n X).U n).now.length = (gu k.U n).now.length by rw [gu_nowK HN.out]; exact e1)
  have HN4 := hid (show n < (nowK k n X).U.length by rw [len_nowK]; exact HN.out)
  have HF4 := hid (show (nowK k n X).F.length ≤ 2 ^ 32 from HFF.out)
  have HB4 := hid (show (nowK k n X).bad = k.bad from rfl)
  clear H2 HX2 HG2 d2 s2 H3 HX3 HG3 d3 s3 hfn hR4 hg4 hub c0 c1 c2 hul
  generalize nowK k n X = k4 at *
  obtain ⟨ub, hub, hul, c1, c2, -, -⟩ := H4.out.unit HN4.out
  have c0 := H4.out.c0
  rw [hub] at c0
  have hbn4 := H4.out.bn n HN4.out
  have hb84 := H4.out.b8
  have hul4 : n < k4.U.length := HN4.out
  have d4 := HD4.out
  rw [HL4.out] at c2 hbn4
  go_wp2_with fail
  clear hrun
  obtain ⟨w5, hrun, hR5, hg5⟩ := (Row.gr (H4.out.rd n HN4.out) (Gr.of_below (Below.refl w4.heap.size w4).drew []) (by simp)).copy (Row.gr HX4.out (Gr.of_below (Below.refl w4.heap.size w4).drew []) (by simp)) ((H4.out.ld n HN4.out).trans (HL4.out.trans e1.symm)) hx1.1 3
  rw [e1] at hrun
  go_still_tail 9, (by kernel_rfl)
  repeat still_step
  change wpList _ _ _ _ _ w4.drew
  have H5 := H4.out.below (W' := w4.drew) (Below.refl _ _).drew
  have HG5 := HG4.out.trans (Gr.of_below (Below.refl w4.heap.size w4).drew (fp A c))
  have d5 : w4.drew.cell? ⟨W.heap.size, 0, none⟩ = some (.int .i64 (n : Int)) := d4
  have s5 : W.heap.size < w4.drew.heap.size := HS4.out
  have hfd : (gb c.bs n).d ∈ fp A c := fp_d (by rw [H5.lb]; exact HN4.out)
  have H6 := hid (show DA w5 A c (durK k4 n X) from H5.rowD HN4.out hg5 hR5 (e1.trans HL4.out.symm))
  have HG6 := hid (HG5.trans (hg5.mono (T := fp A c) (fun x hx => by obtain rfl := List.mem_singleton.1 hx; exact hfd)))
  have HD6 := hid (box_kept d5 s5 (hg5.mono (T := fp A c) (fun x hx => by obtain rfl := List.mem_singleton.1 hx; exact hfd)) HNF.out)
  have HS6 := hid (Nat.lt_of_lt_of_le s5 hg5.size)
  have HN6 := hid (show n < (durK k4 n X).U.length by rw [len_durK]; exact HN4.out)
  have HF6 := hid (show (durK k4 n X).F.length ≤ 2 ^ 32 from HF4.out)
  clear H4 HX4 HG4 HD4 HS4 HL4 HN4 HF4 H5 HG5 d5 s5 d4 hfd hR5 hg5 hub c0 c1 c2 hul hbn4 hb84 hul4
  generalize durK k4 n X = k6 at *
  have d6 := HD6.out
  go_wp2_with fail
  refine (settle_ok H6.out n HN6.out HF6.out 61 false (fun args w => enters_of Try.func61 (by kernel_rfl) rfl args w) surv61).mono ?_
  rintro e w7 ⟨rfl, HS⟩
  rw [HE.out] at HS
  have H7 := hid HS.out.1
  have HG7 := hid (HG6.out.trans HS.out.2)
  have HD7 := hid (box_kept d6 HS6.out HS.out.2 HNF.out)
  clear HS H6 HG6 HD6 HS6 HN6 HF6 HE d6
  have d7 := HD7.out
  have c0 := H7.out.c1
  have HM7 := hid (show BM w7 c.mb 0 (ldK k n X).bad by rw [← HMN.out]; exact H7.out.mp)
  go_wp2_with fail
  refine (delf_ok HM7.out _).mono ?_
  rintro e w8 ⟨rfl, hb8⟩
  have H8 := hid (H7.out.below hb8)
  have HG8 := hid (HG7.out.trans (Gr.of_below hb8 (fp A c)))
  clear H7 HG7 HM7 d7 c0 hb8 HD7
  go_wp2_with fail
  go_ret
  exact ⟨rfl, hid ⟨H8.out, HG8.out⟩⟩
end Go.Proofs.Ytfaeieeokelokaa
