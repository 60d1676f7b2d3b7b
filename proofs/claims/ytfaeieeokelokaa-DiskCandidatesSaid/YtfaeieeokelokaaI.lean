/- The program's Write. No conditions but those of each theorem. -/
import Derived.Test.YtfaeieeokelokaaH
import Derived.Deep.Cut
namespace Go.Proofs.Ytfaeieeokelokaa
open Go.ChangeShapes Go.WideShapes Go.ChangeAt Go.RowKit
set_option linter.unusedVariables false
set_option linter.unusedSimpArgs false
attribute [local go_sem] Oper.semAt_some putAll
theorem Try.info89 : (Try.prog.info? 89).map (fun i => (i.zero, i.size, i.bytes)) = some (some (.agg #[.int .i64 0, .int .i64 0, .int .u64 0]), 3, 24) := by kernel_rfl
/-- what becomes of the array behind a write that does something -/
def wrote (k : Dk) (n m : Nat) (v : Int) : Dk := { k with U := k.U.set n { gu k.U n with now := (gu k.U n).now.set m v }, bad := fun x y => if x = (n : Int) ∧ y = (m : Int) then false else k.bad x y, F := k.F ++ [⟨n, m, v⟩], wr := k.wr + 1 }
def wrE (k : Dk) (d t : Int) : Int := if chk3 k d t = 0 then (if k.fuse = 1 then 5 else 0) else chk3 k d t
def wrK (k : Dk) (d t : Int) (v : Int) : Dk := if chk3 k d t = 0 then (if k.fuse = 1 then { k with fuse := 0, down := true } else wrote { k with fuse := if 0 < k.fuse then k.fuse - 1 else k.fuse } d.toNat t.toNat v) else k
theorem ff_app (F : List Wr) (x : Wr) : ck 3 F.length (ff F) ++ [.int .i64 (x.d : Int), .int .i64 (x.at' : Int), .int .u64 x.v] = ck 3 (F ++ [x]).length (ff (F ++ [x])) := by
  have e : [Value.int .i64 (x.d : Int), .int .i64 (x.at' : Int), .int .u64 x.v] = ck 3 1 (fun _ j => if j = 0 then .int .i64 (x.d : Int) else if j = 1 then .int .i64 (x.at' : Int) else .int .u64 x.v) := by
    simp [ck, List.range_succ]
  rw [e, ck_app, List.length_append]
  refine ck_congr fun i j hi hj => ?_
  have hi : i < F.length + 1 := hi
  unfold ff gf
  by_cases h : i < F.length
  · rw [if_pos h, List.getElem?_append_left h]
  · rw [if_neg h, List.getElem?_append_right (by omega), show i - F.length = 0 by omega]
    rfl
/-- what an array hands on when it goes on: blocks that it had or that are new -/
def Fresh (W : World) (A : Nat) (c c' : Co) : Prop := ∀ x ∈ fp A c', x ∈ fp A c ∨ W.heap.size ≤ x
theorem Fresh.refl (W : World) (A : Nat) (c : Co) : Fresh W A c c := fun x hx => .inl hx
theorem Fresh.setF {W : World} {A : Nat} {c : Co} {fa : Option Addr} {fc : Nat} (hn : ∀ g ∈ oblk fa, g ∈ oblk c.fa ∨ W.heap.size ≤ g) : Fresh W A c { c with fa := fa, fc := fc } := by
  intro x hx
  unfold fp at hx ⊢
  simp only [List.mem_cons, List.mem_append] at hx ⊢
  rcases hx with h | h | h | h | h
  · exact .inl (.inl h)
  · exact .inl (.inr (.inl h))
  · exact .inl (.inr (.inr (.inl h)))
  · rcases hn x h with h | h
    · exact .inl (.inr (.inr (.inr (.inl h))))
    · exact .inr h
  · exact .inl (.inr (.inr (.inr (.inr h))))
/-- an append to the unflushed writes, and the store of the new slice -/
theorem DA.app {W : World} {A : Nat} {c : Co} {k : Dk} (h : DA W A c k) (n m : Nat) (v : Int) (hn : n < k.U.length) (hm : m < (gu k.U n).now.length) (hF : k.F.length ≤ 2 ^ 32) (W1 : World) (hW1 : W1 = W.alloc (.cells #[.int .i64 (n : Int), .int .i64 (m : Int), .int .u64 v] 89)) (ty : TypeId) :
    ∃ g fc W2, (Builtin.append_ #[76, 76] ty #[.slice c.fa k.F.length c.fc, .slice (some ⟨W.heap.size, 0, none⟩) 1 1]).run Try.prog W1 = .ok (.slice (some ⟨g, 0, none⟩) (k.F.length + 1) fc) W2 ∧
      W2.cell? ⟨A, 2, none⟩ = some (.slice c.fa k.F.length c.fc) ∧ W2.frozen? ⟨A, 2, none⟩ = false ∧
      DA (W2.setCell ⟨A, 2, none⟩ (.slice (some ⟨g, 0, none⟩) (k.F.length + 1) fc)) A { c with fa := some ⟨g, 0, none⟩, fc := fc } { k with F := k.F ++ [⟨n, m, v⟩] } ∧
      Gr (A :: oblk c.fa) W (W2.setCell ⟨A, 2, none⟩ (.slice (some ⟨g, 0, none⟩) (k.F.length + 1) fc)) ∧ (∀ x ∈ oblk (some ⟨g, 0, none⟩), x ∈ oblk c.fa ∨ W.heap.size ≤ x) ∧ W.heap.size < W2.heap.size := by
  obtain ⟨i0, hi, hz0, hz1, hz2⟩ := info_parts Try.info89
  have hb1 : Below W.heap.size W W1 := by rw [hW1]; exact (Below.refl _ _).alloc (Nat.le_refl _) _
  have h1 := h.below hb1
  have n1 := World.news_of_block (w := W1) (cs := #[.int .i64 (n : Int), .int .i64 (m : Int), .int .u64 v]) (t := 89) (fr := (0, 0)) (B := W.heap.size) (by rw [hW1]; exact heap_alloc_new _ _)
  obtain ⟨g, fc, W2, hrun, r2, g2, hlie, hlt⟩ := run_append_lies (P := Try.prog) (w := W1) 76 ty 0 89 i0 (.agg #[.int .i64 0, .int .i64 0, .int .u64 0]) 3 24 Try.underlying76 hi hz0 hz1 hz2 rfl (by decide) (.slice c.fa k.F.length c.fc) k.F.length (ck 3 k.F.length (ff k.F)) h1.rf ⟨W.heap.size, 0, none⟩ 1 1 [.int .i64 (n : Int), .int .i64 (m : Int), .int .u64 v] rfl n1 (by simp [Value.oneCell']) (by omega) (by unfold maxLen; omega) (by omega) (by omega) _ rfl
  have hsz : W1.heap.size = W.heap.size + 1 := by rw [hW1]; simp
  have hG1 : Gr (A :: oblk c.fa) W W2 := (Gr.of_below hb1 _).trans (Gr.of_grown g2 (fun x hx => List.mem_cons_of_mem _ (oblk_of hx)))
  have hA : W2.ownsRow 0 78 6 (.slice (some ⟨A, 0, none⟩) 1 1) 1 [.slice c.ua k.U.length c.uc, .map (some c.mb), .slice c.fa k.F.length c.fc, .int .i64 k.fuse, .bool k.down, .int .i64 k.wr] :=
    World.ownsRow.kept h1.blk g2 (.inr (by intro e; exact h.sep.af (oblk_of e.symm)))
  have hgA : g ≠ A := by
    rcases hlie with e | e
    · have := oblk_of e; intro e2; rw [e2] at this; exact h.sep.af this
    · have := h.lt; omega
  have hnew : ∀ x ∈ oblk (some (⟨g, 0, none⟩ : Addr)), x ∈ oblk c.fa ∨ W.heap.size ≤ x := by
    intro x hx
    have hx2 : x = g := List.mem_singleton.1 hx
    rw [hx2]
    rcases hlie with e | e
    · exact .inl (oblk_of e)
    · right; omega
  refine ⟨g, fc, W2, hrun, World.ownsRow.cellAt hA 2 (by omega), World.ownsRow.frozenAt hA 2, ?_, hG1.trans ((set_gr W2 A 2 _).mono (fun x hx => by obtain rfl := List.mem_singleton.1 hx; exact List.mem_cons_self ..)), hnew, by have := g2.size; omega⟩
  have hlen : (k.F ++ [(⟨n, m, v⟩ : Wr)]).length = k.F.length + 1 := by simp
  refine h.setF (some ⟨g, 0, none⟩) fc (k.F ++ [⟨n, m, v⟩]) (hG1.trans ((set_gr W2 A 2 _).mono (fun x hx => by obtain rfl := List.mem_singleton.1 hx; exact List.mem_cons_self ..))) ?_ ?_ hnew (fun i hi => ?_)
  · rw [hlen]
    exact (World.ownsRow.stored hA 2 _).1
  · rw [← ff_app k.F ⟨n, m, v⟩, hlen]
    exact own_gr r2 (set_gr W2 A 2 _) (fun x hx => by cases hx; rw [List.mem_singleton]; exact hgA)
  · rw [hlen] at hi
    by_cases h2 : i < k.F.length
    · have e : gf (k.F ++ [⟨n, m, v⟩]) i = gf k.F i := by unfold gf; rw [List.getElem?_append_left h2]
      rw [e]; exact h.fi i h2
    · have e : gf (k.F ++ [⟨n, m, v⟩]) i = ⟨n, m, v⟩ := by unfold gf; rw [List.getElem?_append_right (by omega), show i - k.F.length = 0 by omega]; rfl
      rw [e]; exact ⟨hn, hm⟩
/-- the place of a call stays while the array is written -/
theorem box_kept {W W' : World} {S : List Nat} {p : Nat} {x : Value} {j : Nat} (hc : W.cell? ⟨p, j, none⟩ = some x) (hl : p < W.heap.size) (hg : Gr S W W') (hn : p ∉ S) : W'.cell? ⟨p, j, none⟩ = some x :=
  (hg.cell (p := ⟨p, j, none⟩) hl hn).trans hc
set_option maxRecDepth 100000 in
set_option maxHeartbeats 8000000 in
theorem write_ok {W : World} {A : Nat} {c : Co} {k : Dk} (h : DA W A c k) (d t v : Int) (hfu : 0 ≤ k.fuse) (hfu2 : k.fuse ≤ 9223372036854775807) (hF : k.F.length ≤ 2 ^ 32) (hwr0 : 0 ≤ k.wr) (hwr1 : k.wr ≤ 2 ^ 32) :
    Calls Try.prog 15 #[.pointer (some ⟨A, 0, none⟩), .int .i64 d, .int .i64 t, .int .u64 v] W fun e W' => e = .returned (.int .i64 (wrE k d t)) ∧ Hid (∃ c', DA W' A c' (wrK k d t v) ∧ Gr (fp A c) W W' ∧ Fresh W A c c' ∧ c'.mn = c.mn) := by
  have H := hid h
  have HLt := hid h.fp_lt
  clear h
  have HF := hid (first3_at H.out d t)
  have hmx : Try.prog.follows .mixedOrders = true := by kernel_rfl
  have HE0 := hid (show wrE k d t = if chk3 k d t = 0 then (if k.fuse = 1 then 5 else 0) else chk3 k d t from rfl)
  have HK0 := hid (show wrK k d t v = if chk3 k d t = 0 then (if k.fuse = 1 then { k with fuse := 0, down := true } else wrote { k with fuse := if 0 < k.fuse then k.fuse - 1 else k.fuse } d.toNat t.toNat v) else k from rfl)
  by_cases hz : chk3 k d t = 0
  · rw [if_pos hz] at HE0 HK0
    obtain ⟨k1, k2, k3⟩ := chk3_ok hz
    obtain ⟨n, m, rfl, rfl, hn, hm⟩ := hs_iff.1 k2
    rw [hz] at HF
    rw [show ((n : Int)).toNat = n from rfl, show ((m : Int)).toNat = m from rfl] at HK0
    have hb8 := H.out.b8
    have hbn := H.out.bn n hn
    have HW := hid (show (Lit.int .i64 (n : Int)).wf = true ∧ (Lit.int .i64 (m : Int)).wf = true from ⟨wf_nat _ (by omega), wf_nat _ (by omega)⟩)
    have HN := hid (show n < k.U.length ∧ m < (gu k.U n).now.length from ⟨hn, hm⟩)
    have HLF := hid hF
    have HWR := hid (show 0 ≤ k.wr ∧ k.wr ≤ 2 ^ 32 from ⟨hwr0, hwr1⟩)
    clear k1 k2 k3 hz hn hm hb8 hbn hF hwr0 hwr1
    go_enter Try.func15, Try.ntmps15
    go_wp2_with fail
    refine HF.out.mono ?_
    rintro e w1 ⟨rfl, HB⟩
    have H1 := hid (H.out.below HB.out.1)
    have HGW := hid (Gr.of_below HB.out.1 (fp A c))
    have HD := hid HB.out.2.1
    have HT := hid HB.out.2.2.1
    have HBL := hid HB.out.2.2.2
    have HNF := hid (show W.heap.size ∉ fp A c from fun hx => Nat.lt_irrefl _ (HLt.out _ hx))
    clear HF HB
    have q3 := H1.out.c3
    by_cases h1 : 0 < k.fuse
    · by_cases h2 : k.fuse = 1
      · rw [if_pos h2] at HE0 HK0
        rw [h2] at q3
        have g3 := H1.out.fz 3
        have g4 := H1.out.fz 4
        have q4 := H1.out.c4
        have HS := hid (H1.out.setA (set_gr w1 A 3 (.int .i64 0)) 0 k.down k.wr (World.ownsRow.stored H1.out.blk 3 (.int .i64 0)).1)
        have HS2 := hid (HS.out.setA (set_gr _ A 4 (.bool true)) 0 true k.wr (World.ownsRow.stored HS.out.blk 4 (.bool true)).1)
        have HG2 := hid (HGW.out.trans (((set_gr w1 A 3 (.int .i64 0)).trans (set_gr _ A 4 (.bool true))).mono (T := fp A c) (fun x hx => by obtain rfl := List.mem_singleton.1 hx; exact fp_A)))
        clear HS h1 h2
        go_wp2_with fail
        go_ret
        exact ⟨by rw [HE0.out]; rfl, hid ⟨c, HK0.out ▸ HS2.out, HG2.out, Fresh.refl _ _ _, rfl⟩⟩
      · rw [if_neg h2, if_pos h1] at HK0
        rw [if_neg h2] at HE0
        have hfb : (k.fuse - 1 == 0) = false := by simp; omega
        have g3 := H1.out.fz 3
        have HS := hid (H1.out.setA (set_gr w1 A 3 (.int .i64 (k.fuse - 1))) (k.fuse - 1) k.down k.wr (World.ownsRow.stored H1.out.blk 3 (.int .i64 (k.fuse - 1))).1)
        have G2 := (set_gr w1 A 3 (.int .i64 (k.fuse - 1))).mono (T := fp A c) (fun x hx => by obtain rfl := List.mem_singleton.1 hx; exact fp_A)
        have HD' := hid (box_kept HD.out HBL.out G2 HNF.out)
        have HT' := hid (box_kept HT.out HBL.out G2 HNF.out)
        have HGW' := hid (HGW.out.trans G2)
        have HBL' := hid (Nat.lt_of_lt_of_le HBL.out G2.size)
        clear HD HT HGW HBL G2 H1
        go_upto_region 10 with (fail)
        clear q3 g3
        generalize w1.setCell ⟨A, 3, none⟩ (.int .i64 (k.fuse - 1)) = w2 at *
        obtain ⟨k2, hk2⟩ : ∃ k2 : Dk, k2 = { k with fuse := k.fuse - 1 } := ⟨_, rfl⟩
        have H2 := hid (show DA w2 A c k2 by rw [hk2]; exact HS.out)
        have HD := HD'; have HT := HT'; have HGW := HGW'; have HBL := HBL'
        have HN : Hid (n < k2.U.length ∧ m < (gu k2.U n).now.length) := by rw [hk2]; exact HN
        have HLF : Hid (k2.F.length ≤ 2 ^ 32) := by rw [hk2]; exact HLF
        have HWR : Hid (0 ≤ k2.wr ∧ k2.wr ≤ 2 ^ 32) := by rw [hk2]; exact HWR
        have HK := hid (show wrote k2 n m v = wrK k (n : Int) (m : Int) v by rw [hk2]; exact HK0.out.symm)
        have HE := hid (show Ending.returned (.int .i64 0) = Ending.returned (.int .i64 (wrE k (n : Int) (m : Int))) by rw [HE0.out])
        clear hk2 HS HD' HT' HGW' HBL' HE0 HK0 h1 h2 hfb hfu hfu2
        have hn2 : n < k2.U.length := HN.out.1
        have hm2 : m < (gu k2.U n).now.length := HN.out.2
        have hb8 := H2.out.b8
        have hbn := H2.out.bn n hn2
        have c0 := H2.out.c0
        obtain ⟨ub, hub, hul, c1, -, -, -⟩ := H2.out.unit hn2
        rw [hub] at c0
        have c2 := (H2.out.rn n hn2).at m hm2
        have f2 := (H2.out.rn n hn2).frozen m
        have H3 := hid (H2.out.setNow hn2 hm2 v)
        have hfn : (gb c.bs n).n ∈ fp A c := fp_n (by rw [H2.out.lb]; exact hn2)
        have G3 := (set_gr w2 (gb c.bs n).n m (.int .u64 v)).mono (T := fp A c) (fun x hx => by obtain rfl := List.mem_singleton.1 hx; exact hfn)
        have HD3 := hid (box_kept HD.out HBL.out G3 HNF.out)
        have HT3 := hid (box_kept HT.out HBL.out G3 HNF.out)
        have HG3 := hid (HGW.out.trans G3)
        have HBL3 := hid (Nat.lt_of_lt_of_le HBL.out G3.size)
        clear hub hfn G3 hbn
        go_wp2_with fail
        clear c0 c1 c2 f2
        generalize w2.setCell ⟨(gb c.bs n).n, m, none⟩ (.int .u64 v) = w3 at *
        obtain ⟨V0, hV0⟩ : ∃ V0, V0 = w3.drew := ⟨_, rfl⟩
        have H4 := H3.out.below (W' := V0) (by rw [hV0]; exact (Below.refl _ _).drew)
        have HV0 := hid hV0
        have c1 := hid H4.c1
        have d0 := hid (show V0.cell? ⟨W.heap.size, 0, none⟩ = some (.int .i64 (n : Int)) by rw [hV0]; exact HD3.out)
        have d1 := hid (show V0.cell? ⟨W.heap.size, 1, none⟩ = some (.int .i64 (m : Int)) by rw [hV0]; exact HT3.out)
        have hgV : Gr (fp A c) W V0 := by rw [hV0]; exact HG3.out.trans (Gr.of_below (Below.refl _ _).drew _)
        have hlV : W.heap.size < V0.heap.size := by rw [hV0]; exact HBL3.out
        obtain ⟨V1, hrun, hbm, hg1⟩ := H4.mp.del HW.out.1 HW.out.2 0
        have H5 := hid (H4.setB hg1 c.mn _ hbm)
        have hmf : c.mb ∈ fp A c := fp_m
        have G5 := hg1.mono (T := fp A c) (fun x hx => by obtain rfl := List.mem_singleton.1 hx; exact hmf)
        have HD5 := hid (box_kept d0.out hlV G5 HNF.out)
        have HT5 := hid (box_kept d1.out hlV G5 HNF.out)
        have HG5 := hid (hgV.trans G5)
        have HBL5 := hid (Nat.lt_of_lt_of_le hlV G5.size)
        have HRUN := hid hrun
        clear hV0 H4 hgV hlV hrun hbm hg1 hmf G5 H3 HD3 HT3 HG3 HBL3
        obtain ⟨Ws, w0, w1⟩ : ∃ Ws : Nat → World, Ws 0 = V0 ∧ Ws 1 = V1 := ⟨fun q => match q with | 0 => V0 | _ => V1, rfl, rfl⟩
        refine (wpIn_wide (n := 5)).1 ?_
        refine wpIn_region_plan_v (ro := none) (aF := ?aFd) [.pointer (some ⟨A, 0, none⟩), .pointer (some ⟨A, 0, none⟩), .pointer (some ⟨A, 1, none⟩), .map (some c.mb), .agg #[.int .i64 (n : Int), .int .i64 (m : Int)], undef] ?hEd [] [5] [[(0, 0)], [(0, 0)], [(0, 0)], [(0, 0)], [(0, 0)], [(0, 1)]] Ws 81 ?hNd hmx (by kernel_rfl) (by kernel_rfl) ?haFd (w0.trans HV0.out) ?std ?find
        case hEd =>
          go_simp
          rfl
        case hNd => kernel_rfl
        case haFd => kernel_rfl
        case std =>
         refine StepsP.cons rfl (any_steps (by kernel_rfl) ?sd0) (StepsP.cons rfl (any_steps (by kernel_rfl) ?sd1) (StepsP.cons rfl (any_steps (by kernel_rfl) ?sd2) (StepsP.cons rfl (step1 ?sd3_0) (StepsP.cons rfl (step1 ?sd4_0) (StepsP.cons rfl (step1 ?sd5_0) StepsP.nil)))))
         case sd0 =>
          intro _
          refine StepP.want (by kernel_rfl) ?_
          go_simp
         case sd1 =>
          intro _
          refine StepP.want (by kernel_rfl) ?_
          go_simp
         case sd2 =>
          intro _
          refine StepP.want (by kernel_rfl) ?_
          go_simp
         case sd3_0 =>
          rw [w0]
          refine StepP.want (by kernel_rfl) ?_
          have c := c1.out
          go_simp
         case sd4_0 =>
          rw [w0]
          refine StepP.want (by kernel_rfl) ?_
          have c := d0.out
          have c2 := d1.out
          go_simp
         case sd5_0 =>
          rw [w0, w1]
          refine StepP.want (by kernel_rfl) ?_
          have c := HRUN.out
          go_simp
        case find =>
          have e9 : Ws ([5] : List Nat).length = V1 := w1
          rw [e9]
          clear e9 w0 w1
          clear c1 d0 d1 HRUN HV0
          clear V0
          go_wp2_with fail
          obtain ⟨U0, hU0⟩ : ∃ U0, U0 = V1.drew := ⟨_, rfl⟩
          have H6 := H5.out.below (W' := U0) (by rw [hU0]; exact (Below.refl _ _).drew)
          have HU0 := hid hU0
          have c2 := hid H6.c2
          have hAl := hid H6.lt
          have d0 := hid (show U0.cell? ⟨W.heap.size, 0, none⟩ = some (.int .i64 (n : Int)) by rw [hU0]; exact HD5.out)
          have d1 := hid (show U0.cell? ⟨W.heap.size, 1, none⟩ = some (.int .i64 (m : Int)) by rw [hU0]; exact HT5.out)
          have hgV : Gr (fp A c) W U0 := by rw [hU0]; exact HG5.out.trans (Gr.of_below (Below.refl _ _).drew _)
          have hlV : W.heap.size < U0.heap.size := by rw [hU0]; exact HBL5.out
          obtain ⟨U1, hU1⟩ : ∃ U1, U1 = U0.alloc (.cells #[.int .i64 (n : Int), .int .i64 (m : Int), .int .u64 v] 89) := ⟨_, rfl⟩
          obtain ⟨g, fc, U2, hrun, a2, fz, H7, hg7, hnew, hlt⟩ := H6.app n m v (by simpa using hn2) (by show m < (gu (k2.U.set n _) n).now.length; rw [gu_set, if_pos ⟨rfl, hn2⟩]; simpa using hm2) (HLF.out) U1 hU1 76
          have HRUN := hid hrun; have A2 := hid a2; have FZ := hid fz; have HU1 := hid hU1
          have H7 := hid H7
          have HG7 := hid (hgV.trans (hg7.mono (fun x hx => by rcases List.mem_cons.1 hx with rfl | hx; exact fp_A; exact fp_f hx)))
          have HN7 := hid (show Fresh W A c { c with fa := some ⟨g, 0, none⟩, fc := fc } from Fresh.setF (fun x hx => (hnew x hx).imp id (fun h => by omega)))
          clear hU0 H6 hgV hlV hU1 hrun a2 fz hg7 hnew hlt H5 HD5 HT5 HG5 HBL5
          obtain ⟨Ws, w0, w1, w2, w3⟩ : ∃ Ws : Nat → World, Ws 0 = U0 ∧ Ws 1 = U1 ∧ Ws 2 = U2 ∧ Ws 3 = U2.setCell ⟨A, 2, none⟩ (.slice (some ⟨g, 0, none⟩) (k2.F.length + 1) fc) := ⟨fun q => match q with | 0 => U0 | 1 => U1 | 2 => U2 | _ => U2.setCell ⟨A, 2, none⟩ (.slice (some ⟨g, 0, none⟩) (k2.F.length + 1) fc), rfl, rfl, rfl, rfl⟩
          refine (wpIn_wide (n := 5)).1 ?_
          refine wpIn_region_plan_v (ro := none) (aF := ?aFe) [.pointer (some ⟨A, 0, none⟩), .pointer (some ⟨A, 0, none⟩), .pointer (some ⟨A, 0, none⟩), .pointer (some ⟨A, 2, none⟩), .slice c.fa k2.F.length c.fc, .agg #[.int .i64 (n : Int), .int .i64 (m : Int)], .int .u64 v, .agg #[.int .i64 (n : Int), .int .i64 (m : Int), .int .u64 v], .slice (some ⟨U0.heap.size, 0, none⟩) 1 1, .slice (some ⟨g, 0, none⟩) (k2.F.length + 1) fc, .pointer (some ⟨A, 0, none⟩), .pointer (some ⟨A, 2, none⟩), undef] ?hEe [] [8, 9, 12] [[(0, 0), (1, 1), (2, 2)], [(0, 0), (1, 1)], [(0, 0), (1, 1)], [(0, 0), (1, 1)], [(0, 0), (1, 1)], [(0, 0)], [(0, 0)], [(0, 0)], [(0, 1)], [(1, 2)], [(2, 2)], [(2, 2)], [(2, 3)]] Ws 81 ?hNe hmx (by kernel_rfl) (by kernel_rfl) ?haFe (w0.trans HU0.out) ?ste ?fine
          case hEe =>
            go_simp
            rfl
          case hNe => kernel_rfl
          case haFe => kernel_rfl
          case ste =>
           refine StepsP.cons rfl (any_steps (by kernel_rfl) ?se0) (StepsP.cons rfl (any_steps (by kernel_rfl) ?se1) (StepsP.cons rfl (any_steps (by kernel_rfl) ?se2) (StepsP.cons rfl (any_steps (by kernel_rfl) ?se3) (StepsP.cons rfl (step2 ?se4_0 ?se4_1) (StepsP.cons rfl (step1 ?se5_0) (StepsP.cons rfl (any_steps (by kernel_rfl) ?se6) (StepsP.cons rfl (any_steps (by kernel_rfl) ?se7) (StepsP.cons rfl (step1 ?se8_0) (StepsP.cons rfl (step1 ?se9_0) (StepsP.cons rfl (any_steps (by kernel_rfl) ?se10) (StepsP.cons rfl (any_steps (by kernel_rfl) ?se11) (StepsP.cons rfl (step1 ?se12_0) StepsP.nil))))))))))))
           case se0 =>
            intro _
            refine StepP.want (by kernel_rfl) ?_
            go_simp
           case se1 =>
            intro _
            refine StepP.want (by kernel_rfl) ?_
            go_simp
           case se2 =>
            intro _
            refine StepP.want (by kernel_rfl) ?_
            go_simp
           case se3 =>
            intro _
            refine StepP.want (by kernel_rfl) ?_
            go_simp
           case se4_0 =>
            rw [w0]
            refine StepP.want (by kernel_rfl) ?_
            have c := c2.out
            go_simp
           case se4_1 =>
            rw [w1]
            refine StepP.want (by kernel_rfl) ?_
            have c := c2.out
            have c3 := hAl.out
            have e := HU1.out
            subst e
            go_simp
           case se5_0 =>
            rw [w0]
            refine StepP.want (by kernel_rfl) ?_
            have c := d0.out
            have c3 := d1.out
            go_simp
           case se6 =>
            intro _
            refine StepP.want (by kernel_rfl) ?_
            go_simp
           case se7 =>
            intro _
            refine StepP.want (by kernel_rfl) ?_
            go_simp
           case se8_0 =>
            rw [w0, w1]
            refine StepP.want (by kernel_rfl) ?_
            have e := HU1.out
            subst e
            go_simp
           case se9_0 =>
            rw [w1, w2]
            exact StepP.append rfl (.tmp 66) (.tmp 70) 76 rfl _ _ rfl rfl HRUN.out rfl
           case se10 =>
            intro _
            refine StepP.want (by kernel_rfl) ?_
            go_simp
           case se11 =>
            intro _
            refine StepP.want (by kernel_rfl) ?_
            go_simp
           case se12_0 =>
            rw [w2, w3]
            refine StepP.want (by kernel_rfl) ?_
            have c := A2.out
            have c3 := FZ.out
            go_simp
          case fine =>
            have e9 : Ws ([8, 9, 12] : List Nat).length = U2.setCell ⟨A, 2, none⟩ (.slice (some ⟨g, 0, none⟩) (k2.F.length + 1) fc) := w3
            rw [e9]
            clear e9 w0 w1 w2 w3
            clear c2 hAl d0 d1 HRUN A2 FZ HU0 HU1
            generalize U2.setCell ⟨A, 2, none⟩ (.slice (some ⟨g, 0, none⟩) (k2.F.length + 1) fc) = w5 at *
            have c5 := H7.out.c5
            have f5 := H7.out.fz 5
            have hwr := HWR.out
            have H8 := hid (H7.out.setA (set_gr w5 A 5 (.int .i64 (k2.wr + 1))) k2.fuse k2.down (k2.wr + 1) (World.ownsRow.stored H7.out.blk 5 (.int .i64 (k2.wr + 1))).1)
            have HG8 := hid (HG7.out.trans ((set_gr w5 A 5 (.int .i64 (k2.wr + 1))).mono (T := fp A c) (fun x hx => by obtain rfl := List.mem_singleton.1 hx; exact fp_A)))
            clear H7
            go_wp2_with fail
            go_ret
            exact ⟨HE.out, hid ⟨_, HK.out ▸ H8.out, HG8.out, HN7.out, rfl⟩⟩
    · have h2 : ¬ k.fuse = 1 := by omega
      rw [if_neg h2, if_neg h1] at HK0
      rw [if_neg h2] at HE0
      have HK := hid (show wrote k n m v = wrK k (n : Int) (m : Int) v from HK0.out.symm)
      have HE := hid (show Ending.returned (.int .i64 0) = Ending.returned (.int .i64 (wrE k (n : Int) (m : Int))) by rw [HE0.out])
      have h1' : k.fuse ≤ 0 := by omega
      go_upto_region 10 with (fail)
      clear q3 h1' h1 h2 HE0 HK0 hfu hfu2
      obtain ⟨k2, hk2⟩ : ∃ k2 : Dk, k2 = k := ⟨_, rfl⟩
      have H2 := hid (show DA w1 A c k2 by rw [hk2]; exact H1.out)
      clear H1
      generalize w1 = w2 at *
      have HN : Hid (n < k2.U.length ∧ m < (gu k2.U n).now.length) := by rw [hk2]; exact HN
      have HLF : Hid (k2.F.length ≤ 2 ^ 32) := by rw [hk2]; exact HLF
      have HWR : Hid (0 ≤ k2.wr ∧ k2.wr ≤ 2 ^ 32) := by rw [hk2]; exact HWR
      have HK : Hid (wrote k2 n m v = wrK k (n : Int) (m : Int) v) := by rw [hk2]; exact HK
      clear hk2
      have hn2 : n < k2.U.length := HN.out.1
      have hm2 : m < (gu k2.U n).now.length := HN.out.2
      have hb8 := H2.out.b8
      have hbn := H2.out.bn n hn2
      have c0 := H2.out.c0
      obtain ⟨ub, hub, hul, c1, -, -, -⟩ := H2.out.unit hn2
      rw [hub] at c0
      have c2 := (H2.out.rn n hn2).at m hm2
      have f2 := (H2.out.rn n hn2).frozen m
      have H3 := hid (H2.out.setNow hn2 hm2 v)
      have hfn : (gb c.bs n).n ∈ fp A c := fp_n (by rw [H2.out.lb]; exact hn2)
      have G3 := (set_gr w2 (gb c.bs n).n m (.int .u64 v)).mono (T := fp A c) (fun x hx => by obtain rfl := List.mem_singleton.1 hx; exact hfn)
      have HD3 := hid (box_kept HD.out HBL.out G3 HNF.out)
      have HT3 := hid (box_kept HT.out HBL.out G3 HNF.out)
      have HG3 := hid (HGW.out.trans G3)
      have HBL3 := hid (Nat.lt_of_lt_of_le HBL.out G3.size)
      clear hub hfn G3 hbn
      go_wp2_with fail
      clear c0 c1 c2 f2
      generalize w2.setCell ⟨(gb c.bs n).n, m, none⟩ (.int .u64 v) = w3 at *
      obtain ⟨V0, hV0⟩ : ∃ V0, V0 = w3.drew := ⟨_, rfl⟩
      have H4 := H3.out.below (W' := V0) (by rw [hV0]; exact (Below.refl _ _).drew)
      have HV0 := hid hV0
      have c1 := hid H4.c1
      have d0 := hid (show V0.cell? ⟨W.heap.size, 0, none⟩ = some (.int .i64 (n : Int)) by rw [hV0]; exact HD3.out)
      have d1 := hid (show V0.cell? ⟨W.heap.size, 1, none⟩ = some (.int .i64 (m : Int)) by rw [hV0]; exact HT3.out)
      have hgV : Gr (fp A c) W V0 := by rw [hV0]; exact HG3.out.trans (Gr.of_below (Below.refl _ _).drew _)
      have hlV : W.heap.size < V0.heap.size := by rw [hV0]; exact HBL3.out
      obtain ⟨V1, hrun, hbm, hg1⟩ := H4.mp.del HW.out.1 HW.out.2 0
      have H5 := hid (H4.setB hg1 c.mn _ hbm)
      have hmf : c.mb ∈ fp A c := fp_m
      have G5 := hg1.mono (T := fp A c) (fun x hx => by obtain rfl := List.mem_singleton.1 hx; exact hmf)
      have HD5 := hid (box_kept d0.out hlV G5 HNF.out)
      have HT5 := hid (box_kept d1.out hlV G5 HNF.out)
      have HG5 := hid (hgV.trans G5)
      have HBL5 := hid (Nat.lt_of_lt_of_le hlV G5.size)
      have HRUN := hid hrun
      clear hV0 H4 hgV hlV hrun hbm hg1 hmf G5 H3 HD3 HT3 HG3 HBL3
      obtain ⟨Ws, w0, w1⟩ : ∃ Ws : Nat → World, Ws 0 = V0 ∧ Ws 1 = V1 := ⟨fun q => match q with | 0 => V0 | _ => V1, rfl, rfl⟩
      refine (wpIn_wide (n := 5)).1 ?_
      refine wpIn_region_plan_v (ro := none) (aF := ?aFf) [.pointer (some ⟨A, 0, none⟩), .pointer (some ⟨A, 0, none⟩), .pointer (some ⟨A, 1, none⟩), .map (some c.mb), .agg #[.int .i64 (n : Int), .int .i64 (m : Int)], undef] ?hEf [] [5] [[(0, 0)], [(0, 0)], [(0, 0)], [(0, 0)], [(0, 0)], [(0, 1)]] Ws 81 ?hNf hmx (by kernel_rfl) (by kernel_rfl) ?haFf (w0.trans HV0.out) ?stf ?finf
      case hEf =>
        go_simp
        rfl
      case hNf => kernel_rfl
      case haFf => kernel_rfl
      case stf =>
       refine StepsP.cons rfl (any_steps (by kernel_rfl) ?sf0) (StepsP.cons rfl (any_steps (by kernel_rfl) ?sf1) (StepsP.cons rfl (any_steps (by kernel_rfl) ?sf2) (StepsP.cons rfl (step1 ?sf3_0) (StepsP.cons rfl (step1 ?sf4_0) (StepsP.cons rfl (step1 ?sf5_0) StepsP.nil)))))
       case sf0 =>
        intro _
        refine StepP.want (by kernel_rfl) ?_
        go_simp
       case sf1 =>
        intro _
        refine StepP.want (by kernel_rfl) ?_
        go_simp
       case sf2 =>
        intro _
        refine StepP.want (by kernel_rfl) ?_
        go_simp
       case sf3_0 =>
        rw [w0]
        refine StepP.want (by kernel_rfl) ?_
        have c := c1.out
        go_simp
       case sf4_0 =>
        rw [w0]
        refine StepP.want (by kernel_rfl) ?_
        have c := d0.out
        have c2 := d1.out
        go_simp
       case sf5_0 =>
        rw [w0, w1]
        refine StepP.want (by kernel_rfl) ?_
        have c := HRUN.out
        go_simp
      case finf =>
        have e9 : Ws ([5] : List Nat).length = V1 := w1
        rw [e9]
        clear e9 w0 w1
        clear c1 d0 d1 HRUN HV0
        clear V0
        go_wp2_with fail
        obtain ⟨U0, hU0⟩ : ∃ U0, U0 = V1.drew := ⟨_, rfl⟩
        have H6 := H5.out.below (W' := U0) (by rw [hU0]; exact (Below.refl _ _).drew)
        have HU0 := hid hU0
        have c2 := hid H6.c2
        have hAl := hid H6.lt
        have d0 := hid (show U0.cell? ⟨W.heap.size, 0, none⟩ = some (.int .i64 (n : Int)) by rw [hU0]; exact HD5.out)
        have d1 := hid (show U0.cell? ⟨W.heap.size, 1, none⟩ = some (.int .i64 (m : Int)) by rw [hU0]; exact HT5.out)
        have hgV : Gr (fp A c) W U0 := by rw [hU0]; exact HG5.out.trans (Gr.of_below (Below.refl _ _).drew _)
        have hlV : W.heap.size < U0.heap.size := by rw [hU0]; exact HBL5.out
        obtain ⟨U1, hU1⟩ : ∃ U1, U1 = U0.alloc (.cells #[.int .i64 (n : Int), .int .i64 (m : Int), .int .u64 v] 89) := ⟨_, rfl⟩
        obtain ⟨g, fc, U2, hrun, a2, fz, H7, hg7, hnew, hlt⟩ := H6.app n m v (by simpa using hn2) (by show m < (gu (k2.U.set n _) n).now.length; rw [gu_set, if_pos ⟨rfl, hn2⟩]; simpa using hm2) (HLF.out) U1 hU1 76
        have HRUN := hid hrun; have A2 := hid a2; have FZ := hid fz; have HU1 := hid hU1
        have H7 := hid H7
        have HG7 := hid (hgV.trans (hg7.mono (fun x hx => by rcases List.mem_cons.1 hx with rfl | hx; exact fp_A; exact fp_f hx)))
        have HN7 := hid (show Fresh W A c { c with fa := some ⟨g, 0, none⟩, fc := fc } from Fresh.setF (fun x hx => (hnew x hx).imp id (fun h => by omega)))
        clear hU0 H6 hgV hlV hU1 hrun a2 fz hg7 hnew hlt H5 HD5 HT5 HG5 HBL5
        obtain ⟨Ws, w0, w1, w2, w3⟩ : ∃ Ws : Nat → World, Ws 0 = U0 ∧ Ws 1 = U1 ∧ Ws 2 = U2 ∧ Ws 3 = U2.setCell ⟨A, 2, none⟩ (.slice (some ⟨g, 0, none⟩) (k2.F.length + 1) fc) := ⟨fun q => match q with | 0 => U0 | 1 => U1 | 2 => U2 | _ => U2.setCell ⟨A, 2, none⟩ (.slice (some ⟨g, 0, none⟩) (k2.F.length + 1) fc), rfl, rfl, rfl, rfl⟩
        refine (wpIn_wide (n := 5)).1 ?_
        refine wpIn_region_plan_v (ro := none) (aF := ?aFg) [.pointer (some ⟨A, 0, none⟩), .pointer (some ⟨A, 0, none⟩), .pointer (some ⟨A, 0, none⟩), .pointer (some ⟨A, 2, none⟩), .slice c.fa k2.F.length c.fc, .agg #[.int .i64 (n : Int), .int .i64 (m : Int)], .int .u64 v, .agg #[.int .i64 (n : Int), .int .i64 (m : Int), .int .u64 v], .slice (some ⟨U0.heap.size, 0, none⟩) 1 1, .slice (some ⟨g, 0, none⟩) (k2.F.length + 1) fc, .pointer (some ⟨A, 0, none⟩), .pointer (some ⟨A, 2, none⟩), undef] ?hEg [] [8, 9, 12] [[(0, 0), (1, 1), (2, 2)], [(0, 0), (1, 1)], [(0, 0), (1, 1)], [(0, 0), (1, 1)], [(0, 0), (1, 1)], [(0, 0)], [(0, 0)], [(0, 0)], [(0, 1)], [(1, 2)], [(2, 2)], [(2, 2)], [(2, 3)]] Ws 81 ?hNg hmx (by kernel_rfl) (by kernel_rfl) ?haFg (w0.trans HU0.out) ?stg ?fing
        case hEg =>
          go_simp
          rfl
        case hNg => kernel_rfl
        case haFg => kernel_rfl
        case stg =>
         refine StepsP.cons rfl (any_steps (by kernel_rfl) ?sg0) (StepsP.cons rfl (any_steps (by kernel_rfl) ?sg1) (StepsP.cons rfl (any_steps (by kernel_rfl) ?sg2) (StepsP.cons rfl (any_steps (by kernel_rfl) ?sg3) (StepsP.cons rfl (step2 ?sg4_0 ?sg4_1) (StepsP.cons rfl (step1 ?sg5_0) (StepsP.cons rfl (any_steps (by kernel_rfl) ?sg6) (StepsP.cons rfl (any_steps (by kernel_rfl) ?sg7) (StepsP.cons rfl (step1 ?sg8_0) (StepsP.cons rfl (step1 ?sg9_0) (StepsP.cons rfl (any_steps (by kernel_rfl) ?sg10) (StepsP.cons rfl (any_steps (by kernel_rfl) ?sg11) (StepsP.cons rfl (step1 ?sg12_0) StepsP.nil))))))))))))
         case sg0 =>
          intro _
          refine StepP.want (by kernel_rfl) ?_
          go_simp
         case sg1 =>
          intro _
          refine StepP.want (by kernel_rfl) ?_
          go_simp
         case sg2 =>
          intro _
          refine StepP.want (by kernel_rfl) ?_
          go_simp
         case sg3 =>
          intro _
          refine StepP.want (by kernel_rfl) ?_
          go_simp
         case sg4_0 =>
          rw [w0]
          refine StepP.want (by kernel_rfl) ?_
          have c := c2.out
          go_simp
         case sg4_1 =>
          rw [w1]
          refine StepP.want (by kernel_rfl) ?_
          have c := c2.out
          have c3 := hAl.out
          have e := HU1.out
          subst e
          go_simp
         case sg5_0 =>
          rw [w0]
          refine StepP.want (by kernel_rfl) ?_
          have c := d0.out
          have c3 := d1.out
          go_simp
         case sg6 =>
          intro _
          refine StepP.want (by kernel_rfl) ?_
          go_simp
         case sg7 =>
          intro _
          refine StepP.want (by kernel_rfl) ?_
          go_simp
         case sg8_0 =>
          rw [w0, w1]
          refine StepP.want (by kernel_rfl) ?_
          have e := HU1.out
          subst e
          go_simp
         case sg9_0 =>
          rw [w1, w2]
          exact StepP.append rfl (.tmp 66) (.tmp 70) 76 rfl _ _ rfl rfl HRUN.out rfl
         case sg10 =>
          intro _
          refine StepP.want (by kernel_rfl) ?_
          go_simp
         case sg11 =>
          intro _
          refine StepP.want (by kernel_rfl) ?_
          go_simp
         case sg12_0 =>
          rw [w2, w3]
          refine StepP.want (by kernel_rfl) ?_
          have c := A2.out
          have c3 := FZ.out
          go_simp
        case fing =>
          have e9 : Ws ([8, 9, 12] : List Nat).length = U2.setCell ⟨A, 2, none⟩ (.slice (some ⟨g, 0, none⟩) (k2.F.length + 1) fc) := w3
          rw [e9]
          clear e9 w0 w1 w2 w3
          clear c2 hAl d0 d1 HRUN A2 FZ HU0 HU1
          generalize U2.setCell ⟨A, 2, none⟩ (.slice (some ⟨g, 0, none⟩) (k2.F.length + 1) fc) = w5 at *
          have c5 := H7.out.c5
          have f5 := H7.out.fz 5
          have hwr := HWR.out
          have H8 := hid (H7.out.setA (set_gr w5 A 5 (.int .i64 (k2.wr + 1))) k2.fuse k2.down (k2.wr + 1) (World.ownsRow.stored H7.out.blk 5 (.int .i64 (k2.wr + 1))).1)
          have HG8 := hid (HG7.out.trans ((set_gr w5 A 5 (.int .i64 (k2.wr + 1))).mono (T := fp A c) (fun x hx => by obtain rfl := List.mem_singleton.1 hx; exact fp_A)))
          clear H7
          go_wp2_with fail
          go_ret
          exact ⟨HE.out, hid ⟨_, HK.out ▸ H8.out, HG8.out, HN7.out, rfl⟩⟩
  · rw [if_neg hz] at HE0 HK0
    rw [HE0.out, HK0.out]
    have hzb : (chk3 k d t != 0) = true := by simpa using hz
    generalize chk3 k d t = x at *
    go_enter Try.func15, Try.ntmps15
    go_wp2_with fail
    refine HF.out.mono ?_
    rintro e w1 ⟨rfl, HB⟩
    have H1 := hid (H.out.below HB.out.1)
    have HB1 := hid (Gr.of_below HB.out.1 (fp A c))
    go_wp2_with fail
    go_ret
    exact ⟨rfl, hid ⟨c, H1.out, HB1.out, Fresh.refl _ _ _, rfl⟩⟩
end Go.Proofs.Ytfaeieeokelokaa
