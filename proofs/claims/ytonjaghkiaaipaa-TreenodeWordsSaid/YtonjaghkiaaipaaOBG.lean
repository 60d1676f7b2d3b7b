/- Fields of layer 2: the word of the fields, or its error. No conditions but those of each theorem. -/
import Derived.Test.YtonjaghkiaaipaaOBR
import Derived.RangeFuncNested
namespace Go.Proofs.Ytonjaghkiaaipaa.OldB
open Go.ChangeShapes Go.WideShapes Go.ChangeAt Go.RowKit Go.Shelf
set_option linter.unusedVariables false
set_option linter.unusedSimpArgs false
attribute [local go_sem] Oper.semAt_some

theorem mask_is (lo b : Int) (h1 : 1 ≤ b) (h2 : b ≤ 64) (w : World) :
    Calls Try.prog 59 #[.agg #[.int .i64 lo, .int .i64 b]] w fun e w' => e = .returned (.int .u64 ((2 ^ b.toNat - 1 : Nat) : Int)) ∧ w' = w.alloc (.cells #[.int .i64 lo, .int .i64 b] 87) := by
  have hm := hid (show (18446744073709551615 : Int) / 2 ^ (64 - b).toNat = ((2 ^ b.toNat - 1 : Nat) : Int) by
    have := mask_num b.toNat (by omega)
    rwa [show 64 - b.toNat = (64 - b).toNat by omega] at this)
  go_enter Try.func59, Try.ntmps59
  go_wp2_with fail
  rw [hm.out]
  go_ret
  exact ⟨rfl, rfl⟩

/-- a block of two cells -/
def Pair (W : World) (B : Nat) (x y : Int) : Prop := W.heap[B]? = some (.cells #[.int .i64 x, .int .i64 y] 87 (0, 0))
theorem pair_own (B : Nat) (x y : Int) : Own (fun (_ : Unit) W => Pair W B x y) := fun s X Y row hs hg hrow =>
  (hg.block B (Array.getElem?_eq_some_iff.1 hs).1 (fun e' => by obtain ⟨o, ho, hc⟩ := hrow B e'.symm; rw [show X.heap[B]? = _ from hs] at ho; cases ho; cases hc)).trans hs
theorem Pair.lt {W : World} {B : Nat} {x y : Int} (h : Pair W B x y) : B < W.heap.size := (Array.getElem?_eq_some_iff.1 h).1
theorem Pair.alloc {W : World} {B : Nat} {x y : Int} (h : Pair W B x y) (o : Obj) : Pair (W.alloc o) B x y := (Below.heap_alloc W o B h.lt).trans h
theorem Pair.c0 {W : World} {B : Nat} {x y : Int} (h : Pair W B x y) : W.cell? ⟨B, 0, none⟩ = some (.int .i64 x) := by simp [World.cell?, show W.heap[B]? = _ from h]
theorem Pair.c1 {W : World} {B : Nat} {x y : Int} (h : Pair W B x y) : W.cell? ⟨B, 1, none⟩ = some (.int .i64 y) := by simp [World.cell?, show W.heap[B]? = _ from h]

/-- the word of fields that came -/
def fwl {len : Nat} (zs : List Int) (vs : List Nat) (l : List (Ix len)) : Nat := l.foldl (fun r x => r ||| ((vs[x.1]?.getD 0) <<< (sw zs x.1).toNat)) 0
theorem fwl_snoc {len : Nat} (zs : List Int) (vs : List Nat) (l : List (Ix len)) (x : Ix len) : fwl zs vs (l ++ [x]) = fwl zs vs l ||| ((vs[x.1]?.getD 0) <<< (sw zs x.1).toNat) := by simp [fwl]
theorem fwl_firsts (zs : List Int) (vs : List Nat) (len k : Nat) (h : k ≤ len) : fwl zs vs (firsts len k h) = fw zs vs k := by
  induction k with
  | zero => rfl
  | succ k ih => rw [firsts, fwl_snoc, ih, fw]
theorem mem_firsts (len k : Nat) (h : k ≤ len) (j : Nat) (hj : j < len) (hk : j < k) : (⟨j, hj⟩ : Ix len) ∈ firsts len k h := by
  induction k with
  | zero => omega
  | succ k ih =>
    rw [firsts]
    by_cases e : j = k
    · subst e; exact List.mem_append.2 (.inr (by simp))
    · exact List.mem_append.2 (.inl (ih (by omega) (by omega)))
theorem sw_up (zs : List Int) (len k : Nat) (h : k ≤ len) (hz : ∀ j, j < len → fit zs j) (i : Nat) (hi : i < k) : sw zs i + zs[i]?.getD 0 ≤ 64 := by
  have h1 := sw_bd zs (i + 1) (fun j hj => hz j (by omega))
  have h2 : sw zs (i + 1) = sw zs i + zs[i]?.getD 0 := rfl
  omega
theorem shl_lt (v : Nat) (s z : Int) (h0 : 0 ≤ s) (h1 : 1 ≤ z) (h2 : s + z ≤ 64) (hv : v < 2 ^ z.toNat) : v <<< s.toNat < 2 ^ 64 := by
  rw [Nat.shiftLeft_eq]
  have h4 : v * 2 ^ s.toNat < 2 ^ z.toNat * 2 ^ s.toNat := Nat.mul_lt_mul_of_pos_right hv (Nat.two_pow_pos _)
  rw [← Nat.pow_add] at h4
  exact Nat.lt_of_lt_of_le h4 (Nat.pow_le_pow_right (by omega) (by omega))
theorem fwl_lt {len : Nat} (zs : List Int) (vs : List Nat) (hz : ∀ j, j < len → fit zs j) (l : List (Ix len)) (h : ∀ x ∈ l, vfit zs vs x.1) : fwl zs vs l < 2 ^ 64 := by
  have H : ∀ (l : List (Ix len)) (r : Nat), r < 2 ^ 64 → (∀ x ∈ l, vfit zs vs x.1) → l.foldl (fun r x => r ||| ((vs[x.1]?.getD 0) <<< (sw zs x.1).toNat)) r < 2 ^ 64 := by
    intro l
    induction l with
    | nil => intro r hr _; exact hr
    | cons x l ih =>
      intro r hr hl
      refine ih _ (Nat.or_lt_two_pow hr ?_) (fun y hy => hl y (List.mem_cons_of_mem _ hy))
      have h1 := sw_bd zs x.1 (fun j hj => hz j (by have := x.2; omega))
      have h2 := sw_up zs len (x.1 + 1) x.2 hz x.1 (by omega)
      have h3 := hz x.1 x.2
      unfold fit at h3
      exact shl_lt _ _ _ h1.1 h3.1 h2 (hl x (List.mem_cons_self ..))
  exact H l 0 (by decide) h

theorem after_mask1 (W : World) (o : Obj) : KeepsOthers W (W.drew.alloc o) := (KeepsOthers.drew W).trans (KeepsOthers.alloc _ _)
theorem after_mask2 (n₀ : Nat) (W : World) (o : Obj) (h : n₀ ≤ W.heap.size) : Below n₀ W (W.drew.alloc o) := ((Below.refl n₀ W).drew).alloc h _
theorem or_shl (x v : Nat) (s : Int) (hx : x < 2 ^ 64) (hv : v <<< s.toNat < 2 ^ 64) : bits .or .u64 (x : Int) (IntKind.u64.wrap ((v : Int) * 2 ^ s.toNat)) = ((x ||| (v <<< s.toNat) : Nat) : Int) := by
  have e : (v : Int) * 2 ^ s.toNat = ((v <<< s.toNat : Nat) : Int) := by rw [Nat.shiftLeft_eq, Int.natCast_mul, Int.natCast_pow]; rfl
  rw [e]
  generalize v <<< s.toNat = y at hv
  have e2 : IntKind.u64.wrap (y : Int) = (y : Int) := by simp [IntKind.wrap, IntKind.bits, IntKind.signed]; omega
  rw [e2, u64_or_nat _ _ hx hv]

/-- what is left behind each way through a region, proved once -/
structure Kept (p : Prop) : Prop where
  out : p
theorem share {A : Prop} (G : Prop) (k : Kept G → A) (pf : Kept G) : A := k pf

set_option maxRecDepth 100000 in
set_option maxHeartbeats 2000000 in
theorem fields_all (a b : Option Addr) (len cap cap2 : Nat) (zs : List Int) (vs : List Nat) (hbig : len ≤ 9223372036854775807) (hz : ∀ j, j < len → fit zs j) (w : World) (hI : Wi w.heap.size w a len zs) (hV : Va w.heap.size w b len vs) :
    Calls Try.prog 45 #[.slice a len cap, .slice b len cap2] w fun e w' => (((∀ j, j < len → vfit zs vs j) ∧ e = .returned (.tuple #[.int .u64 (fw zs vs len : Nat), .int .i64 0])) ∨ ((¬ ∀ j, j < len → vfit zs vs j) ∧ e = .returned (.tuple #[.int .u64 0, .int .i64 1]))) ∧ Below w.heap.size w w' := by
  have HI := hid hI
  have HV := hid hV
  have HZ := hid hz
  clear hI hV hz
  refine (callsIn_wide (n := 5)).1 (callsIn_of_wp_marks Try.func45 rfl trivial ?_ rfl)
  simp only [Try.ntmps45, List.size_toArray, List.length_cons, List.length_nil, Nat.reduceAdd, Nat.reduceSub, Array.replicate_succ, Array.replicate_zero, List.push_toArray, List.append_toArray, List.nil_append, List.cons_append]
  refine wpIn_wide.2 ?_
  go_wp2_with fail
  obtain ⟨wC, hwC⟩ : ∃ wC, wC = ((w.alloc (Obj.cells #[Value.slice b len cap2] 30)).alloc (Obj.cells #[Value.int IntKind.u64 0] 38)).alloc (Obj.cells #[Value.int IntKind.i64 0] 31) := ⟨_, rfl⟩
  rw [← hwC]
  have b1 := (((Boxed.new w 30 (.slice b len cap2)).alloc (.cells #[.int .u64 0] 38)).alloc (.cells #[.int .i64 0] 31))
  have b2 := (Boxed.new (w.alloc (.cells #[.slice b len cap2] 30)) 38 (.int .u64 0)).alloc (.cells #[.int .i64 0] 31)
  have b3 := Boxed.new ((w.alloc (.cells #[.slice b len cap2] 30)).alloc (.cells #[.int .u64 0] 38)) 31 (.int .i64 0)
  simp only [World.size_alloc] at b2 b3
  have hB0 : Below w.heap.size w wC := by rw [hwC]; exact (((Below.refl _ w).alloc (Nat.le_refl _) _).alloc (by simp) _).alloc (by simp; omega) _
  have hsz : wC.heap.size = w.heap.size + 3 := by rw [hwC]; simp
  rw [← hwC] at b1 b2 b3
  have HsC := hid hsz
  have B1 := hid b1; have B2 := hid b2; have B3 := hid b3; have HB0 := hid hB0
  clear hwC hsz b1 b2 b3 hB0
  refine (chk_ok a len cap zs w.heap.size wC hbig (HI.out.below HB0.out) HZ.out).mono ?_
  rintro e w1 ⟨rfl, rfl⟩
  go_wp2_with fail
  have c1 := B1.out.alloc (.cells #[.int .u64 0] 38)
  have c2 := B2.out.alloc (.cells #[.int .u64 0] 38)
  have c3 := B3.out.alloc (.cells #[.int .u64 0] 38)
  have c4 := Boxed.new wC 38 (.int .u64 0)
  rw [HsC.out] at c4
  have hB1 := hid (HB0.out.alloc (by rw [HsC.out]; omega) (.cells #[.int .u64 0] 38))
  have hs1 := hid (show (wC.alloc (.cells #[.int .u64 0] 38)).heap.size = w.heap.size + 4 by rw [World.size_alloc, HsC.out])
  rw [HsC.out]
  have C1 := hid c1; have C2 := hid c2; have C3 := hid c3; have C4 := hid c4
  clear c1 c2 c3 c4 B1 B2 B3 HB0 HsC
  generalize wC.alloc (.cells #[.int .u64 0] 38) = wD at *
  refine ((callsIn_wide (n := 4)).1 (fields_in Fence.wide 4 trivial rfl a len cap _)).mono ?_
  rintro e w' ⟨rfl, rfl⟩
  go_wp2_with fail
  rw [hs1.out]
  have d1 := C1.out.alloc (.cells #[.slice a len cap] 22)
  have d2 := C2.out.alloc (.cells #[.slice a len cap] 22)
  have d3 := C3.out.alloc (.cells #[.slice a len cap] 22)
  have d4 := C4.out.alloc (.cells #[.slice a len cap] 22)
  have d5 := Boxed.new wD 22 (.slice a len cap)
  rw [hs1.out] at d5
  have hB2 := hB1.out.alloc (by rw [hs1.out]; omega) (.cells #[.slice a len cap] 22)
  have hs2 : (wD.alloc (.cells #[.slice a len cap] 22)).heap.size = w.heap.size + 5 := by rw [World.size_alloc, hs1.out]
  clear C1 C2 C3 C4 hB1 hs1
  generalize wD.alloc (.cells #[.slice a len cap] 22) = wS at *
  refine (wpIn_wide (n := 5)).1 ?_
  refine wpIn_rangeFunc_ownH (F := Fence.wide) (n := 5) rfl (by omega) (gf := 64) (lb := #[.pointer (some ⟨w.heap.size + 4, 0, none⟩)]) rfl trivial (enters_of Try.func64 (by kernel_rfl) rfl)
    (fields_stops Fence.wide 4 trivial rfl (by omega) (w.heap.size + 4) w.heap.size a len cap zs hbig HZ.out wS (by omega) (by omega) d5.cell (HI.out.below hB2)) belowK_t (belowK_b (by omega)) (Below.refl _ _) (fun _ => rfl)
    (fun pre W => (((((∀ x ∈ pre, vfit zs vs x.1) ∧ Boxed W (w.heap.size + 3) 38 (.int .u64 (fwl zs vs pre : Nat))) ∧ Boxed W w.heap.size 30 (.slice b len cap2)) ∧ Boxed W (w.heap.size + 1) 38 (.int .u64 0)) ∧ Boxed W (w.heap.size + 2) 31 (.int .i64 0)) ∧ Below w.heap.size w W)
    (fun c pre W => (((c = .ret ∧ ∃ x ∈ pre, ¬ vfit zs vs x.1) ∧ Boxed W (w.heap.size + 1) 38 (.int .u64 0)) ∧ Boxed W (w.heap.size + 2) 31 (.int .i64 1)) ∧ Below w.heap.size w W)
    (OwnFrom.and (OwnFrom.and (OwnFrom.and (OwnFrom.and (OwnFrom.and (ownFrom_pure _ _) (Own.from (boxed_own _ _ _) _)) (Own.from (boxed_own _ _ _) _)) (Own.from (boxed_own _ _ _) _)) (Own.from (boxed_own _ _ _) _)) (ownFrom_below (Nat.le_refl _) (by omega)))
    (fun c => OwnFrom.and (OwnFrom.and (OwnFrom.and (ownFrom_pure _ _) (Own.from (boxed_own _ _ _) _)) (Own.from (boxed_own _ _ _) _)) (ownFrom_below (Nat.le_refl _) (by omega)))
    ⟨⟨⟨⟨⟨by simp, d4⟩, d1⟩, d2⟩, d3⟩, hB2⟩
    (fun x a' W => ∃ Bx, w.heap.size + 3 < Bx ∧ Pair W Bx (sw zs x.1) (zs[x.1]?.getD 0) ∧ a' = { tmps := #[.slice a len cap, .slice b len cap2, undef, .pointer (some ⟨w.heap.size, 0, none⟩), .pointer (some ⟨w.heap.size + 1, 0, none⟩), .pointer (some ⟨w.heap.size + 1 + 1, 0, none⟩), .int .i64 0, .pointer (some ⟨w.heap.size + 3, 0, none⟩), .int .i64 (x.1 : Int), .pointer (some ⟨Bx, 0, none⟩), .slice a len cap, .int .i64 len, .slice b len cap2, .int .i64 len, .bool false, .slice a len cap, .int .i64 0, .int .i64 0, .bool false, undef, .slice a len cap, .func (.func 64) #[] #[.pointer (some ⟨w.heap.size + 4, 0, none⟩)], .int .i64 (x.1 : Int), .agg #[.int .i64 (sw zs x.1), .int .i64 (zs[x.1]?.getD 0)], undef, undef, undef, undef, undef, undef, undef, undef, undef, undef, undef, undef, undef, undef, undef, undef, undef], defers := [] })
    (fun x a' _ X Y row hs hg hr => by obtain ⟨Bx, h1, h2, h3⟩ := hs; exact ⟨Bx, h1, pair_own Bx _ _ () X Y row h2 hg (fun r e => (hr r e).2), h3⟩)
    ?assign ?body ?done ?stop
  case assign =>
    rintro l pre x W K ⟨⟨⟨⟨⟨hp, e4⟩, e1⟩, e2⟩, e3⟩, eB⟩ hK
    have es := e4.lt
    gi_wp2
    exact hK _ _ ((KeepsOthers.alloc _ _).from _) ((Below.refl _ W).alloc eB.size _) ⟨⟨⟨⟨⟨hp, e4.alloc _⟩, e1.alloc _⟩, e2.alloc _⟩, e3.alloc _⟩, eB.alloc eB.size _⟩ ⟨W.heap.size, es, World.alloc_heap_new W _, rfl⟩
  case body =>
    rintro l pre x a' W hl ⟨r, hr⟩ ⟨⟨⟨⟨⟨hp, e4⟩, e1⟩, e2⟩, e3⟩, eB⟩ ⟨Bx, hBx, eX, rfl⟩ hlt
    have hx := x.2
    have hfit := HZ.out x.1 hx
    unfold fit at hfit
    obtain ⟨f1, f2⟩ := hfit
    obtain ⟨s1, s2⟩ := sw_bd zs x.1 (fun j hj => HZ.out j (by omega))
    have HF := hid (fwl_lt zs vs HZ.out pre hp)
    obtain ⟨v1, v2⟩ := HV.out
    have hv := v1 x.1 hx
    obtain ⟨bb, off, rfl, hbb, hcv⟩ := v2.resolve_left (by omega)
    have cV := (eB.cell (p := ⟨bb, off + x.1, none⟩) hbb).trans (hcv x.1 hx)
    clear v1 v2 hcv
    have c1 := e1.cell
    have c4 := e4.cell
    have g4 := e4.frozen
    have cX0 := eX.c0
    have cX1 := eX.c1
    have hx2 : (x.1 : Int) < (len : Int) := by omega
    have hx3 : (0 : Int) ≤ (x.1 : Int) := by omega
    have HSN := hid (fwl_snoc zs vs pre x)
    have HM := hid (mask_is (sw zs x.1) (zs[x.1]?.getD 0) f1 (by omega))
    have h1' : 1 ≤ 5 - 1 - 1 := by omega
    have hmx : Try.prog.follows .mixedOrders = true := by kernel_rfl
    obtain ⟨wM, hwM⟩ : ∃ wM, wM = W.drew.alloc (.cells #[.int .i64 (sw zs x.1), .int .i64 (zs[x.1]?.getD 0)] 87) := ⟨_, rfl⟩
    have m1 : wM.cell? ⟨w.heap.size, 0, none⟩ = some (.slice (some ⟨bb, off, none⟩) len cap2) := by rw [hwM]; exact (Boxed.alloc (W := W.drew) e1 _).cell
    have m2 : wM.cell? ⟨bb, off + x.1, none⟩ = some (.int .u64 (vs[x.1]?.getD 0 : Nat)) := by rw [hwM]; exact (World.cell?_alloc_old W.drew _ ⟨bb, off + x.1, none⟩ (Nat.ne_of_lt (Nat.lt_of_lt_of_le hbb eB.size))).trans cV
    have m3 : wM.cell? ⟨Bx, 0, none⟩ = some (.int .i64 (sw zs x.1)) := by rw [hwM]; exact (Pair.alloc (W := W.drew) eX _).c0
    have m4 : wM.cell? ⟨Bx, 1, none⟩ = some (.int .i64 (zs[x.1]?.getD 0)) := by rw [hwM]; exact (Pair.alloc (W := W.drew) eX _).c1
    have HwM := hid hwM
    clear hwM
    have HM2 := hid ((HM.out W.drew).mono (R' := fun e w' => e = .returned (.int .u64 ((2 ^ (zs[x.1]?.getD 0).toNat - 1 : Nat) : Int)) ∧ wM = w') (fun e w' ⟨h1, h2⟩ => ⟨h1, HwM.out.trans h2.symm⟩))
    clear HM
    have n4 : wM.cell? ⟨w.heap.size + 3, 0, none⟩ = some (.int .u64 (fwl zs vs pre : Nat)) := by rw [HwM.out]; exact (Boxed.alloc (W := W.drew) e4 _).cell
    have n5 : wM.frozen? ⟨w.heap.size + 3, 0, none⟩ = false := by rw [HwM.out]; exact (Boxed.alloc (W := W.drew) e4 _).frozen
    have n6 : wM.cell? ⟨w.heap.size + 1, 0, none⟩ = some (.int .u64 0) := by rw [HwM.out]; exact (Boxed.alloc (W := W.drew) e2 _).cell
    have n7 : wM.frozen? ⟨w.heap.size + 1, 0, none⟩ = false := by rw [HwM.out]; exact (Boxed.alloc (W := W.drew) e2 _).frozen
    have n8 : wM.cell? ⟨w.heap.size + 2, 0, none⟩ = some (.int .i64 0) := by rw [HwM.out]; exact (Boxed.alloc (W := W.drew) e3 _).cell
    have n9 : wM.frozen? ⟨w.heap.size + 2, 0, none⟩ = false := by rw [HwM.out]; exact (Boxed.alloc (W := W.drew) e3 _).frozen
    have KM := hid (after_mask1 W (.cells #[.int .i64 (sw zs x.1), .int .i64 (zs[x.1]?.getD 0)] 87))
    have BM := hid (after_mask2 w.heap.size W (.cells #[.int .i64 (sw zs x.1), .int .i64 (zs[x.1]?.getD 0)] 87) eB.size)
    have M1 := hid (Boxed.alloc (W := W.drew) e1 (.cells #[.int .i64 (sw zs x.1), .int .i64 (zs[x.1]?.getD 0)] 87))
    have M2 := hid (Boxed.alloc (W := W.drew) e2 (.cells #[.int .i64 (sw zs x.1), .int .i64 (zs[x.1]?.getD 0)] 87))
    have M3 := hid (Boxed.alloc (W := W.drew) e3 (.cells #[.int .i64 (sw zs x.1), .int .i64 (zs[x.1]?.getD 0)] 87))
    have M4 := hid (Boxed.alloc (W := W.drew) e4 (.cells #[.int .i64 (sw zs x.1), .int .i64 (zs[x.1]?.getD 0)] 87))
    rw [← HwM.out] at KM BM M1 M2 M3 M4
    have EB := hid eB
    have HP := hid hp
    gi_wp2
    apply share
    case k =>
      intro key
      gi_region_with_o (refine ⟨trivial, ?_⟩; gi_at_call 59; refine (CallsIn.inRound l (callsIn_wide.2 HM2.out)).mono ?_; rintro e w' ⟨rfl, rfl⟩)
      all_goals exact key.out
    case pf =>
      refine ⟨?_⟩
      clear HM2 c1 cV cX0 cX1 c4 g4 hp eB e1 e2 e3 e4 eX HwM
      by_cases hfv : vs[x.1]?.getD 0 < 2 ^ (zs[x.1]?.getD 0).toNat
      · have hd : decide (2 ^ (zs[x.1]?.getD 0).toNat - 1 < vs[x.1]?.getD 0) = false := by simp; omega
        have HS := hid (shl_lt (vs[x.1]?.getD 0) (sw zs x.1) (zs[x.1]?.getD 0) s1 f1 (by omega) hfv)
        have w1 := or_shl (fwl zs vs pre) (vs[x.1]?.getD 0) (sw zs x.1) HF.out HS.out
        rw [hd]
        have HX := hid (M4.out.set (.int .u64 (fwl zs vs pre ||| (vs[x.1]?.getD 0) <<< (sw zs x.1).toNat : Nat)))
        have HX1 := hid (M1.out.other (by omega) (B' := w.heap.size + 3) (.int .u64 (fwl zs vs pre ||| (vs[x.1]?.getD 0) <<< (sw zs x.1).toNat : Nat)))
        have HX2 := hid (M2.out.other (by omega) (B' := w.heap.size + 3) (.int .u64 (fwl zs vs pre ||| (vs[x.1]?.getD 0) <<< (sw zs x.1).toNat : Nat)))
        have HX3 := hid (M3.out.other (by omega) (B' := w.heap.size + 3) (.int .u64 (fwl zs vs pre ||| (vs[x.1]?.getD 0) <<< (sw zs x.1).toNat : Nat)))
        have HX4 := hid (((KM.out.trans (KeepsOthers.setCell wM ⟨w.heap.size + 3, 0, none⟩ (.int .u64 (fwl zs vs pre ||| (vs[x.1]?.getD 0) <<< (sw zs x.1).toNat : Nat)))).trans (KeepsOthers.drew _)).from wS.heap.size)
        have HX5 := hid ((BM.out.setCell (p := ⟨w.heap.size + 3, 0, none⟩) (by simp) (.int .u64 (fwl zs vs pre ||| (vs[x.1]?.getD 0) <<< (sw zs x.1).toNat : Nat))).drew)
        have HX6 := hid (show ∀ y ∈ pre ++ [x], vfit zs vs y.1 from fun y hy => (List.mem_append.1 hy).elim (HP.out y) (fun h => by rw [List.mem_singleton.1 h]; exact hfv))
        rw [← HSN.out] at HX HX1 HX2 HX3 HX4 HX5
        clear hfv
        gi_wp2
        refine wpIn_region_still_tail 9 hmx (by kernel_rfl) (by kernel_rfl) ?_
        simp only [List.take_succ_cons, List.take_zero, List.drop_succ_cons, List.drop_zero]
        repeat still_step
        refine wpStill_nil ?_
        rw [← HSN.out]
        change wpListIn _ _ _ _ _ _ _ wM.drew
        gi_wp2
        exact ⟨HX4.out, HX5.out, ⟨⟨⟨⟨HX6.out, HX.out⟩, HX1.out⟩, HX2.out⟩, HX3.out⟩, EB.out.trans HX5.out⟩
      · have hd : decide (2 ^ (zs[x.1]?.getD 0).toNat - 1 < vs[x.1]?.getD 0) = true := by
          have := Nat.two_pow_pos (zs[x.1]?.getD 0).toNat
          simp; omega
        rw [hd]
        gi_wp2
        have hB9 := (BM.out.setCell (p := ⟨w.heap.size + 1, 0, none⟩) (by simp) (.int .u64 0)).setCell (p := ⟨w.heap.size + 1 + 1, 0, none⟩) (by show _ ≤ w.heap.size + 1 + 1; omega) (.int .i64 1)
        exact ⟨((KM.out.trans (KeepsOthers.setCell wM _ _)).trans (KeepsOthers.setCell _ _ _)).from _, ⟨⟨⟨rfl, x, by simp, hfv⟩, (M2.out.set (.int .u64 0)).other (by omega) _⟩, (M3.out.other (by omega) _).set _⟩, EB.out.trans hB9⟩
  case done =>
    rintro D ys W hD rfl ⟨⟨⟨⟨⟨hp, e4⟩, e1⟩, e2⟩, e3⟩, eB⟩ hK
    have HP := hid hp
    have HK := hid hK
    have EB := hid eB
    have c4 := e4.cell
    have c2 := e2.cell
    have g2 := e2.frozen
    have c3 := e3.cell
    have g3 := e3.frozen
    have E2 := hid e2
    have E3 := hid e3
    clear hp hK eB e1 e2 e3 e4
    have HF := hid (fwl_firsts zs vs len len (Nat.le_refl _))
    rw [HF.out] at c4
    go_wp2_with fail
    have f1 := (E2.out.set (.int .u64 (fw zs vs len : Nat))).other (B' := w.heap.size + 2) (by omega) (.int .i64 0)
    have f2 := ((E3.out.other (B' := w.heap.size + 1) (by omega) (.int .u64 (fw zs vs len : Nat))).set (.int .i64 0))
    have hK' := (KeepsOthers.setCell (W.setCell ⟨w.heap.size + 1, 0, none⟩ (.int .u64 (fw zs vs len : Nat))) ⟨w.heap.size + 2, 0, none⟩ (.int .i64 0)).same D _ ((KeepsOthers.setCell W ⟨w.heap.size + 1, 0, none⟩ (.int .u64 (fw zs vs len : Nat))).same D _ HK.out rfl) rfl
    have hB9 := (EB.out.setCell (p := ⟨w.heap.size + 1, 0, none⟩) (by simp) (.int .u64 (fw zs vs len : Nat))).setCell (p := ⟨w.heap.size + 2, 0, none⟩) (by simp) (.int .i64 0)
    refine ⟨by simp, .inl ⟨_, _, rfl, run_takeDeferred hK', ?_⟩⟩
    have hc5 := cell_kept f1.cell (grownBy_putObj' _ D (.deferred none)) (fun r e => by cases e; exact ⟨_, hK', rfl⟩)
    have hc6 := cell_kept f2.cell (grownBy_putObj' _ D (.deferred none)) (fun r e => by cases e; exact ⟨_, hK', rfl⟩)
    refine ⟨.tuple #[.int .u64 (fw zs vs len : Nat), .int .i64 0], ?_, .inl ⟨fun j hj => HP.out ⟨j, hj⟩ (mem_firsts len len (Nat.le_refl _) j hj hj), rfl⟩, hB9.trans (belowK_b (w := w) (Nat.le_refl _) _ D _ _ (by omega) hK' rfl rfl)⟩
    simp [results, Try.f45, go_sem, hc5, hc6]
  case stop =>
    rintro D c pre W hD _ ⟨⟨⟨⟨rfl, x, hx, hy⟩, e2⟩, e3⟩, eB⟩ hK
    have HK := hid hK
    have EB := hid eB
    have HY := hid hy
    have E2 := hid e2
    have E3 := hid e3
    clear hK eB hy e2 e3
    refine (wpIn_wide (n := 5)).2 ?_
    go_wp2_with fail
    refine ⟨by simp, .inl ⟨_, _, rfl, run_takeDeferred HK.out, ?_⟩⟩
    have hc5 := cell_kept E2.out.cell (grownBy_putObj' _ D (.deferred none)) (fun r e => by cases e; exact ⟨_, HK.out, rfl⟩)
    have hc6 := cell_kept E3.out.cell (grownBy_putObj' _ D (.deferred none)) (fun r e => by cases e; exact ⟨_, HK.out, rfl⟩)
    refine ⟨.tuple #[.int .u64 0, .int .i64 1], ?_, .inr ⟨fun h => HY.out (h x.1 x.2), rfl⟩, EB.out.trans (belowK_b (w := w) (Nat.le_refl _) _ D _ _ (by omega) HK.out rfl rfl)⟩
    simp [results, Try.f45, go_sem, hc5, hc6]
end Go.Proofs.Ytonjaghkiaaipaa.OldB
