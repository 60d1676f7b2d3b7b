/- Extend of layer 1. No conditions but those of each theorem. -/
import Derived.Test.YtonjaghkiaaipaaOAI
import Derived.RangeFuncCalls
namespace Go.Proofs.Ytonjaghkiaaipaa.OldA
open Go.ChangeShapes Go.WideShapes Go.ChangeAt Go.RowKit Go.Shelf
set_option linter.unusedVariables false
attribute [local go_sem] Oper.semAt_some

/-- the register behind bytes -/
def fdl (r : Nat) (bs : List B8) : Nat := bs.foldl (fun r x => fd r x.1) r
theorem fdl_snoc (r : Nat) (bs : List B8) (x : B8) : fdl r (bs ++ [x]) = fd (fdl r bs) x.1 := by simp [fdl]
theorem fdl_lt (r : Nat) (h : r < 4294967296) (bs : List B8) : fdl r bs < 4294967296 := by
  induction bs generalizing r with
  | nil => exact h
  | cons x l ih => exact ih _ (fd_lt _ _ h x.2)

theorem inS {w w1 w5 wS : World} {s : Nat} {a : Option Addr} {len cap : Nat} (hwS : wS = (w5.alloc (Obj.cells #[Value.int IntKind.u32 (s : Int)] 79)).alloc (Obj.cells #[Value.slice a len cap] 30)) (hb : Below w.heap.size w w5) (hI : InB w1.heap.size w5) (hsz : w5.heap.size = w1.heap.size + 1) :
    wS.cell? ⟨w1.heap.size + 1, 0, none⟩ = some (.int .u32 (s : Int)) ∧ wS.frozen? ⟨w1.heap.size + 1, 0, none⟩ = false ∧ InB w1.heap.size wS ∧ wS.cell? ⟨w1.heap.size + 1 + 1, 0, none⟩ = some (.slice a len cap) ∧ Below w.heap.size w wS ∧ wS.heap.size = w1.heap.size + 3 := by
  have b1 : Below w5.heap.size w5 wS := by rw [hwS]; exact ((Below.refl _ _).alloc (Nat.le_refl _) _).alloc (by simp) _
  have h1 : wS.heap[w5.heap.size]? = some (.cells #[Value.int IntKind.u32 (s : Int)] 79 (0, 0)) := by rw [hwS]; exact heap_alloc2_old _ _ _
  have h2 : wS.heap[w5.heap.size + 1]? = some (.cells #[Value.slice a len cap] 30 (0, 0)) := by rw [hwS]; exact heap_alloc2_new _ _ _
  rw [hsz] at h1 h2
  exact ⟨by rw [cell_of_row _ _ _ _ _ _ h1]; rfl, frozen_of_row _ _ _ _ _ h1, fun x hx => (b1.cell (p := ⟨w1.heap.size, x, none⟩) (by show w1.heap.size < _; omega)).trans (hI x hx), by rw [cell_of_row _ _ _ _ _ _ h2]; rfl, hb.trans (b1.mono hb.size), by rw [hwS]; simp; omega⟩

theorem body_end {w w1 W : World} {r v : Nat} (hBW : Below w.heap.size w W) (hc : W.cell? ⟨w1.heap.size + 1, 0, none⟩ = some (.int .u32 (r : Int))) (hf : W.frozen? ⟨w1.heap.size + 1, 0, none⟩ = false) (hI : InB w1.heap.size W) (h1 : w.heap.size ≤ w1.heap.size) (W' : World) (hW' : W' = (W.setCell ⟨w1.heap.size + 1, 0, none⟩ (.int .u32 (v : Int))).drew := by rfl) :
    KeepsOthers W W' ∧ Below w.heap.size W W' ∧ (W'.cell? ⟨w1.heap.size + 1, 0, none⟩ = some (.int .u32 (v : Int)) ∧ W'.frozen? ⟨w1.heap.size + 1, 0, none⟩ = false ∧ InB w1.heap.size W') ∧ Below w.heap.size w W' := by
  subst hW'
  refine ⟨(KeepsOthers.setCell _ _ _).trans (KeepsOthers.drew _), ((Below.refl _ W).setCell (p := ⟨w1.heap.size + 1, 0, none⟩) (by show _ ≤ w1.heap.size + 1; omega) _).drew, ⟨?_, ?_, ?_⟩, (hBW.setCell (p := ⟨w1.heap.size + 1, 0, none⟩) (by show _ ≤ w1.heap.size + 1; omega) _).drew⟩
  · exact World.cell?_setCell_same' _ _ _ (by rw [hc]; rfl)
  · exact (World.frozen?_setCell _ _ _ _).trans hf
  · intro x hx
    refine Eq.trans ?_ (hI x hx)
    exact World.cell?_of_block (heap_setCell_other _ _ _ _ (by show w1.heap.size ≠ w1.heap.size + 1; omega))

set_option maxRecDepth 100000 in
set_option maxHeartbeats 1000000 in
theorem extend_any (sum : Nat) (hsum : sum < 4294967296) (a : Option Addr) (len cap : Nat) (ws : List Nat) (hreach : len * 8 ≤ 140737488351232) (w : World) (hI : Wo w.heap.size w a len ws) :
    Calls Try.prog 63 #[.int .u32 (sum : Int), .slice a len cap] w fun e w' => e = .returned (.int .u32 (nt (fdl (nt sum) (upto (bt8 ws) (8 * len))) : Nat)) ∧ Below w.heap.size w w' := by
  have hz := zero45
  have HI := hid hI
  clear hI
  refine (callsIn_wide (n := 5)).1 (callsIn_of_wp_marks Try.func63 rfl trivial ?_ rfl)
  simp only [Try.ntmps63, List.size_toArray, List.length_cons, List.length_nil, Nat.reduceAdd, Nat.reduceSub, Array.replicate_succ, Array.replicate_zero, List.push_toArray, List.append_toArray, List.nil_append, List.cons_append]
  refine wpIn_wide.2 ?_
  go_wp2_with (first | (go_at_call 67; refine (table_any _).mono ?_; rintro e w1 ⟨cs, rfl, hV, hb1⟩; have HV := hid hV; clear hV; have hi := hid (show (Try.prog.info? 94).map (·.size) = some cs.size by rw [HV.out.1]; kernel_rfl); have h1c := hid (HV.out.one)) | (refine wpList_store_row rfl 94 _ _ rfl _ cs rfl rfl 94 Z256 (heap_alloc_new _ _) hi.out (by rw [HV.out.1]; rfl) h1c.out ?_))
  clear hz
  have hI5 := hid (inB_new w1 cs HV.out)
  have hb5 := hid (below_new w w1 cs hb1)
  have hsz : ((w1.alloc (Obj.cells Z256 94)).setRow w1.heap.size cs).heap.size = w1.heap.size + 1 := by simp
  have HN := nt_eq sum hsum
  have HNL := nt_lt sum hsum
  rw [HN]
  generalize hw5 : (w1.alloc (Obj.cells Z256 94)).setRow w1.heap.size cs = w5 at hI5 hb5 hsz ⊢
  clear hw5
  refine ((callsIn_wide (n := 4)).1 (bytesOf_in Fence.wide 4 trivial rfl a len cap _)).mono ?_
  rintro e w' ⟨rfl, rfl⟩
  go_wp2_with fail
  obtain ⟨wS, hwS⟩ : ∃ wS, wS = (w5.alloc (Obj.cells #[Value.int IntKind.u32 ↑(nt sum)] 79)).alloc (Obj.cells #[Value.slice a len cap] 30) := ⟨_, rfl⟩
  have hI6 := hid (inS hwS hb5.out hI5.out hsz)
  rw [← hwS]
  obtain ⟨i1, i2, i3, i4, i5, i6⟩ := hI6.out
  have i7 := hb1.size
  refine (wpIn_wide (n := 5)).1 ?_
  refine wpIn_rangeFunc_ownF (F := Fence.wide) (n := 5) rfl (by omega) (gf := 72) (lb := #[.pointer (some ⟨w1.heap.size + 1 + 1, 0, none⟩)]) rfl trivial (enters_of Try.func72 (by kernel_rfl) rfl)
    (bytesOf_stops Fence.wide 4 trivial rfl (by omega) (w1.heap.size + 1 + 1) w.heap.size a len cap ws hreach wS (by omega) i5.size i4 (HI.out.below i5)) belowK_t (belowK_b i5.size) (Below.refl _ _) (fun _ => rfl)
    (fun pre W => (W.cell? ⟨w1.heap.size + 1, 0, none⟩ = some (.int .u32 (fdl (nt sum) pre : Nat)) ∧ W.frozen? ⟨w1.heap.size + 1, 0, none⟩ = false ∧ InB w1.heap.size W) ∧ Below w.heap.size w W)
    (fun _ _ _ => False)
    (OwnFrom.and (Own.from (fun s A B row hs hg hr => ⟨cell_kept hs.1 hg hr, (frozen_kept hs.1 hg hr).trans hs.2.1, fun x hx => cell_kept (hs.2.2 x hx) hg hr⟩) _) (ownFrom_below (Nat.le_refl _) i5.size))
    (fun _ _ _ _ _ hs _ _ => hs)
    ⟨⟨i1, i2, i3⟩, i5⟩
    (fun x => { tmps := #[.int .u32 ↑sum, .slice a len cap, undef, undef, .int .u32 0, .pointer (some ⟨w1.heap.size, 0, none⟩), .pointer (some ⟨w1.heap.size + 1, 0, none⟩), .int .u8 (x.1 : Int), .agg cs, .int .u32 ↑sum, .int .u32 ↑(nt sum), .slice a len cap, .func (.func 72) #[] #[.pointer (some ⟨w1.heap.size + 1 + 1, 0, none⟩)], .int .u8 (x.1 : Int), undef, undef, undef, undef, undef, undef, undef, undef, undef, undef, undef], defers := [] }) ?assign ?body ?done ?stop
  case assign =>
    intro l x W K hK
    gi_wp2
    exact hK
  case body =>
    rintro l pre x W ⟨⟨hc, hf, hB⟩, hBW⟩ _
    have hr := fdl_lt (nt sum) HNL pre
    have hsn := hid (fdl_snoc (nt sum) pre x)
    generalize fdl (nt sum) pre = r at hc hr hsn
    have hx2 := x.2
    have he := idx_eq r x.1 hr hx2
    have hi := idx_lt r x.1 hx2
    have ht := hB _ hi
    have hfd := hid (fd_eq r x.1 hr hx2)
    generalize hcc : x.1 = c at *
    generalize hix : (r % 256) ^^^ c = y at he hi ht hfd
    clear hix
    have hi2 : (y : Int) < 256 := by omega
    have hi3 : (0 : Int) ≤ y := by omega
    have hBB := hid hB
    clear hB
    have hwr : IntKind.u8.wrap (r : Int) = (r : Int) % 256 := by simp [IntKind.wrap, IntKind.bits, IntKind.signed]
    have hmx : Try.prog.follows .mixedOrders = true := by kernel_rfl
    gi_wp2
    gi_region_with_o (fail)
    all_goals
      rw [hfd.out, ← hsn.out]
      gi_wp2
      exact body_end hBW hc hf hBB.out i7 _
  case done =>
    rintro D ys W hD rfl ⟨⟨hc, hf, _⟩, hB⟩ hK
    have HK := hid hK
    clear hK
    have hr := fdl_lt (nt sum) HNL (upto (bt8 ws) (8 * len))
    obtain ⟨r, hrr⟩ : ∃ r, r = fdl (nt sum) (upto (bt8 ws) (8 * len)) := ⟨_, rfl⟩
    rw [← hrr] at hc hr
    have HRR := hid hrr
    clear hrr
    have hn := nt_eq r hr
    go_wp2_with fail
    refine ⟨by simp, .inl ⟨_, _, rfl, run_takeDeferred HK.out, ?_⟩⟩
    exact ⟨_, results_tmp rfl _ _ _, by simp; rw [HRR.out], hB.trans (belowK_b (w := w) (Nat.le_refl _) W D _ _ (by have := i5.size; omega) HK.out rfl rfl)⟩
  case stop =>
    rintro D c pre W _ _ h _
    exact h.elim
end Go.Proofs.Ytonjaghkiaaipaa.OldA
