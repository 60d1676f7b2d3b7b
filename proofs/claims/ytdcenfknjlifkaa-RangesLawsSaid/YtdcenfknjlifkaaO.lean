/- Same of the reference of layer 3, and the sanity check. No conditions but those of each theorem. -/
import Derived.Test.YtdcenfknjlifkaaN
import Derived.Laws.StructEq
namespace Go.Proofs.Ytdcenfknjlifkaa
open Go.ChangeShapes Go.WideShapes Go.ChangeAt Go.RowKit
set_option linter.unusedVariables false
set_option linter.unusedSimpArgs false

set_option maxHeartbeats 1000000 in
theorem same_any (a b : Option Addr) (len cap cap2 : Nat) (rs : List Rn) (hbig : len ≤ 1000000) (w : World) (hR : Rg w.heap.size w a len rs) (hR2 : Rg w.heap.size w b len rs) :
    Calls Try.prog 22 #[.slice a len cap, .slice b len cap2] w fun e w' => e = .returned (.bool true) ∧ Below w.heap.size w w' := by
  have HR := hid hR; have HR2 := hid hR2
  clear hR hR2
  go_enter Try.func22, Try.ntmps22
  go_wp2_with fail
  go_loopw [5] (fun iv wr => ∃ k m : Nat, k ≤ len ∧ iv = .int .i64 (k : Int) ∧ wr = w.drewN m) (fun iv _ => len - (intOf iv).toNat)
  case atStart => exact ⟨0, 0, by omega, rfl, rfl⟩
  case round =>
    obtain ⟨k, m, hk, rfl, rfl⟩ := hrel
    by_cases hlt : k < len
    · have h3 : (k : Int) < (len : Int) := by omega
      obtain ⟨g, off, rfl, hgl, hall⟩ := HR.out.2.2.resolve_left (by omega)
      obtain ⟨g2, off2, rfl, hgl2, hall2⟩ := HR2.out.2.2.resolve_left (by omega)
      obtain ⟨c0, c1⟩ := hall k hlt
      obtain ⟨d0, d1⟩ := hall2 k hlt
      obtain ⟨⟨s, l⟩, hr⟩ : ∃ r : Rn, r = rs[k]?.getD (0, 0) := ⟨_, rfl⟩
      rw [← hr] at c0 c1 d0 d1
      simp only at c0 c1 d0 d1
      clear hall hall2 hr
      go_wp2_with fail
      go_quiet (fail)
      go_wp2_with fail
      go_roundw
      case rel => exact ⟨k + 1, m + nq, by omega, by go_num, rfl⟩
      case measure => simp [intOf]; omega
    · obtain rfl : k = len := by omega
      have h3 : ¬ (k : Int) < (k : Int) := by omega
      go_wp2_with fail
      go_ret
      exact ⟨rfl, ⟨rfl, rfl, rfl, Nat.le_refl _, fun _ _ => rfl⟩⟩

theorem rg_one {W : World} {B cap : Nat} {x y : Int} (h : W.heap[B]? = some (.cells #[.int .i64 x, .int .i64 y] 42 (0, 0))) (hx : I64 x) (hy : I64 y) : Rg W.heap.size W (some ⟨B, 0, none⟩) 1 [(x, y)] := by
  refine ⟨rfl, fun r hr => by obtain rfl := List.mem_singleton.1 hr; exact ⟨hx, hy⟩, .inr ⟨B, 0, rfl, (Array.getElem?_eq_some_iff.1 h).1, fun j hj => ?_⟩⟩
  obtain rfl : j = 0 := by omega
  constructor <;> simp [World.cell?, h]
theorem rg_two {W : World} {B cap : Nat} {x y u v : Int} (h : W.heap[B]? = some (.cells #[.int .i64 x, .int .i64 y, .int .i64 u, .int .i64 v] 42 (0, 0))) (hx : I64 x) (hy : I64 y) (hu : I64 u) (hv : I64 v) : Rg W.heap.size W (some ⟨B, 0, none⟩) 2 [(x, y), (u, v)] := by
  refine ⟨rfl, fun r hr => ?_, .inr ⟨B, 0, rfl, (Array.getElem?_eq_some_iff.1 h).1, fun j hj => ?_⟩⟩
  · simp at hr
    rcases hr with rfl | rfl
    · exact ⟨hx, hy⟩
    · exact ⟨hu, hv⟩
  · match j, hj with
    | 0, _ => constructor <;> simp [World.cell?, h]
    | 1, _ => constructor <;> simp [World.cell?, h]
theorem nf_aw : NF [(0, 2), (5, 5)] := by
  refine ⟨fun r hr => ?_, ?_⟩
  · simp at hr
    rcases hr with rfl | rfl <;> simp
  · simp
theorem awake_ok (w : World) : Calls Try.prog 10 #[] w fun e w' => e = .returned (.bool true) ∧ Below w.heap.size w w' := by
  go_enter Try.func10, Try.ntmps10
  go_wp2_with fail
  have hm := minus_any (some ⟨w.heap.size, 0, none⟩) (some ⟨w.heap.size + 1, 0, none⟩) 1 1 1 1 [(0, 10)] [(2, 3)] (by omega) (by omega) (by decide) (by decide) ((w.alloc (.cells #[.int .i64 0, .int .i64 10] 42)).alloc (.cells #[.int .i64 2, .int .i64 3] 42))
    (rg_one (cap := 1) ((Below.heap_alloc _ _ _ (by simp)).trans (heap_alloc_new _ _)) (by unfold I64; omega) (by unfold I64; omega))
    (rg_one (cap := 1) (by have := heap_alloc_new (w.alloc (.cells #[.int .i64 0, .int .i64 10] 42)) (.cells #[.int .i64 2, .int .i64 3] 42); rwa [World.size_alloc] at this) (by unfold I64; omega) (by unfold I64; omega))
  have hB0 := hid (((Below.refl w.heap.size w).alloc (Nat.le_refl _) (.cells #[.int .i64 0, .int .i64 10] 42)).alloc (by simp) (.cells #[.int .i64 2, .int .i64 3] 42))
  generalize (w.alloc (.cells #[.int .i64 0, .int .i64 10] 42)).alloc (.cells #[.int .i64 2, .int .i64 3] 42) = wA at *
  refine hm.mono ?_
  rintro e w1 ⟨a', n', c', rfl, out, hn, hnf, ⟨_, hmem⟩, H⟩
  have he : out = [(0, 2), (5, 5)] := nf_unique _ _ hnf nf_aw fun n => by
    rw [hmem]
    simp only [mem_cons, mem_nil, or_false]
    omega
  subst he
  simp only [List.length_cons, List.length_nil, Nat.zero_add, Nat.reduceAdd] at hn
  subst hn
  have HB1 := hid (bt hB0.out H.out.2)
  have HB2 := hid ((Below.refl w1.heap.size w1).alloc (Nat.le_refl _) (.cells #[.int .i64 0, .int .i64 2, .int .i64 5, .int .i64 5] 42))
  have HS := hid (same_any a' (some ⟨w1.heap.size, 0, none⟩) 2 c' 2 [(0, 2), (5, 5)] (by omega) (w1.alloc (.cells #[.int .i64 0, .int .i64 2, .int .i64 5, .int .i64 5] 42)) (H.out.1.kept HB2.out) (rg_two (cap := 2) (heap_alloc_new _ _) (by unfold I64; omega) (by unfold I64; omega) (by unfold I64; omega) (by unfold I64; omega)))
  clear hm hnf hmem H
  go_wp2_with fail
  refine HS.out.mono ?_
  rintro e w2 ⟨rfl, hb⟩
  have HB3 := hid (bt (bt HB1.out HB2.out) hb)
  clear hb
  go_wp2_with fail
  go_ret
  exact ⟨rfl, HB3.out⟩
end Go.Proofs.Ytdcenfknjlifkaa
