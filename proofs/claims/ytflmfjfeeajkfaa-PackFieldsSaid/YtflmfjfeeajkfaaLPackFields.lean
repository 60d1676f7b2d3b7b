/- For all lists of widths, of values, all w and all lists l of numbers: PackFields returns true and leaves its arguments as they were. No condition. -/
import Derived.Test.YtflmfjfeeajkfaaRows
import Derived.WalkKit
import Derived.ProofKit
import Derived.OpenShut
import Derived.ShutString
import Derived.ChangeOld
import Derived.Below
import Derived.Carry
import Derived.Test.YtflmfjfeeajkfaaA
import Derived.Test.YtflmfjfeeajkfaaE
import Derived.Test.YtflmfjfeeajkfaaND
import Derived.Test.YtflmfjfeeajkfaaQ
import Derived.Test.YtflmfjfeeajkfaaPV
import Derived.Test.YtflmfjfeeajkfaaEE
import Derived.Laws.Closers25b
namespace Go.Proofs.Ytflmfjfeeajkfaa.packFields
open Go.ChangeShapes Go.WideShapes Go.ChangeAt Go.RowKit
open Go.ChangeMaps (open_string shut_string)
set_option linter.unusedVariables false

theorem own : ownKnob Try.prog.godebug = none := by kernel_rfl
theorem laidOut : laidOutB Try.prog = true := by kernel_rfl

set_option linter.unusedSimpArgs false
attribute [local go_sem] Oper.semAt_some putAll
theorem Try.info3 : (Try.prog.info? 3).map (fun i => (i.zero, i.size, i.bytes)) = some (some (.int .i64 0), 1, 8) := by kernel_rfl
theorem Try.info32 : (Try.prog.info? 32).map (fun i => (i.zero, i.size, i.bytes)) = some (some (.int .u64 0), 1, 8) := by kernel_rfl
theorem own_grown' {W W' : World} {base e size n : Nat} {v : Value} {xs : List Value} {r : Option Nat} (h : W.ownsRow base e size v n xs) (hg : W.grownBy W' r) (hB : ∀ k, v.ownBlock = some k → r ≠ some k) : W'.ownsRow base e size v n xs := by
  refine ⟨h.1, h.2.imp id fun ⟨g, cap, cur, hv, hb, hh, rest⟩ => ⟨g, cap, cur, hv, hb, ?_, rest⟩⟩
  rw [hg.block g (Array.getElem?_eq_some_iff.1 hh).1 (fun e => hB g (by rw [hv]; rfl) e.symm)]; exact hh

theorem below_drewN (k : Nat) (w : World) (n : Nat) : Below k w (w.drewN n) := ⟨rfl, rfl, rfl, Nat.le_refl _, fun _ _ => rfl⟩
theorem sames (w0 : World) (a b : Option Addr) (len cap cap' : Nat) (ws : List Nat) (hl : len ≤ 9223372036854775807) (hA : Wd w0.heap.size w0 a len cap ws) (hB : Wd w0.heap.size w0 b len cap' ws) :
    Calls Try.prog 12 #[.slice a len cap, .slice b len cap'] w0 fun e w' => e = .returned (.bool true) ∧ Below w0.heap.size w0 w' :=
  (same_yes a b len cap cap' w0.heap.size ws w0 hl hA hB).mono fun e w' ⟨he, n, hw⟩ => ⟨he, by rw [hw]; exact below_drewN _ _ _⟩
theorem wi_kept {W W' : World} {a : Option Addr} {len : Nat} {zs : List Int} (h : Wi W.heap.size W a len zs) (hb : Below W.heap.size W W') : Wi W'.heap.size W' a len zs := by
  rcases h with h | ⟨b, off, e, h1, h2⟩
  · exact .inl h
  · exact .inr ⟨b, off, e, Nat.lt_of_lt_of_le h1 hb.size, fun j hj => (hb.cell (p := ⟨b, off + j, none⟩) h1).trans (h2 j hj)⟩
theorem va_kept {W W' : World} {a : Option Addr} {len : Nat} {zs : List Nat} (h : Va W.heap.size W a len zs) (hb : Below W.heap.size W W') : Va W'.heap.size W' a len zs := by
  obtain ⟨h0, h | ⟨b, off, e, h1, h2⟩⟩ := h
  · exact ⟨h0, .inl h⟩
  · exact ⟨h0, .inr ⟨b, off, e, Nat.lt_of_lt_of_le h1 hb.size, fun j hj => (hb.cell (p := ⟨b, off + j, none⟩) h1).trans (h2 j hj)⟩⟩
/-- widths and values on the way -/
structure Two (w wr : World) (av bv : Value) (ks : List Int) (us : List Nat) : Prop where
  ra : wr.ownsRow (w.heap.size + 1) 3 1 av ks.length (vi ks)
  rb : wr.ownsRow (w.heap.size + 1) 32 1 bv ks.length (vs us)
  u64 : ∀ j, j < us.length → us[j]?.getD 0 < 18446744073709551616
  apart : ∀ k, av.ownBlock = some k → bv.ownBlock ≠ some k
  src : SrcOK w.heap.size w.heap.size wr
  below : Below w.heap.size w wr
  size : w.heap.size < wr.heap.size

theorem two_src {w wr w' : World} {av bv : Value} {ks : List Int} {us : List Nat} (h : Two w wr av bv ks us) (hg : wr.grownBy w' (some w.heap.size)) (hs : SrcOK w.heap.size w.heap.size w') : Two w w' av bv ks us :=
  ⟨own_grown' h.ra hg (fun k hk e => by have := own_base h.ra k hk; have := Option.some.inj e; omega), own_grown' h.rb hg (fun k hk e => by have := own_base h.rb k hk; have := Option.some.inj e; omega), h.u64, h.apart, hs, h.below.grown hg h.below.size (fun k e => by cases e; exact Nat.le_refl _), Nat.lt_of_lt_of_le h.size hg.size⟩

theorem own_lt {w : World} {base e size n : Nat} {v : Value} {xs : List Value} (h : w.ownsRow base e size v n xs) : ∀ k, v.ownBlock = some k → k < w.heap.size := by
  intro k hk
  rcases h.2 with ⟨hv, _⟩ | ⟨g, cap, cur, hv, hb, hh, _⟩
  · rw [hv] at hk; simp [Value.ownBlock] at hk
  · rw [hv] at hk
    have : g = k := by simpa [Value.ownBlock] using hk
    subst this
    exact (Array.getElem?_eq_some_iff.1 hh).1
theorem u64_app {us : List Nat} {c : Nat} (h : ∀ j, j < us.length → us[j]?.getD 0 < 18446744073709551616) (hc : c < 18446744073709551616) : ∀ j, j < (us ++ [c]).length → (us ++ [c])[j]?.getD 0 < 18446744073709551616 := by
  intro j hj
  rw [List.length_append, List.length_singleton] at hj
  by_cases e : j < us.length
  · rw [List.getElem?_append_left e]; exact h j e
  · rw [List.getElem?_append_right (by omega), show j - us.length = 0 by omega]; exact hc

set_option maxRecDepth 100000 in
set_option maxHeartbeats 4000000 in
theorem walk (a0 : Option Addr) (len0 cap0 : Nat) (z0 : List Int) (a1 : Option Addr) (len1 cap1 : Nat) (z1 : List Int) (a2 : Int) (a3 : Option Addr) (len3 cap3 : Nat) (z3 : List Int) (w : World) (w0 : IsRow .i64 w a0 len0 cap0 z0) (w1 : IsRow .u64 w a1 len1 cap1 z1) (w2 : (Lit.int .u64 a2).wf = true) (w3 : IsRow .i64 w a3 len3 cap3 z3) :
    Calls Try.prog 5 #[.slice a0 len0 cap0, .slice a1 len1 cap1, .int .u64 a2, .slice a3 len3 cap3] w fun e w' => e = .returned (.bool true) ∧ Below w.heap.size w w' := by
  obtain ⟨x, rfl, hx⟩ : ∃ a : Nat, a2 = a ∧ a < 18446744073709551616 := by simp [Lit.wf, IntKind.min, IntKind.max, IntKind.signed, IntKind.bits] at w2; exact ⟨a2.toNat, by omega, by omega⟩
  obtain ⟨hn, hl, hc⟩ := nums_of w3
  unfold maxLen at hc
  obtain ⟨i0, hi, hz0, hz1, hz2⟩ := info_parts Try.info3
  have HI := hid hi; have HZ0 := hid hz0; have HZ1 := hid hz1; have HZ2 := hid hz2
  obtain ⟨j0, hj, hy0, hy1, hy2⟩ := info_parts Try.info32
  have HJ := hid hj; have HY0 := hid hy0; have HY1 := hid hy1; have HY2 := hid hy2
  have HX := hid hx
  have HA := hid w0
  have HBR := hid w1
  have HN := hid (new_ok a3 len3 cap3 w hn hl hc)
  clear hi hz0 hz1 hz2 hj hy0 hy1 hy2 hx w0 w1 w2 w3 hn hl hc
  by_cases g0 : 80 < len0
  · have g0' : (80 : Int) < (len0 : Int) := by omega
    go_enter Try.func5, Try.ntmps5
    go_wp2_with fail
    refine (awake_ok _).mono ?_
    rintro e w5 ⟨rfl, hb5⟩
    go_wp2_with fail
    go_ret
    exact ⟨rfl, hb5⟩
  by_cases g1 : 80 < len1
  · have g0' : ¬ (80 : Int) < (len0 : Int) := by omega
    have g1' : (80 : Int) < (len1 : Int) := by omega
    go_enter Try.func5, Try.ntmps5
    go_wp2_with fail
    refine (awake_ok _).mono ?_
    rintro e w5 ⟨rfl, hb5⟩
    go_wp2_with fail
    go_ret
    exact ⟨rfl, hb5⟩
  have g0' : ¬ (80 : Int) < (len0 : Int) := by omega
  have g1' : ¬ (80 : Int) < (len1 : Int) := by omega
  go_enter Try.func5, Try.ntmps5
  go_wp2_with fail
  refine HN.out.mono ?_
  rintro e w1 ⟨rfl, HS, hb1⟩
  have hs1 : w.heap.size < w1.heap.size := HS.out.lt
  go_wp2_with fail
  refine (n_ok w.heap.size w.heap.size (Nat.le_refl _) 6 (by omega) (by omega) w1 HS.out).mono ?_
  rintro e w2 ⟨i, i1, i6, rfl, H2⟩
  have H0 := hid (show Two w w1 (.slice none 0 0) (.slice none 0 0) [] [] from ⟨World.ownsRow_nil _ _ _ _, World.ownsRow_nil _ _ _ _, fun j hj => by simp at hj, fun k hk => by simp [Value.ownBlock] at hk, HS.out, hb1, hs1⟩)
  have HWay := hid (two_src H0.out H2.out.1 H2.out.2)
  clear HN HS hb1 H2 H0 hs1
  go_wp2_with fail
  go_loopw [10, 11, 12] (fun av bv iv wr => ∃ (i : Int) (ks : List Int) (us : List Nat), 0 ≤ i ∧ i + ks.length ≤ 5 ∧ iv = .int .i64 i ∧ us.length = ks.length ∧ Hid (Two w wr av bv ks us)) (fun _ _ iv _ => (intOf iv).toNat)
  case atStart => exact ⟨i, [], [], by omega, by simp; omega, rfl, rfl, HWay⟩
  case round =>
    obtain ⟨i, ks, us, i0', i7, rfl, hlen, HWay⟩ := hrel
    by_cases hpos : 0 < i
    · go_wp2_with fail
      refine (range_ok w.heap.size w.heap.size (Nat.le_refl _) 1 20 (by omega) (by omega) (by omega) _ HWay.out.src).mono ?_
      rintro e w3 ⟨z, z1, z2, rfl, H3⟩
      have HW3 := hid (two_src HWay.out H3.out.1 H3.out.2)
      clear HWay H3
      obtain ⟨va, vc, rfl⟩ := own_slice HW3.out.ra
      obtain ⟨vb, vd, rfl⟩ := own_slice HW3.out.rb
      go_wp2_with fail
      have hmx : Try.prog.follows .mixedOrders = true := by kernel_rfl
      obtain ⟨zn, rfl⟩ := Int.eq_ofNat_of_zero_le (show 0 ≤ z by omega)
      have hzn : zn < 64 := by omega
      have HRA := hid HW3.out.ra
      have HRB := hid HW3.out.rb
      have hlen5 : ks.length ≤ 5 := by omega
      -- the worlds of the plan
      obtain ⟨W1, hW1⟩ : ∃ W1, W1 = w3.drew.alloc (.cells #[.int .i64 (zn : Int)] 3) := ⟨_, rfl⟩
      have r1 : W1.ownsRow (w.heap.size + 1) 3 1 (.slice va ks.length vc) ks.length (vi ks) := by rw [hW1]; exact HRA.out.drew.alloc _
      have s1 : W1.ownsRow (w.heap.size + 1) 32 1 (.slice vb ks.length vd) ks.length (vs us) := by rw [hW1]; exact HRB.out.drew.alloc _
      have hz1' : W1.heap.size = w3.heap.size + 1 := by rw [hW1]; simp
      have hw3 := HW3.out.size
      have n1 := World.news_of_block (w := W1) (cs := #[.int .i64 (zn : Int)]) (t := 3) (fr := (0, 0)) (B := w3.heap.size) (by rw [hW1]; exact heap_alloc_new _ _)
      have g1 : w3.grownBy W1 none := by rw [hW1]; exact grown_trans (grown_drew _ _) (World.grownBy_alloc _ _ _)
      obtain ⟨ga, ca, W2, hrun2, r2, g2, hap2, hlt2⟩ := run_append_lies (P := Try.prog) (w := W1) 36 36 (w.heap.size + 1) 3 i0 (.int .i64 0) 1 8 Try.underlying36 HI.out HZ0.out HZ1.out HZ2.out rfl (by decide) (.slice va ks.length vc) ks.length (vi ks) r1 ⟨w3.heap.size, 0, none⟩ 1 1 [.int .i64 (zn : Int)] rfl n1 (by simp [Value.oneCell']) (by omega) (by unfold maxLen; omega) (by omega) (by omega) _ rfl
      have hapart := HW3.out.apart
      have s2 : W2.ownsRow (w.heap.size + 1) 32 1 (.slice vb ks.length vd) ks.length (vs us) := own_grown' s1 g2 (fun k hk e => hapart k e hk)
      have src1 : SrcOK w.heap.size w.heap.size W1 := HW3.out.src.kept g1 (by simp) HW3.out.below.size (fun k e => by cases e)
      have b1 : Below w.heap.size w W1 := HW3.out.below.grown g1 HW3.out.below.size (fun k e => by cases e)
      have src2 : SrcOK w.heap.size w.heap.size W2 := src1.kept g2 (fun e => by have := own_base r1 _ e.symm; omega) (by omega) (fun k e => by have := own_base r1 k e; omega)
      have b2 : Below w.heap.size w W2 := b1.grown g2 (by omega) (fun k e => by have := own_base r1 k e; omega)
      obtain ⟨r, W3, hr1, hr2, H3, C3⟩ := raw_det w.heap.size w.heap.size (Nat.le_refl _) W2 src2
      obtain ⟨q, W4, hq1, hq2, H4, C4⟩ := n_det w.heap.size w.heap.size (Nat.le_refl _) 20 (by omega) (by omega) W3 H3.out.2
      obtain ⟨c56, e56⟩ : ∃ c, IntKind.u64.wrap r = c := ⟨_, rfl⟩
      obtain ⟨c60, e60⟩ : ∃ c, bits .and .u64 c56 ((2 : Int) ^ zn - 1) = c := ⟨_, rfl⟩
      obtain ⟨c63, e63⟩ : ∃ c, q.tdiv 19 = c := ⟨_, rfl⟩
      obtain ⟨c66, e66⟩ : ∃ c, IntKind.u64.wrap (c63 * 2 ^ zn) = c := ⟨_, rfl⟩
      obtain ⟨c67, e67⟩ : ∃ c : Nat, bits .or .u64 c60 c66 = (c : Int) := ⟨(bits .or .u64 c60 c66).toNat, by have := bits_lo_u64 .or c60 c66; omega⟩
      have u67 : c67 < 18446744073709551616 := by have := bits_hi_u64 .or c60 c66; omega
      have h63 : 0 ≤ c63 ∧ c63 ≤ 1 := by
        rw [Int.tdiv_eq_ediv_of_nonneg hq1] at e63
        omega
      obtain ⟨h63a, h63b⟩ := h63
      obtain ⟨W5, hW5⟩ : ∃ W5, W5 = W4.alloc (.cells #[.int .u64 (c67 : Nat)] 32) := ⟨_, rfl⟩
      have s4 : W4.ownsRow (w.heap.size + 1) 32 1 (.slice vb ks.length vd) ks.length (vs us) := own_grown' (own_grown' s2 H3.out.1 (fun k hk e => by have := own_base s2 k hk; have := Option.some.inj e; omega)) H4.out.1 (fun k hk e => by have := own_base s2 k hk; have := Option.some.inj e; omega)
      have r4 := own_grown' (own_grown' r2 H3.out.1 (fun k hk e => by have := own_base r2 k hk; have := Option.some.inj e; omega)) H4.out.1 (fun k hk e => by have := own_base r2 k hk; have := Option.some.inj e; omega)
      have sz24 : W2.heap.size ≤ W4.heap.size := Nat.le_trans H3.out.1.size H4.out.1.size
      have sz12 : W1.heap.size ≤ W2.heap.size := g2.size
      have s5 : W5.ownsRow (w.heap.size + 1) 32 1 (.slice vb ks.length vd) ks.length (vs us) := by rw [hW5]; exact s4.alloc _
      have r5 := r4.alloc (.cells #[.int .u64 (c67 : Nat)] 32)
      rw [← hW5] at r5
      have n5 := World.news_of_block (w := W5) (cs := #[.int .u64 (c67 : Nat)]) (t := 32) (fr := (0, 0)) (B := W4.heap.size) (by rw [hW5]; exact heap_alloc_new _ _)
      have sz45 : W5.heap.size = W4.heap.size + 1 := by rw [hW5]; simp
      obtain ⟨gb, cb, W6, hrun6, s6, g6, hap6, hlt6⟩ := run_append_lies (P := Try.prog) (w := W5) 23 23 (w.heap.size + 1) 32 j0 (.int .u64 0) 1 8 Try.underlying23 HJ.out HY0.out HY1.out HY2.out rfl (by decide) (.slice vb ks.length vd) ks.length (vs us) s5 ⟨W4.heap.size, 0, none⟩ 1 1 [.int .u64 (c67 : Nat)] rfl n5 (by simp [Value.oneCell']) (by omega) (by unfold maxLen; omega) (by omega) (by omega) _ rfl
      have hga : ga < W4.heap.size := Nat.lt_of_lt_of_le hlt2 sz24
      have apart5 : ∀ k, (Value.slice (some ⟨ga, 0, none⟩) (ks.length + 1) ca).ownBlock = some k → (Value.slice vb ks.length vd).ownBlock ≠ some k := fun k hk e => by
        have : ga = k := by simpa [Value.ownBlock] using hk
        subst this
        rcases hap2 with h | h
        · exact hapart _ h e
        · have := own_lt s1 _ e
          omega
      have apart6 : ∀ k, (Value.slice (some ⟨ga, 0, none⟩) (ks.length + 1) ca).ownBlock = some k → (Value.slice (some ⟨gb, 0, none⟩) (ks.length + 1) cb).ownBlock ≠ some k := fun k hk e => by
        have h1 : ga = k := by simpa [Value.ownBlock] using hk
        have h2 : gb = k := by simpa [Value.ownBlock] using e
        subst h1
        subst h2
        rcases hap6 with h | h
        · exact apart5 _ hk h
        · omega
      have r6 := own_grown' r5 g6 (fun k hk e => apart5 k hk e)
      have g5 : W4.grownBy W5 none := by rw [hW5]; exact World.grownBy_alloc _ _ _
      have b4 : Below w.heap.size w W4 := (b2.grown H3.out.1 (by omega) (fun k e => by cases e; exact Nat.le_refl _)).grown H4.out.1 (by have := H3.out.1.size; omega) (fun k e => by cases e; exact Nat.le_refl _)
      have src6 : SrcOK w.heap.size w.heap.size W6 := (H4.out.2.kept g5 (by simp) (by omega) (fun k e => by cases e)).kept g6 (fun e => by have := own_base s5 _ e.symm; omega) (by omega) (fun k e => by have := own_base s5 k e; omega)
      have b6 : Below w.heap.size w W6 := (b4.grown g5 (by omega) (fun k e => by cases e)).grown g6 (by omega) (fun k e => by have := own_base s5 k e; omega)
      have sz6 : w.heap.size < W6.heap.size := by have := g6.size; omega
      have HEND := hid (show Two w W6 (.slice (some ⟨ga, 0, none⟩) (ks.length + 1) ca) (.slice (some ⟨gb, 0, none⟩) (ks.length + 1) cb) (ks ++ [(zn : Int)]) (us ++ [c67]) from ⟨by simpa [vi] using r6, by simpa [vs] using s6, fun j hj => u64_app HW3.out.u64 u67 j hj, apart6, src6, b6, sz6⟩)
      have k1 := hid e56; have k2 := hid e60; have k3 := hid e63; have k4 := hid e66; have k5 := hid e67
      have k6 := hid (shl1 zn hzn)
      rw [pw] at k6
      have k7 := hid (show IntKind.u64.wrap ((2 : Int) ^ zn - 1) = (2 : Int) ^ zn - 1 by
        have h1 := pow_lt hzn
        have h2 := Nat.two_pow_pos zn
        rw [← pw]
        generalize 2 ^ zn = y at h1 h2
        simp [IntKind.wrap, IntKind.bits, IntKind.signed]; omega)
      have HR2 := hid hrun2; have HR6 := hid hrun6; have HW1 := hid hW1; have HW5 := hid hW5
      have k8 := hid (show IntKind.i64.wrap c63 = c63 from IntWalk.i64_in _ (by omega))
      have k9 := hid (show IntKind.u64.wrap c63 = c63 by simp [IntKind.wrap, IntKind.bits, IntKind.signed]; omega)
      have hw3s : w3.heap.size = w3.heap.size := rfl
      clear e56 e60 e63 e66 e67 s1 s2 s4 s5 s6 r1 r2 r4 r5 r6 g1 g2 g5 g6 src1 src2 src6 b1 b2 b4 b6 n1 n5 hrun2 hrun6 hW1 hW5 hapart apart5 apart6 HRA HRB H3 H4 hap2 hap6 hlt2 hlt6 u67 hr1 hr2 sz6 hga sz12 sz24 sz45 hz1' hw3 hw3s
      have hlen6 : us.length + 1 = ks.length + 1 := by omega
      refine (wpIn_wide (n := 5)).1 ?_
      obtain ⟨Ws, w0, w1, w2, w3', w4, w5, w6⟩ : ∃ Ws : Nat → World, Ws 0 = w3.drew ∧ Ws 1 = W1 ∧ Ws 2 = W2 ∧ Ws 3 = W3 ∧ Ws 4 = W4 ∧ Ws 5 = W5 ∧ Ws 6 = W6 := ⟨fun k => match k with | 0 => w3.drew | 1 => W1 | 2 => W2 | 3 => W3 | 4 => W4 | 5 => W5 | _ => W6, rfl, rfl, rfl, rfl, rfl, rfl, rfl⟩
      refine wpIn_region_plan_v (ro := none) (aF := ?aF) [.slice va ks.length vc, .int .i64 (zn : Int), .slice (some ⟨w3.heap.size, 0, none⟩) 1 1, .slice (some ⟨ga, 0, none⟩) (ks.length + 1) ca, .slice vb ks.length vd, .pointer (some ⟨w.heap.size, 0, none⟩), .int .i64 r, .int .u64 c56, .int .i64 (zn : Int), .int .u64 ((2 : Int) ^ zn), .int .u64 ((2 : Int) ^ zn - 1), .int .u64 c60, .pointer (some ⟨w.heap.size, 0, none⟩), .int .i64 q, .int .i64 c63, .int .u64 c63, .int .i64 (zn : Int), .int .u64 c66, .int .u64 (c67 : Nat), .slice (some ⟨W4.heap.size, 0, none⟩) 1 1, .slice (some ⟨gb, 0, none⟩) (ks.length + 1) cb, .slice (some ⟨ga, 0, none⟩) (ks.length + 1) ca, .slice (some ⟨gb, 0, none⟩) (ks.length + 1) cb] ?hE [0, 4] [2, 3, 6, 13, 19, 20] [[(0, 0), (1, 1)], [(0, 0)], [(0, 1)], [(1, 2)], [(0, 0), (1, 1), (2, 2), (3, 3), (4, 4), (5, 5)], [(0, 0), (1, 1), (2, 2)], [(2, 3)], [(3, 3), (4, 4)], [(0, 0), (1, 1), (2, 2), (3, 3), (4, 4)], [(0, 0), (1, 1), (2, 2), (3, 3), (4, 4)], [(0, 0), (1, 1), (2, 2), (3, 3), (4, 4)], [(3, 3), (4, 4)], [(0, 0), (1, 1), (2, 2), (3, 3)], [(3, 4)], [(4, 4)], [(4, 4)], [(0, 0), (1, 1), (2, 2), (3, 3), (4, 4)], [(4, 4)], [(4, 4)], [(4, 5)], [(5, 6)], [(6, 6)], [(6, 6)]] Ws 159 ?hN hmx (by kernel_rfl) (by kernel_rfl) ?haF w0 ?st ?fin
      case hE =>
        go_simp
        rfl
      case hN => kernel_rfl
      case haF => kernel_rfl
      case st =>
       refine StepsP.early (m := 2) rfl rfl (.tmp 10) rfl (by rfl) (StepsP.cons rfl (any_steps rfl ?s1) (StepsP.cons rfl (step1 ?s2) (StepsP.cons rfl (step1 ?s3) (StepsP.early (m := 6) rfl rfl (.tmp 11) rfl (by rfl) (StepsP.cons rfl (any_steps rfl ?s5) (StepsP.cons rfl (step1 ?s6) (StepsP.cons rfl (any_steps rfl ?s7) (StepsP.cons rfl (any_steps rfl ?s8) (StepsP.cons rfl (any_steps rfl ?s9) (StepsP.cons rfl (any_steps rfl ?s10) (StepsP.cons rfl (any_steps rfl ?s11) (StepsP.cons rfl (any_steps rfl ?s12) (StepsP.cons rfl (step1 ?s13) (StepsP.cons rfl (any_steps rfl ?s14) (StepsP.cons rfl (any_steps rfl ?s15) (StepsP.cons rfl (any_steps rfl ?s16) (StepsP.cons rfl (any_steps rfl ?s17) (StepsP.cons rfl (any_steps rfl ?s18) (StepsP.cons rfl (step1 ?s19) (StepsP.cons rfl (step1 ?s20) (StepsP.cons rfl (any_steps rfl ?s21) (StepsP.cons rfl (any_steps rfl ?s22) StepsP.nil))))))))))))))))))))))
       case s1 =>
         intro wx
         refine StepP.of rfl ?_
         have f1 := k1.out; have f2 := k2.out; have f3 := k3.out; have f4 := k4.out; have f5 := k5.out; have f6 := k6.out; have f7 := k7.out; have f8 := k8.out; have f9 := k9.out
         go_simp
       case s5 =>
         intro wx
         refine StepP.of rfl ?_
         have f1 := k1.out; have f2 := k2.out; have f3 := k3.out; have f4 := k4.out; have f5 := k5.out; have f6 := k6.out; have f7 := k7.out; have f8 := k8.out; have f9 := k9.out
         go_simp
       case s7 =>
         intro wx
         refine StepP.of rfl ?_
         have f1 := k1.out; have f2 := k2.out; have f3 := k3.out; have f4 := k4.out; have f5 := k5.out; have f6 := k6.out; have f7 := k7.out; have f8 := k8.out; have f9 := k9.out
         go_simp
       case s8 =>
         intro wx
         refine StepP.of rfl ?_
         have f1 := k1.out; have f2 := k2.out; have f3 := k3.out; have f4 := k4.out; have f5 := k5.out; have f6 := k6.out; have f7 := k7.out; have f8 := k8.out; have f9 := k9.out
         go_simp
       case s9 =>
         intro wx
         refine StepP.of rfl ?_
         have f1 := k1.out; have f2 := k2.out; have f3 := k3.out; have f4 := k4.out; have f5 := k5.out; have f6 := k6.out; have f7 := k7.out; have f8 := k8.out; have f9 := k9.out
         go_simp
       case s10 =>
         intro wx
         refine StepP.of rfl ?_
         have f1 := k1.out; have f2 := k2.out; have f3 := k3.out; have f4 := k4.out; have f5 := k5.out; have f6 := k6.out; have f7 := k7.out; have f8 := k8.out; have f9 := k9.out
         go_simp
       case s11 =>
         intro wx
         refine StepP.of rfl ?_
         have f1 := k1.out; have f2 := k2.out; have f3 := k3.out; have f4 := k4.out; have f5 := k5.out; have f6 := k6.out; have f7 := k7.out; have f8 := k8.out; have f9 := k9.out
         go_simp
       case s12 =>
         intro wx
         refine StepP.of rfl ?_
         have f1 := k1.out; have f2 := k2.out; have f3 := k3.out; have f4 := k4.out; have f5 := k5.out; have f6 := k6.out; have f7 := k7.out; have f8 := k8.out; have f9 := k9.out
         go_simp
       case s14 =>
         intro wx
         refine StepP.of rfl ?_
         have f1 := k1.out; have f2 := k2.out; have f3 := k3.out; have f4 := k4.out; have f5 := k5.out; have f6 := k6.out; have f7 := k7.out; have f8 := k8.out; have f9 := k9.out
         go_simp
       case s15 =>
         intro wx
         refine StepP.of rfl ?_
         have f1 := k1.out; have f2 := k2.out; have f3 := k3.out; have f4 := k4.out; have f5 := k5.out; have f6 := k6.out; have f7 := k7.out; have f8 := k8.out; have f9 := k9.out
         go_simp
       case s16 =>
         intro wx
         refine StepP.of rfl ?_
         have f1 := k1.out; have f2 := k2.out; have f3 := k3.out; have f4 := k4.out; have f5 := k5.out; have f6 := k6.out; have f7 := k7.out; have f8 := k8.out; have f9 := k9.out
         go_simp
       case s17 =>
         intro wx
         refine StepP.of rfl ?_
         have f1 := k1.out; have f2 := k2.out; have f3 := k3.out; have f4 := k4.out; have f5 := k5.out; have f6 := k6.out; have f7 := k7.out; have f8 := k8.out; have f9 := k9.out
         go_simp
       case s18 =>
         intro wx
         refine StepP.of rfl ?_
         have f1 := k1.out; have f2 := k2.out; have f3 := k3.out; have f4 := k4.out; have f5 := k5.out; have f6 := k6.out; have f7 := k7.out; have f8 := k8.out; have f9 := k9.out
         go_simp
       case s21 =>
         intro wx
         refine StepP.of rfl ?_
         have f1 := k1.out; have f2 := k2.out; have f3 := k3.out; have f4 := k4.out; have f5 := k5.out; have f6 := k6.out; have f7 := k7.out; have f8 := k8.out; have f9 := k9.out
         go_simp
       case s22 =>
         intro wx
         refine StepP.of rfl ?_
         have f1 := k1.out; have f2 := k2.out; have f3 := k3.out; have f4 := k4.out; have f5 := k5.out; have f6 := k6.out; have f7 := k7.out; have f8 := k8.out; have f9 := k9.out
         go_simp
       case s2 =>
         rw [w0, w1, HW1.out]
         refine StepP.of rfl ?_
         go_simp
       case s3 =>
         rw [w1, w2]
         exact StepP.append rfl (.tmp 49) (.tmp 51) 36 rfl _ _ rfl rfl HR2.out rfl
       case s6 =>
         rw [w2, w3']
         refine StepP.of rfl ?_
         go_simp
         refine C3.out.mono ?_
         rintro e w' ⟨rfl, rfl⟩
         exact ⟨rfl, rfl⟩
       case s13 =>
         rw [w3', w4]
         refine StepP.of rfl ?_
         go_simp
         refine C4.out.mono ?_
         rintro e w' ⟨rfl, rfl⟩
         exact ⟨rfl, rfl⟩
       case s19 =>
         rw [w4, w5, HW5.out]
         refine StepP.of rfl ?_
         go_simp
       case s20 =>
         rw [w5, w6]
         exact StepP.append rfl (.tmp 53) (.tmp 68) 23 rfl _ _ rfl rfl HR6.out rfl
      case fin =>
        change Exit.inBlock 1 _ Exit.normal _ (Ws 6)
        rw [w6]
        go_wp2_with fail
        go_roundw
        case rel => exact ⟨i - 1, ks ++ [(zn : Int)], us ++ [c67], by omega, by simp; omega, rfl, by simp; omega, by simpa using HEND⟩
        case measure => simp [intOf]; omega
    · obtain rfl : i = 0 := by omega
      obtain ⟨va, vc, rfl⟩ := own_slice HWay.out.ra
      obtain ⟨vb, vd, rfl⟩ := own_slice HWay.out.rb
      obtain ⟨va', vc', ev, hWi⟩ := own_wi HWay.out.ra
      simp only [Value.slice.injEq, true_and] at ev
      obtain ⟨rfl, rfl⟩ := ev
      obtain ⟨vb', vd', ev, hWd⟩ := own_wd HWay.out.rb (fun j hj => HWay.out.u64 j (by omega))
      simp only [Value.slice.injEq, true_and] at ev
      obtain ⟨rfl, rfl⟩ := ev
      have HWi := hid hWi
      have HVa := hid hWd.va
      have HB0 := hid HWay.out.below
      have HWi0 := hid (wi_kept (wi_of HA.out) HB0.out)
      have HVa0 := hid ((wd_of HBR.out).kept HB0.out).va
      obtain ⟨X1, E1, F1, F2⟩ := fields_pair a0 a1 len0 len1 cap0 cap1 z0 _ (by omega : len0 ≤ 100)
      obtain ⟨X2, E2, F3, F4⟩ := fields_pair va vb ks.length ks.length vc vd ks us (by omega : ks.length ≤ 100)
      obtain ⟨E3, n3, l3, hn3, F5, F6⟩ := split_pair x HX.out a0 len0 cap0 z0 (by omega)
      obtain ⟨E4, n4, l4, hn4, F7, F8⟩ := split_pair x HX.out va ks.length vc ks (by omega)
      have G1 := hid (F1.out wr HWi0.out HVa0.out)
      clear hWi hWd HWay HA HBR F1
      go_wp2_with fail
      refine G1.out.mono ?_
      rintro e w1 ⟨rfl, hb⟩
      have HB := hid hb
      clear hb G1
      go_wp2_with fail
      refine (F2.out w1 (wi_kept HWi0.out HB.out) (va_kept HVa0.out HB.out)).mono ?_
      rintro e w2 ⟨rfl, hb⟩
      have HB2 := hid (bt HB.out hb)
      clear hb HB F2
      go_wp2_with fail
      refine (F3.out w2 (wi_kept HWi.out HB2.out) (va_kept HVa.out HB2.out)).mono ?_
      rintro e w3 ⟨rfl, hb⟩
      have HB3 := hid (bt HB2.out hb)
      clear hb HB2 F3
      go_wp2_with fail
      refine (F4.out w3 (wi_kept HWi.out HB3.out) (va_kept HVa.out HB3.out)).mono ?_
      rintro e w4 ⟨rfl, hb⟩
      have HB4 := hid (bt HB3.out hb)
      clear hb HB3 F4 HVa HVa0
      go_wp2_with fail
      refine (F5.out w4 (wi_kept HWi0.out HB4.out)).mono ?_
      rintro e w5 ⟨p5, c5, rfl, D5, hb⟩
      have HB5 := hid (bt HB4.out hb)
      clear hb HB4 F5
      go_wp2_with fail
      refine (F6.out w5 (wi_kept HWi0.out HB5.out)).mono ?_
      rintro e w6 ⟨p6, c6, rfl, D6, hb⟩
      have HB6 := hid (bt HB5.out hb)
      have D5' := hid (D5.out.kept hb)
      clear hb HB5 F6 D5
      go_wp2_with fail
      refine (F7.out w6 (wi_kept HWi.out HB6.out)).mono ?_
      rintro e w7 ⟨p7, c7, rfl, D7, hb⟩
      have HB7 := hid (bt HB6.out hb)
      have D5 := hid (D5'.out.kept hb)
      have D6' := hid (D6.out.kept hb)
      clear hb HB6 F7 D5' D6
      go_wp2_with fail
      refine (F8.out w7 (wi_kept HWi.out HB7.out)).mono ?_
      rintro e w8 ⟨p8, c8, rfl, D8, hb⟩
      have HB8 := hid (bt HB7.out hb)
      have D5' := hid (D5.out.kept hb)
      have D6 := hid (D6'.out.kept hb)
      have D7' := hid (D7.out.kept hb)
      clear hb HB7 F8 D5 D6' D7
      go_wp2_with fail
      refine (sames _ _ _ _ _ _ _ (by omega) D5'.out D6.out).mono ?_
      rintro e w9 ⟨rfl, hb⟩
      have HB9 := hid (bt HB8.out hb)
      have D7 := hid (D7'.out.kept hb)
      have D8' := hid (D8.out.kept hb)
      clear hb HB8 D5' D6 D7' D8
      go_wp2_with fail
      refine (sames _ _ _ _ _ _ _ (by omega) D7.out D8'.out).mono ?_
      rintro e w10 ⟨rfl, hb⟩
      have HB10 := hid (bt HB9.out hb)
      clear hb HB9 D7 D8'
      go_wp2_with fail
      refine (awake_ok _).mono ?_
      rintro e w11 ⟨rfl, hb⟩
      have HB11 := hid (bt (bt HB0.out HB10.out) hb)
      clear hb
      go_wp2_with fail
      go_ret
      exact ⟨rfl, HB11.out⟩

set_option maxRecDepth 100000 in
theorem lifted (os : Os) (started : os.Started) (H : Type) (enc : TypeId × Value → H) :
    ReturnsInHanded {} Try.checked os 5 .any (Rows.packFieldsSpec.pre6 enc Try.prog Try.f5 Rows.packFieldsRow.domain false) (Rows.packFieldsSpec.post enc Try.prog Try.f5 false true false false) := by
  refine returnsInHanded_of_change (C := Try.checked) own started (by kernel_rfl) Try.func5
    (ChangeSpec.witness6 (enc := enc) (C := Try.checked) false ⟨#[], #[.slice none 0 0, .slice none 0 0, .int .u64 0, .slice none 0 0], []⟩ 8 (by kernel_rfl) (by kernel_rfl) (by kernel_rfl) (by kernel_rfl)) ?_
  intro W base args ds gs before hval0 hW hcnd _
  have hval : ∀ (j : Nat) t v, Try.f5.params[j]? = some t → args[j]? = some v → Value.okWide Try.prog W .any base t v := hval0
  have hW' := hW
  obtain ⟨p, q, hA0, hV, rfl, hfz, hnd⟩ := hW
  have hA : DataW.TrodAll enc Try.prog W 0 (fun _ => true) true Try.f5.params.toList args.toList ds p := hA0
  rw [Try.params5] at hA hval
  obtain ⟨v0, vs0, d0, ds0, p0, q0, hargs, rfl, rfl, h0, r0⟩ := trodAll_cons hA
  obtain ⟨v1, vs1, d1, ds1, p1, q1, rfl, rfl, rfl, h1, r1⟩ := trodAll_cons r0
  obtain ⟨v2, vs2, d2, ds2, p2, q2, rfl, rfl, rfl, h2, r2⟩ := trodAll_cons r1
  obtain ⟨v3, vs3, d3, ds3, p3, q3, rfl, rfl, rfl, h3, r3⟩ := trodAll_cons r2
  obtain ⟨rfl, rfl, rfl⟩ := trodAll_nil r3
  obtain rfl : args = #[v0, v1, v2, v3] := by cases args; simp_all
  obtain ⟨rfl, rfl⟩ := trodVars_none hV
  obtain ⟨a0, len0, cap0, rfl⟩ := okWide_slice Try.underlying36 (hval 0 36 v0 rfl rfl)
  have k0 := h0
  have lt0 : ∀ x ∈ p0, x.block < W.heap.size := by obtain ⟨m, hm⟩ := k0; exact DataW.trod_lt m _ _ _ hm
  obtain ⟨z0, w0⟩ : ∃ zs, IsRow .i64 W a0 len0 cap0 zs := by
    obtain ⟨fuel, hf⟩ := h0
    rcases open_ints Try.underlying36 Try.underlying3 (by kernel_rfl) hf with ⟨hcs, _⟩ | ⟨x, l, c, zs, hcs, _, hl, hm, hz, _, hcell, hwz⟩
    · simp [Value.cells] at hcs
      obtain ⟨rfl, rfl, rfl⟩ := hcs
      exact ⟨[], .inl ⟨rfl, rfl, rfl, rfl⟩⟩
    · simp [Value.cells] at hcs
      obtain ⟨rfl, rfl, rfl⟩ := hcs
      exact ⟨zs, .inr ⟨_, rfl, hl, hm, by simpa using hz, hcell, hwz⟩⟩
  obtain ⟨a1, len1, cap1, rfl⟩ := okWide_slice Try.underlying23 (hval 1 23 v1 rfl rfl)
  have k1 := h1
  have lt1 : ∀ x ∈ p1, x.block < W.heap.size := by obtain ⟨m, hm⟩ := k1; exact DataW.trod_lt m _ _ _ hm
  obtain ⟨z1, w1⟩ : ∃ zs, IsRow .u64 W a1 len1 cap1 zs := by
    obtain ⟨fuel, hf⟩ := h1
    rcases open_ints Try.underlying23 Try.underlying32 (by kernel_rfl) hf with ⟨hcs, _⟩ | ⟨x, l, c, zs, hcs, _, hl, hm, hz, _, hcell, hwz⟩
    · simp [Value.cells] at hcs
      obtain ⟨rfl, rfl, rfl⟩ := hcs
      exact ⟨[], .inl ⟨rfl, rfl, rfl, rfl⟩⟩
    · simp [Value.cells] at hcs
      obtain ⟨rfl, rfl, rfl⟩ := hcs
      exact ⟨zs, .inr ⟨_, rfl, hl, hm, by simpa using hz, hcell, hwz⟩⟩
  obtain ⟨a2, rfl, rfl, rfl, w2⟩ := open_int Try.underlying32 (hval 2 32 v2 rfl rfl) h2
  obtain ⟨a3, len3, cap3, rfl⟩ := okWide_slice Try.underlying36 (hval 3 36 v3 rfl rfl)
  have k3 := h3
  have lt3 : ∀ x ∈ p3, x.block < W.heap.size := by obtain ⟨m, hm⟩ := k3; exact DataW.trod_lt m _ _ _ hm
  obtain ⟨z3, w3⟩ : ∃ zs, IsRow .i64 W a3 len3 cap3 zs := by
    obtain ⟨fuel, hf⟩ := h3
    rcases open_ints Try.underlying36 Try.underlying3 (by kernel_rfl) hf with ⟨hcs, _⟩ | ⟨x, l, c, zs, hcs, _, hl, hm, hz, _, hcell, hwz⟩
    · simp [Value.cells] at hcs
      obtain ⟨rfl, rfl, rfl⟩ := hcs
      exact ⟨[], .inl ⟨rfl, rfl, rfl, rfl⟩⟩
    · simp [Value.cells] at hcs
      obtain ⟨rfl, rfl, rfl⟩ := hcs
      exact ⟨zs, .inr ⟨_, rfl, hl, hm, by simpa using hz, hcell, hwz⟩⟩
  clear hA0 hval0
  refine (walk a0 len0 cap0 z0 a1 len1 cap1 z1 a2 a3 len3 cap3 z3 W w0 w1 w2 w3).mono fun e W' ⟨he, bel⟩ => ?_
  subst he
  exact ⟨_, rfl, _, _, _, [], _, [], hW', trodAll_mk1 (shut_bool Try.underlying4 _), (trodAll_cons_mk (Below.trod laidOut (by kernel_rfl) (of_decide_eq_true (by kernel_rfl)) k0 bel lt0) (trodAll_cons_mk (Below.trod laidOut (by kernel_rfl) (of_decide_eq_true (by kernel_rfl)) k1 bel lt1) (trodAll_cons_mk (shut_int Try.underlying32 w2) (trodAll_cons_mk (Below.trod laidOut (by kernel_rfl) (of_decide_eq_true (by kernel_rfl)) k3 bel lt3) trodAll_mk0)))), rfl, bel.frame _, fun h => by cases h⟩

theorem over : Rows.packFieldsRow.holds Try.pinned (OpenSpec.ofChange Rows.packFieldsSpec) :=
  OpenClaim.holds_of_wide 5 Try.f5 rfl rfl rfl rfl rfl rfl rfl ⟨rfl, rfl, rfl, rfl, rfl⟩ rfl rfl rfl rfl rfl (by kernel_rfl) Try.func5 (by kernel_rfl)
    (of_decide_eq_true (by kernel_rfl)) (by unfold Func.isWrapper; first | (rw [if_pos (by decide +kernel)]; kernel_rfl) | (rw [if_neg (by decide +kernel)]; exact ⟨rfl, rfl⟩))
    (fun os started H enc _ => lifted os started H enc)

theorem proved : Rows.PackFieldsSaid := over
#print axioms proved
end Go.Proofs.Ytflmfjfeeajkfaa.packFields
