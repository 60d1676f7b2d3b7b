/- ParityRebuilds where the row has 1 to 20 words: it returns true and changes nothing that was there. Conditions: those of each theorem. -/
import Derived.Test.YtahnmmichekamaaG
import Derived.Laws.OwnMore
import Derived.Laws.AppendOwn
import Derived.OwnWalk
import Derived.Maps.AppendAt
import Derived.StillTailTactics
namespace Go.Proofs.Ytahnmmichekamaa
open Go.ChangeShapes Go.WideShapes Go.ChangeAt Go.RowKit
set_option linter.unusedVariables false

theorem Try.info37 : (Try.prog.info? 37).map (fun i => (i.zero, i.size, i.bytes)) = some (some (.int .u64 0), 1, 8) := by kernel_rfl

def vs (zs : List Int) : List Value := zs.map (Value.int .u64)

theorem news_of {w : World} {b off len : Nat} {zs : List Int} (hz : len ≤ zs.length) (hs : Sl w (some ⟨b, off, none⟩) len zs) :
    ∀ j u, (vs (zs.take len))[j]? = some u → w.cell? ((⟨b, off, none⟩ : Addr).add j) = some u := by
  intro j u hj
  have hjl : j < len := by
    have := (List.getElem?_eq_some_iff.1 hj).1
    simp [vs] at this; omega
  obtain ⟨b', off', e, hc⟩ := hs j hjl
  cases e
  have hu : u = .int .u64 (zs.getD j 0) := by
    simp [vs, hjl, List.getElem?_eq_getElem (by omega : j < zs.length)] at hj
    simp [List.getD_eq_getElem?_getD, List.getElem?_eq_getElem (by omega : j < zs.length), hj]
  rw [hu, ← hc]
  by_cases e : j = 0
  · subst e; simp [Addr.add]
  · simp [Addr.add, e]

theorem one_of (zs : List Int) : ∀ u ∈ vs zs, u.oneCell' = true := by
  intro u hu
  simp [vs] at hu
  obtain ⟨x, _, rfl⟩ := hu
  rfl

theorem update_q (a b c : Int) (w : World) : Calls Try.prog 18 #[.int .u64 a, .int .u64 b, .int .u64 c] w fun e w' => e = .returned (.int .u64 (bits .xor .u64 (bits .xor .u64 a b) c)) ∧ w' = w :=
  (update_any a b c w).mono fun _ _ ⟨he, hw⟩ => ⟨he, hw.symm⟩

theorem own_base {w : World} {base : Nat} {e : TypeId} {size : Nat} {v : Value} {n : Nat} {xs : List Value} (h : w.ownsRow base e size v n xs) : ∀ k, v.ownBlock = some k → base ≤ k := by
  intro k hk
  rcases h.2 with ⟨rfl, _⟩ | ⟨g, cap, cur, rfl, hg, _⟩
  · simp [Value.ownBlock] at hk
  · simp [Value.ownBlock] at hk; omega

theorem own_some {w : World} {base : Nat} {e : TypeId} {size : Nat} {v : Value} {n : Nat} {xs : List Value} (h : w.ownsRow base e size v n xs) (hn : 0 < n) :
    ∃ g cap, v = .slice (some ⟨g, 0, none⟩) n cap ∧ base ≤ g ∧ g < w.heap.size ∧ n ≤ cap ∧ cap ≤ maxLen := by
  rcases h.2 with ⟨rfl, h0⟩ | ⟨g, cap, cur, rfl, hg, hh, hc, hm, _⟩
  · omega
  · exact ⟨g, cap, rfl, hg, by have := (Array.getElem?_eq_some_iff.1 hh).1; exact this, hc, hm⟩

theorem bt' {W a b : World} (h : Below W.heap.size W a) (k : Below a.heap.size a b) : Below W.heap.size W b := bt h k

/-- the row behind both stores -/
def Y (zs : List Int) (len k : Nat) (a : Int) : List Int := (zs.take len).set k a ++ [bits .xor .u64 (bits .xor .u64 (zs.getD k 0) a) (xo zs len)]

theorem store2 {w : World} {base g cap len0 : Nat} {z0 : List Int} (h : w.ownsRow base 37 1 (.slice (some ⟨g, 0, none⟩) (len0 + 1) cap) (len0 + 1) (vs (z0.take len0) ++ [.int .u64 (xo z0 len0)])) (k : Nat) (hk : k < len0) (hl : len0 ≤ z0.length) (u a : Int) (hu : u = bits .xor .u64 (bits .xor .u64 (z0.getD k 0) a) (xo z0 len0) := by rfl) :
    Sl ((w.setCell ⟨g, len0, none⟩ (.int .u64 u)).setCell ⟨g, k, none⟩ (.int .u64 a)) (some ⟨g, 0, none⟩) (len0 + 1) (Y z0 len0 k a) := by
  have h1 := (h.stored len0 (.int .u64 u)).1
  have h2 := (h1.stored k (.int .u64 a)).1
  intro j hj
  refine ⟨g, 0, rfl, ?_⟩
  rw [Nat.zero_add, h2.cellAt j (by omega)]
  have e : ((vs (z0.take len0) ++ [Value.int .u64 (xo z0 len0)]).set len0 (Value.int .u64 u)).set k (Value.int .u64 a) = vs (Y z0 len0 k a) := by
    have hlen : (vs (z0.take len0)).length = len0 := by simp [vs]; omega
    rw [List.set_append_right _ _ (by omega), hlen, Nat.sub_self, List.set_cons_zero, List.set_append_left _ _ (by omega), Y, hu]
    simp [vs, List.map_set]
  rw [e]
  have hjl : j < (Y z0 len0 k a).length := by simp [Y]; omega
  simp [vs, List.getD_eq_getElem?_getD, List.getElem?_eq_getElem hjl]

theorem Y_lt (zs : List Int) (len k : Nat) (a : Int) (hl : len ≤ zs.length) (j : Nat) (hj : j < len) : (Y zs len k a).getD j 0 = if j = k then a else zs.getD j 0 := by
  have h1 : j < ((zs.take len).set k a).length := by simp; omega
  simp only [Y, List.getD_eq_getElem?_getD]
  rw [List.getElem?_append_left h1, List.getElem?_set]
  by_cases e : k = j
  · subst e; simp [show k < min len zs.length by omega]
  · simp [e, show ¬ j = k by omega, hj]

theorem Y_at (zs : List Int) (len k : Nat) (a : Int) (hl : len ≤ zs.length) : (Y zs len k a).getD len 0 = bits .xor .u64 (bits .xor .u64 (zs.getD k 0) a) (xo zs len) := by
  have h1 : ((zs.take len).set k a).length = len := by simp; omega
  simp only [Y, List.getD_eq_getElem?_getD]
  rw [List.getElem?_append_right (by omega), h1, Nat.sub_self]
  rfl

theorem xn_congr (zs ys : List Int) (n : Nat) (h : ∀ j, j < n → zs.getD j 0 = ys.getD j 0) : xn zs n = xn ys n := by
  induction n with
  | zero => rfl
  | succ n ih => rw [xn, xn, ih (fun j hj => h j (by omega)), h n (by omega)]

theorem xn_set (zs ys : List Int) (len k : Nat) (a : Int) (hk : k < len) (h : ∀ j, j < len → ys.getD j 0 = if j = k then a else zs.getD j 0) : xn ys len = xn zs len ^^^ (zs.getD k 0).toNat ^^^ a.toNat := by
  have e1 := xn_split zs k (len - k - 1)
  have e2 := xn_split ys k (len - k - 1)
  rw [show k + 1 + (len - k - 1) = len by omega] at e1 e2
  have e3 : xn ys k = xn zs k := xn_congr _ _ _ fun j hj => by rw [h j (by omega), if_neg (by omega)]
  have e4 : xn (ys.drop (k + 1)) (len - k - 1) = xn (zs.drop (k + 1)) (len - k - 1) := xn_congr _ _ _ fun j hj => by
    have a1 : (ys.drop (k + 1)).getD j 0 = ys.getD (k + 1 + j) 0 := by simp [List.getD_eq_getElem?_getD]
    have a2 : (zs.drop (k + 1)).getD j 0 = zs.getD (k + 1 + j) 0 := by simp [List.getD_eq_getElem?_getD]
    rw [a1, a2, h _ (by omega), if_neg (by omega)]
  rw [e1, e2, e3, e4, h k hk, if_pos rfl]
  apply Nat.eq_of_testBit_eq
  intro i
  simp only [Nat.testBit_xor]
  cases (xn zs k).testBit i <;> cases (zs.getD k 0).toNat.testBit i <;> cases (xn (zs.drop (k + 1)) (len - k - 1)).testBit i <;> cases a.toNat.testBit i <;> rfl

theorem Y_wf (zs : List Int) (len k : Nat) (a : Int) (hz : ∀ j, 0 ≤ zs.getD j 0 ∧ zs.getD j 0 < 18446744073709551616) (hl : len ≤ zs.length) (hk : k < len) (q2 : 0 ≤ a) (q3 : a < 18446744073709551616) :
    (∀ j, 0 ≤ (Y zs len k a).getD j 0 ∧ (Y zs len k a).getD j 0 < 18446744073709551616) ∧ xo (Y zs len k a) (len + 1) = 0 := by
  have hx := xn_lt zs hz len
  have hzk := hz k
  have hxz : (zs.getD k 0).toNat ^^^ a.toNat < 2 ^ 64 := Nat.xor_lt_two_pow (by omega) (by omega)
  have U : bits .xor .u64 (bits .xor .u64 (zs.getD k 0) a) (xo zs len) = (((zs.getD k 0).toNat ^^^ a.toNat ^^^ xn zs len : Nat) : Int) := by
    rw [xo_xn zs hz, u64_xor (zs.getD k 0) a (by omega) (by omega) (by omega) (by omega), u64_xor_nat _ _ (by omega) (by omega)]
  have hU : (zs.getD k 0).toNat ^^^ a.toNat ^^^ xn zs len < 2 ^ 64 := Nat.xor_lt_two_pow hxz hx
  have hw : ∀ j, 0 ≤ (Y zs len k a).getD j 0 ∧ (Y zs len k a).getD j 0 < 18446744073709551616 := by
    intro j
    by_cases h1 : j < len
    · rw [Y_lt zs len k a hl j h1]
      by_cases e : j = k
      · rw [if_pos e]; exact ⟨q2, q3⟩
      · rw [if_neg e]; exact hz j
    · by_cases h2 : j = len
      · subst h2
        rw [Y_at zs j k a hl, U]; omega
      · have : (Y zs len k a).length ≤ j := by simp [Y]; omega
        simp [List.getD_eq_getElem?_getD, List.getElem?_eq_none this]
  refine ⟨hw, ?_⟩
  rw [xo_xn _ hw, xn, xn_set zs _ len k a hk (fun j hj => Y_lt zs len k a hl j hj), Y_at zs len k a hl, U, Int.toNat_natCast]
  have : xn zs len ^^^ (zs.getD k 0).toNat ^^^ a.toNat ^^^ ((zs.getD k 0).toNat ^^^ a.toNat ^^^ xn zs len) = 0 := by
    apply Nat.eq_of_testBit_eq
    intro i
    simp only [Nat.testBit_xor, Nat.zero_testBit]
    cases (xn zs len).testBit i <;> cases (zs.getD k 0).toNat.testBit i <;> cases a.toNat.testBit i <;> rfl
  rw [this]
  rfl

theorem xor_zero (v : Int) (h0 : 0 ≤ v) (h1 : v < 18446744073709551616) : bits .xor .u64 0 v = v := by
  rw [u64_xor 0 v (by omega) (by omega) h0 h1]
  simp [Int.toNat_of_nonneg h0]

theorem xor_y (zs : List Int) (len k : Nat) (a : Int) (g cap : Nat) (w : World) (hz : ∀ j, 0 ≤ zs.getD j 0 ∧ zs.getD j 0 < 18446744073709551616) (hl : len ≤ zs.length) (hk : k < len) (hb : len ≤ 20) (q2 : 0 ≤ a) (q3 : a < 18446744073709551616) (h : Sl w (some ⟨g, 0, none⟩) (len + 1) (Y zs len k a)) :
    Calls Try.prog 16 #[.slice (some ⟨g, 0, none⟩) (len + 1) cap] w fun e w' => e = .returned (.int .u64 0) ∧ w = w' := by
  have := xor_any _ _ cap _ w (by omega) h
  rwa [(Y_wf zs len k a hz hl hk q2 q3).2] at this

theorem rebuild_y (zs : List Int) (len k : Nat) (a : Int) (g cap j : Nat) (w : World) (hz : ∀ j, 0 ≤ zs.getD j 0 ∧ zs.getD j 0 < 18446744073709551616) (hl : len ≤ zs.length) (hk : k < len) (hb : len ≤ 20) (q2 : 0 ≤ a) (q3 : a < 18446744073709551616) (hj : j < len + 1) (h : Sl w (some ⟨g, 0, none⟩) (len + 1) (Y zs len k a)) :
    Calls Try.prog 14 #[.slice (some ⟨g, 0, none⟩) (len + 1) cap, .int .i64 j] w fun e w' => e = .returned (.tuple #[.int .u64 ((Y zs len k a)[j]?.getD 0), .int .i64 0]) ∧ Below w.heap.size w w' := by
  have := rebuild_ok _ _ cap _ j w (by omega) h hj
  obtain ⟨hw, h0⟩ := Y_wf zs len k a hz hl hk q2 q3
  have hwj := hw j
  rw [h0, xor_zero _ hwj.1 hwj.2, List.getD_eq_getElem?_getD] at this
  exact this

theorem walk_in (b off len0 cap0 : Nat) (z0 : List Int) (a1 a2 : Int) (w : World) (hs : Sl w (some ⟨b, off, none⟩) len0 z0) (hz : ∀ j, 0 ≤ z0.getD j 0 ∧ z0.getD j 0 < 18446744073709551616) (hl0 : len0 ≤ z0.length) (h1 : 1 ≤ len0) (h20 : len0 ≤ 20) (q2 : 0 ≤ a2) (q3 : a2 < 18446744073709551616) :
    Calls Try.prog 6 #[.slice (some ⟨b, off, none⟩) len0 cap0, .int .i64 a1, .int .u64 a2] w fun e w' => e = .returned (.bool true) ∧ Below w.heap.size w w' := by
  obtain ⟨i0, hi, hz0, hz1, hz2⟩ := info_parts Try.info37
  have HI := hid hi; have HZ0 := hid hz0; have HZ1 := hid hz1; have HZ2 := hid hz2
  clear hi hz0 hz1 hz2
  have HS := hid hs
  have HZ := hid hz
  clear hs hz
  have HN := hid (news_of hl0 HS.out)
  have HO := hid (one_of (z0.take len0))
  have HL := hid (show (vs (z0.take len0)).length = len0 * 1 by simp [vs]; omega)
  have t1 : ((len0 : Int) == 0) = false := by simp; omega
  have t2 : ¬ 20 < (len0 : Int) := by omega
  go_enter Try.func6, Try.ntmps6
  have C1 : 0 + len0 ≤ maxLen := by unfold maxLen; omega
  have C2 : (0 + len0) * 8 ≤ 140737488355328 := by omega
  go_wp2_with (first | (at_builtin; refine wpList_append_own _ rfl _ _ 36 rfl w.heap.size 37 i0 (.int .u64 0) 1 8 Try.underlying36 HI.out HZ0.out HZ1.out HZ2.out rfl (by decide) (.slice none 0 0) _ [] rfl (World.ownsRow_nil _ _ _ _) ⟨b, off, none⟩ len0 cap0 _ rfl HL.out HN.out HO.out C1 C2 (Nat.le_refl _) ?_; intro v1 w1 hown1 hgrow1 _))
  clear C1 C2
  simp only [Nat.zero_add, List.nil_append] at hown1
  have hb1 : Below w.heap.size w w1 := (Below.refl _ _).grown hgrow1 (Nat.le_refl _) (fun k e => by simp [Value.ownBlock] at e)
  have HS1 := hid (Sl.kept HS.out hb1)
  refine (xor_any _ _ _ _ _ (by omega) HS1.out).mono ?_
  rintro e w2 ⟨rfl, rfl⟩
  have C1 : len0 + 1 ≤ maxLen := by unfold maxLen; omega
  have C2 : (len0 + 1) * 8 ≤ 140737488355328 := by omega
  have hsz1 := hb1.size
  have C3 : w.heap.size ≤ w1.heap.size + 1 := by omega
  go_wp2_with (first | (at_builtin; refine wpList_append_own _ rfl _ _ 36 rfl w.heap.size 37 i0 (.int .u64 0) 1 8 Try.underlying36 HI.out HZ0.out HZ1.out HZ2.out rfl (by decide) v1 _ _ rfl (hown1.alloc _) ⟨w1.heap.size, 0, none⟩ 1 1 [.int .u64 (xo z0 len0)] rfl rfl (cell_one_new _ _ _) (by simp [Value.oneCell']) C1 C2 (by simpa using C3) ?_; intro v2 w2 hown2 hgrow2 _))
  have hb2 : Below w.heap.size w w2 := (hb1.alloc hsz1 _).grown hgrow2 (by simp; omega) (own_base hown1)
  obtain ⟨g, cap, hv2, hg1, hg2, hcap, hcm⟩ := own_some hown2 (by omega)
  rw [hv2]
  rw [hv2] at hown2
  clear hv2 hgrow2 hgrow1 C1 C2 C3 HS1 HN HO HL HI HZ0 HZ1 HZ2 hown1
  have hk0 : 0 ≤ (wrap64 (a1.tmod ↑len0 + ↑len0)).tmod ↑len0 ∧ (wrap64 (a1.tmod ↑len0 + ↑len0)).tmod ↑len0 < ↑len0 := by
    have m1 := Int.lt_tmod_of_pos a1 (show (0 : Int) < ↑len0 by omega)
    have m2 := Int.tmod_lt_of_pos a1 (show (0 : Int) < ↑len0 by omega)
    rw [IntWalk.wrap64_in _ ⟨by omega, by omega⟩, Int.tmod_eq_emod_of_nonneg (by omega)]
    exact ⟨Int.emod_nonneg _ (by omega), Int.emod_lt_of_pos _ (by omega)⟩
  have HK := hid hk0
  clear hk0
  go_wp2_with fail
  generalize hkk : (wrap64 (a1.tmod ↑len0 + ↑len0)).tmod ↑len0 = kk at HK ⊢
  clear hkk
  obtain ⟨k, rfl⟩ : ∃ k : Nat, kk = k := ⟨kk.toNat, by have := HK.out.1; omega⟩
  have hk : k < len0 := by have := HK.out.2; omega
  clear HK
  have r1 : w2.cell? ⟨g, k, none⟩ = some (.int .u64 (z0.getD k 0)) := by
    rw [hown2.cellAt k (by omega), List.getElem?_append_left (by simp [vs]; omega)]
    simp [vs, hk, List.getD_eq_getElem?_getD, List.getElem?_eq_getElem (show k < z0.length by omega)]
  have r2 : w2.cell? ⟨g, len0, none⟩ = some (.int .u64 (xo z0 len0)) := by
    rw [hown2.cellAt len0 (by omega), List.getElem?_append_right (by simp [vs]; omega)]
    simp [vs, show min len0 z0.length = len0 by omega]
  have r3 := hown2.frozenAt len0
  have r4 := hown2.frozenAt k
  have t3 : (k : Int) < (len0 : Int) + 1 := by omega
  have t4 : (len0 : Int) < (len0 : Int) + 1 := by omega
  go_still_tail 15, (by kernel_rfl)
  still_call (update_q _ _ _ _)
  repeat still_step
  refine wpStill_nil ?_
  change wpList _ _ _ _ _ w2.drew
  have hown3 := hown2.drew
  have hb3 : Below w.heap.size w w2.drew := hb2.drew
  have hg3 : g < w2.drew.heap.size := hg2
  have s3 : w2.drew.frozen? ⟨g, len0, none⟩ = false := r3
  have s4 : w2.drew.frozen? ⟨g, k, none⟩ = false := r4
  have s1 : w2.drew.cell? ⟨g, k, none⟩ = some (.int .u64 (z0.getD k 0)) := r1
  have s2 : w2.drew.cell? ⟨g, len0, none⟩ = some (.int .u64 (xo z0 len0)) := r2
  clear hown2 hb2 hg2 r1 r2 r3 r4
  generalize w2.drew = w3 at *
  have ST := hid (store2 hown3 k hk hl0 (bits .xor .u64 (bits .xor .u64 (z0.getD k 0) a2) (xo z0 len0)) a2)
  have hb4 := hid ((hb3.setCell (p := ⟨g, len0, none⟩) hg1 (.int .u64 (bits .xor .u64 (bits .xor .u64 (z0.getD k 0) a2) (xo z0 len0)))).setCell (p := ⟨g, k, none⟩) hg1 (.int .u64 a2))
  simp only [List.getD_eq_getElem?_getD] at ST hb4
  have RB := hid (fun w j (hj : j < len0 + 1) (h : Sl w (some ⟨g, 0, none⟩) (len0 + 1) (Y z0 len0 k a2)) => rebuild_y z0 len0 k a2 g cap j w HZ.out hl0 hk (by omega) q2 q3 hj h)
  have XB := hid (fun w (h : Sl w (some ⟨g, 0, none⟩) (len0 + 1) (Y z0 len0 k a2)) => xor_y z0 len0 k a2 g cap w HZ.out hl0 hk (by omega) q2 q3 h)
  go_wp2_with fail
  generalize hW : (w3.setCell { block := g, off := len0 } _).setCell { block := g, off := k } _ = w4 at ST hb4 ⊢
  clear hW hb3 hown3 s1 s2 s3 s4 hb1
  have hY : Hid (Sl w4 (some ⟨g, 0, none⟩) (len0 + 1) (Y z0 len0 k a2)) := ST.out
  clear ST
  generalize hYY : Y z0 len0 k a2 = ys at *
  clear hYY
  go_loopw [9] (fun i wr => ∃ j : Nat, j ≤ len0 + 1 ∧ i = .int .i64 j ∧ Sl wr (some ⟨g, 0, none⟩) (len0 + 1) ys ∧ Below w.heap.size w wr) (fun i _ => len0 + 1 - (intOf i).toNat)
  case atStart => exact ⟨0, by omega, rfl, hY.out, hb4.out⟩
  case round =>
    obtain ⟨j, hj, rfl, hsj, hbj⟩ := hrel
    have HSJ := hid hsj
    clear hsj
    by_cases hlt : j < len0 + 1
    · have t5 : (j : Int) < (len0 : Int) + 1 := by omega
      go_wp2_with fail
      refine (RB.out _ _ hlt HSJ.out).mono ?_
      rintro e w5 ⟨rfl, hb5⟩
      have HS5 := hid (Sl.kept HSJ.out hb5)
      obtain ⟨b', off', e5, c5⟩ := HS5.out j hlt
      cases e5
      rw [Nat.zero_add] at c5
      go_wp2_with fail
      go_roundw
      case rel => exact ⟨j + 1, by omega, by go_num, HS5.out, bt' hbj hb5⟩
      case measure => simp [intOf]; omega
    · have t5 : ¬ (j : Int) < (len0 : Int) + 1 := by omega
      go_wp2_with fail
      refine (XB.out _ HSJ.out).mono ?_
      rintro e w5 ⟨rfl, rfl⟩
      go_wp2_with fail
      refine (awake_ok _).mono ?_
      rintro e w6 ⟨rfl, hb6⟩
      go_wp2_with fail
      go_ret
      exact ⟨rfl, bt' hbj hb6⟩
end Go.Proofs.Ytahnmmichekamaa
