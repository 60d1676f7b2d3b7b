/- add of layer 3. No conditions but those of each theorem. -/
import Derived.Test.YtgfdmeaganhpiaaD
import Derived.Deep.AppendLies
namespace Go.Proofs.Ytgfdmeaganhpiaa.Old
open Go.ChangeShapes Go.WideShapes Go.ChangeAt Go.RowKit
set_option linter.unusedVariables false
set_option linter.unusedSimpArgs false

/-- ranges as values -/
def vr (rs : List Rn) : List Value := rs.flatMap fun r => [.int .i64 r.1, .int .i64 r.2]
theorem vr_append (a b : List Rn) : vr (a ++ b) = vr a ++ vr b := by simp [vr]
theorem vr_one (r : Rn) : vr [r] = [.int .i64 r.1, .int .i64 r.2] := by simp [vr]
theorem vr_length (rs : List Rn) : (vr rs).length = rs.length * 2 := by
  induction rs with
  | nil => rfl
  | cons r rs ih => simp [vr] at *; omega
theorem vr_at (rs : List Rn) (j : Nat) (hj : j < rs.length) : (vr rs)[j * 2]? = some (.int .i64 (rs[j]?.getD (0, 0)).1) ∧ (vr rs)[j * 2 + 1]? = some (.int .i64 (rs[j]?.getD (0, 0)).2) := by
  induction rs generalizing j with
  | nil => simp at hj
  | cons r rs ih =>
    have e : vr (r :: rs) = .int .i64 r.1 :: .int .i64 r.2 :: vr rs := by simp [vr]
    cases j with
    | zero => rw [e]; simp
    | succ j =>
      have := ih j (by simpa using hj)
      rw [e, show (j + 1) * 2 = j * 2 + 1 + 1 by omega]
      simpa using this
theorem own_grown' {W W' : World} {base e size n : Nat} {v : Value} {xs : List Value} {r : Option Nat} (h : W.ownsRow base e size v n xs) (hg : W.grownBy W' r) (hB : ∀ k, v.ownBlock = some k → r ≠ some k) : W'.ownsRow base e size v n xs := by
  refine ⟨h.1, h.2.imp id fun ⟨g, cap, cur, hv, hb, hh, rest⟩ => ⟨g, cap, cur, hv, hb, ?_, rest⟩⟩
  rw [hg.block g (Array.getElem?_eq_some_iff.1 hh).1 (fun e => hB g (by rw [hv]; rfl) e.symm)]; exact hh
theorem own_lt {w : World} {base e size n : Nat} {v : Value} {xs : List Value} (h : w.ownsRow base e size v n xs) : ∀ k, v.ownBlock = some k → k < w.heap.size := by
  intro k hk
  rcases h.2 with ⟨hv, _⟩ | ⟨g, cap, cur, hv, hb, hh, _⟩
  · rw [hv] at hk; simp [Value.ownBlock] at hk
  · rw [hv] at hk
    have : g = k := by simpa [Value.ownBlock] using hk
    subst this
    exact (Array.getElem?_eq_some_iff.1 hh).1
theorem grown_drewN (W : World) (n : Nat) (row : Option Nat) : W.grownBy (W.drewN n) row := ⟨rfl, rfl, rfl, Nat.le_refl _, fun _ _ _ => rfl⟩
theorem grown_trans {A B C : World} {row : Option Nat} (h : A.grownBy B row) (k : B.grownBy C row) : A.grownBy C row :=
  ⟨k.os.trans h.os, k.tape.trans h.tape, k.output.trans h.output, Nat.le_trans h.size k.size, fun i hi hne => (k.block i (Nat.lt_of_lt_of_le hi h.size) hne).trans (h.block i hi hne)⟩
theorem grown_any {A B : World} {row : Option Nat} (h : A.grownBy B none) : A.grownBy B row := ⟨h.os, h.tape, h.output, h.size, fun i hi _ => h.block i hi (fun e => by cases e)⟩
/-- an own row's cells -/
theorem own_cells {w : World} {base : Nat} {a : Option Addr} {cap n : Nat} {rs : List Rn} (h : w.ownsRow base 42 2 (.slice a n cap) n (vr rs)) (hn : 0 < n) : ∃ g, a = some ⟨g, 0, none⟩ ∧ base ≤ g ∧ g < w.heap.size ∧ (∀ j, j < n → w.cell? ⟨g, j * 2, none⟩ = some (.int .i64 (rs[j]?.getD (0, 0)).1) ∧ w.cell? ⟨g, j * 2 + 1, none⟩ = some (.int .i64 (rs[j]?.getD (0, 0)).2)) ∧ ∀ j, w.frozen? ⟨g, j, none⟩ = false := by
  have hlen := h.1
  rw [vr_length] at hlen
  rcases h.2 with ⟨hv, h0⟩ | ⟨g, cap', cur, hv, hg, hh, _⟩
  · omega
  · simp only [Value.slice.injEq, true_and] at hv
    obtain ⟨rfl, rfl⟩ := hv
    refine ⟨g, rfl, hg, (Array.getElem?_eq_some_iff.1 hh).1, fun j hj => ?_, fun j => frozen_of_row _ _ _ _ _ hh⟩
    have h1 := h.cellAt (j * 2) (by omega)
    have h2 := h.cellAt (j * 2 + 1) (by omega)
    have h3 := vr_at rs j (by omega)
    exact ⟨h1.trans h3.1, h2.trans h3.2⟩

theorem vr_set (i : List Rn) (k1 k2 m : Int) : (vr (i ++ [(k1, k2)])).set (i.length * 2 + 1) (.int .i64 m) = vr (i ++ [(k1, m)]) := by
  rw [vr_append, vr_append, vr_one, vr_one, List.set_append_right _ _ (by rw [vr_length]; omega), vr_length]
  simp

set_option maxRecDepth 100000 in
set_option maxHeartbeats 2000000 in
theorem add_any (base : Nat) (v : Value) (n : Nat) (rs : List Rn) (s l : Int) (hs : 0 ≤ s) (hl : 0 ≤ l) (hsl : s + l ≤ 1073741824) (hrs : ∀ r ∈ rs, 0 ≤ r.1 ∧ 0 ≤ r.2 ∧ r.1 + r.2 ≤ 1073741824) (hn : n ≤ 1000000) (W : World) (hb : base ≤ W.heap.size) (hown : W.ownsRow base 42 2 v n (vr rs)) :
    Calls Try.prog 43 #[v, .agg #[.int .i64 s, .int .i64 l]] W fun e W' => ∃ v', e = .returned v' ∧ Hid (W'.ownsRow base 42 2 v' (addR rs (s, l)).length (vr (addR rs (s, l))) ∧ W.grownBy W' v.ownBlock ∧ (v'.ownBlock = v.ownBlock ∨ ∀ k, v'.ownBlock = some k → W.heap.size ≤ k)) := by
  have hlen : rs.length = n := by have := hown.1; rw [vr_length] at this; omega
  obtain ⟨a, cap, rfl⟩ := own_slice hown
  obtain ⟨i0, hi, hz0, hz1, hz2⟩ := info_parts Try.info42
  have HI := hid hi; have HZ0 := hid hz0; have HZ1 := hid hz1; have HZ2 := hid hz2
  clear hi hz0 hz1 hz2
  have HO := hid hown
  have HG1 := hid (World.grownBy_alloc W (.cells #[.int .i64 s, .int .i64 l] 42) (Value.slice a n cap).ownBlock)
  have HO1 := hid (hown.alloc (.cells #[.int .i64 s, .int .i64 l] 42))
  have HP := hid (Pr.new W 42 (.int .i64 s) (.int .i64 l))
  have hs1 : W.heap.size < (W.alloc (.cells #[.int .i64 s, .int .i64 l] 42)).heap.size := by simp
  have HLt := hid (own_lt hown)
  clear hown
  rcases nil_or rs with rfl | ⟨i, ⟨k1, k2⟩, rfl⟩
  · simp only [List.length_nil] at hlen
    subst hlen
    go_enter Try.func43, Try.ntmps43
    go_wp2_with fail
    generalize W.alloc (.cells #[.int .i64 s, .int .i64 l] 42) = W1 at *
    have p0 := HP.out.c0
    have p1 := HP.out.c1
    go_wp2_with fail
    go_quiet (fail)
    have HG2 := hid (grown_trans HG1.out (grown_drewN W1 nq _))
    have HO2 := hid (HO1.out.kept (grown_drewN W1 nq none) (by cases (Value.slice a 0 cap).ownBlock <;> simp))
    have q0 : (W1.drewN nq).cell? ⟨W.heap.size, 0, none⟩ = some (.int .i64 s) := p0
    have q1 : (W1.drewN nq).cell? ⟨W.heap.size, 1, none⟩ = some (.int .i64 l) := p1
    have hs2 : W.heap.size < (W1.drewN nq).heap.size := hs1
    clear p0 p1 HP HO1 HG1 hs1
    generalize W1.drewN nq = W2 at *
    have HSz := hid hs2
    have HN := hid (World.news_of_block (w := W2.alloc (.cells #[.int .i64 s, .int .i64 l] 42)) (cs := #[.int .i64 s, .int .i64 l]) (t := 42) (fr := (0, 0)) (B := W2.heap.size) (heap_alloc_new _ _))
    go_wp2_with (first | (at_builtin; refine wpList_append_lies _ rfl _ _ 22 rfl base 42 i0 (.agg #[.int .i64 0, .int .i64 0]) 2 16 Try.underlying22 HI.out HZ0.out HZ1.out HZ2.out rfl (by decide) _ _ _ rfl (HO2.out.alloc _) ⟨W2.heap.size, 0, none⟩ 1 1 [.int .i64 s, .int .i64 l] rfl rfl HN.out (by simp [Value.oneCell']) (by omega) (by unfold maxLen; omega) (by omega) (by have := HSz.out; simp; omega) _ rfl ?_; intro g4 c4 w4 hown4 hgrow4 hat4 hlt4))
    go_ret
    refine ⟨_, rfl, hid ⟨by simpa [vr, addR_nil] using hown4, grown_trans HG2.out (grown_trans (World.grownBy_alloc W2 _ _) hgrow4), ?_⟩⟩
    rcases hat4 with h | h
    · exact .inl h.symm
    · refine .inr fun k hk => ?_
      have : g4 = k := by simpa [Value.ownBlock] using hk
      have := HSz.out
      simp at h
      omega
  · have hin := hrs (k1, k2) (by simp)
    simp only at hin
    obtain ⟨hk1, hk2, hk3⟩ := hin
    obtain ⟨g, rfl, hg1, hg2, hcells, hfz⟩ := own_cells HO1.out (by simp at hlen; omega)
    have HC := hid hcells
    have HF := hid hfz
    have hni : n = i.length + 1 := by simp at hlen; omega
    subst hni
    have c0 := (hcells i.length (by omega)).1
    have c1 := (hcells i.length (by omega)).2
    simp at c0 c1
    have f1 := hfz (i.length * 2 + 1)
    clear hcells hfz
    have hgW := HLt.out g rfl
    have hidx : ((i.length + 1 : Nat) : Int) - 1 = (i.length : Int) := by omega
    by_cases hon : s ≤ k1 + k2
    · obtain ⟨m, hm⟩ : ∃ m, m = max k2 (s + l - k1) := ⟨_, rfl⟩
      have HM := hid hm
      have HA := hid (addR_on i (k1, k2) (s, l) hon)
      simp only at HA
      have hm1 : 0 ≤ m ∧ m ≤ 1073741824 := by omega
      obtain ⟨hm1, hm2⟩ := hm1
      have hmx : (if k2 < s + l - k1 then s + l - k1 else k2) = m := by
        split <;> omega
      clear hm
      go_enter Try.func43, Try.ntmps43
      go_wp2_with fail
      generalize W.alloc (.cells #[.int .i64 s, .int .i64 l] 42) = W1 at *
      have p0 := HP.out.c0
      have p1 := HP.out.c1
      go_wp2_with fail
      go_quiet (fail)
      have HG2 := hid (grown_trans HG1.out (grown_drewN W1 nq _))
      have HO2 := hid (HO1.out.kept (grown_drewN W1 nq none) (by simp [Value.ownBlock]))
      have q0 : (W1.drewN nq).cell? ⟨W.heap.size, 0, none⟩ = some (.int .i64 s) := p0
      have q1 : (W1.drewN nq).cell? ⟨W.heap.size, 1, none⟩ = some (.int .i64 l) := p1
      have d0 : (W1.drewN nq).cell? ⟨g, i.length * 2, none⟩ = some (.int .i64 k1) := c0
      have d1 : (W1.drewN nq).cell? ⟨g, i.length * 2 + 1, none⟩ = some (.int .i64 k2) := c1
      have e1 : (W1.drewN nq).frozen? ⟨g, i.length * 2 + 1, none⟩ = false := f1
      clear p0 p1 HP HO1 HG1 hs1 c0 c1 f1 HF HC
      generalize W1.drewN nq = W2 at *
      go_wp2_with fail
      have hx1 : (i.length : Int) < (i.length : Int) + 1 := by omega
      have hw1 : IntKind.i64.wrap (s + l) = s + l := IntWalk.i64_in _ (by omega)
      have hw2 := IntWalk.wrap64_in (s + l) (by omega)
      have hw3 : IntKind.i64.wrap (s + l - k1) = s + l - k1 := IntWalk.i64_in _ (by omega)
      have hw4 := IntWalk.wrap64_in (s + l - k1) (by omega)
      go_still_tail 21, (by kernel_rfl)
      repeat still_step
      change wpList _ _ _ _ _ W2.drew
      have HG3 := hid (grown_trans HG2.out (grown_drewN W2 1 _))
      have HO3 := hid HO2.out.drew
      have e2 : W2.drew.frozen? ⟨g, i.length * 2 + 1, none⟩ = false := e1
      have e3 : W2.drew.cell? ⟨g, i.length * 2 + 1, none⟩ = some (.int .i64 k2) := d1
      have HG4 := hid (show W.grownBy W2.drew (Value.slice (some ⟨g, 0, none⟩) (i.length + 1) cap).ownBlock from HG3.out)
      clear q0 q1 d0 d1 e1 HG2 HO2 HG3
      generalize W2.drew = W3 at *
      have HSt := hid (HO3.out.stored (i.length * 2 + 1) (.int .i64 m))
      rw [vr_set i k1 k2 m] at HSt
      go_wp2_with fail
      go_ret
      refine ⟨_, rfl, hid ⟨?_, grown_trans HG4.out HSt.out.2, .inl rfl⟩⟩
      rw [HA.out, ← HM.out]
      simpa using HSt.out.1
    · have HA := hid (addR_off i (k1, k2) (s, l) hon)
      have hon2 : ¬ s ≤ k1 + k2 := hon
      go_enter Try.func43, Try.ntmps43
      go_wp2_with fail
      generalize W.alloc (.cells #[.int .i64 s, .int .i64 l] 42) = W1 at *
      have p0 := HP.out.c0
      have p1 := HP.out.c1
      go_wp2_with fail
      go_quiet (fail)
      have HG2 := hid (grown_trans HG1.out (grown_drewN W1 nq _))
      have HO2 := hid (HO1.out.kept (grown_drewN W1 nq none) (by simp [Value.ownBlock]))
      have q0 : (W1.drewN nq).cell? ⟨W.heap.size, 0, none⟩ = some (.int .i64 s) := p0
      have q1 : (W1.drewN nq).cell? ⟨W.heap.size, 1, none⟩ = some (.int .i64 l) := p1
      have hs2 : W.heap.size < (W1.drewN nq).heap.size := hs1
      clear p0 p1 HP HO1 HG1 hs1 c0 c1 f1 HF HC hg2
      generalize W1.drewN nq = W2 at *
      have HSz := hid hs2
      have HN := hid (World.news_of_block (w := W2.alloc (.cells #[.int .i64 s, .int .i64 l] 42)) (cs := #[.int .i64 s, .int .i64 l]) (t := 42) (fr := (0, 0)) (B := W2.heap.size) (heap_alloc_new _ _))
      go_wp2_with (first | (at_builtin; refine wpList_append_lies _ rfl _ _ 22 rfl base 42 i0 (.agg #[.int .i64 0, .int .i64 0]) 2 16 Try.underlying22 HI.out HZ0.out HZ1.out HZ2.out rfl (by decide) _ _ _ rfl (HO2.out.alloc _) ⟨W2.heap.size, 0, none⟩ 1 1 [.int .i64 s, .int .i64 l] rfl rfl HN.out (by simp [Value.oneCell']) (by omega) (by unfold maxLen; omega) (by omega) (by have := HSz.out; simp; omega) _ rfl ?_; intro g4 c4 w4 hown4 hgrow4 hat4 hlt4))
      go_ret
      refine ⟨_, rfl, hid ⟨?_, grown_trans HG2.out (grown_trans (World.grownBy_alloc W2 _ _) hgrow4), ?_⟩⟩
      · rw [HA.out, vr_append]
        simpa [vr_one] using hown4
      rcases hat4 with h | h
      · exact .inl h.symm
      · refine .inr fun k hk => ?_
        have : g4 = k := by simpa [Value.ownBlock] using hk
        have := HSz.out
        simp at h
        omega
end Go.Proofs.Ytgfdmeaganhpiaa.Old
