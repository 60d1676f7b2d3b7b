/- The normal form of layer 3. No conditions but those of each theorem. -/
import Derived.Test.YtgfdmeaganhpiaaF
import Derived.Lib.SliceRun
namespace Go.Proofs.Ytgfdmeaganhpiaa.Old
open Go.ChangeShapes Go.WideShapes Go.ChangeAt Go.RowKit
set_option linter.unusedVariables false
set_option linter.unusedSimpArgs false

theorem vr_take (rs : List Rn) (j : Nat) (u : Value) (h : (vr rs)[j]? = some u) : u = if j % 2 = 0 then .int .i64 (rs[j / 2]?.getD (0, 0)).1 else .int .i64 (rs[j / 2]?.getD (0, 0)).2 := by
  have hj := (List.getElem?_eq_some_iff.1 h).1
  rw [vr_length] at hj
  have := vr_at rs (j / 2) (by omega)
  rcases Nat.mod_two_eq_zero_or_one j with h0 | h0
  · rw [if_pos h0, ← Option.some.injEq, ← h, ← this.1]
    congr 1; omega
  · rw [if_neg (by omega), ← Option.some.injEq, ← h, ← this.2]
    congr 1; omega
theorem one_vr (rs : List Rn) : ∀ u ∈ vr rs, u.oneCell' = true := by
  intro u hu
  obtain ⟨j, hj⟩ := List.getElem?_of_mem hu
  rw [vr_take rs j u hj]
  split <;> rfl
/-- the cells of ranges that came in, as they are appended -/
theorem rg_news {n₀ : Nat} {w : World} {x : Addr} {len : Nat} {rs : List Rn} (h : Rg n₀ w (some x) len rs) : ∀ j u, (vr rs)[j]? = some u → w.cell? (x.add j) = some u := by
  intro j u hu
  have hj := (List.getElem?_eq_some_iff.1 hu).1
  rw [vr_length, h.1] at hj
  obtain ⟨b, off, e, _, hc⟩ := h.2.2.resolve_left (by omega)
  obtain rfl := Option.some.inj e
  have hc := hc (j / 2) (by omega)
  rw [vr_take rs j u hu]
  have ea : (⟨b, off, none⟩ : Addr).add j = ⟨b, off + j, none⟩ := by
    by_cases e : j = 0
    · subst e; simp [Addr.add]
    · simp [Addr.add, e]
  rw [ea]
  rcases Nat.mod_two_eq_zero_or_one j with h0 | h0
  · rw [if_pos h0, ← hc.1]; congr 2; omega
  · rw [if_neg (by omega), ← hc.2]; congr 2; omega

theorem clone_any (a : Option Addr) (len cap : Nat) (rs : List Rn) (hbig : len ≤ 1000000) (w : World) (hR : Rg w.heap.size w a len rs) :
    Calls Try.prog 44 #[.slice a len cap] w fun e w' => ∃ v', e = .returned v' ∧ Hid (w'.ownsRow w.heap.size 42 2 v' len (vr rs) ∧ Below w.heap.size w w') := by
  have hl := hR.1
  have q22 : ∀ (w : World) (a : Option Addr) (n c n' c' : Nat), (binOp .eql 22 (.slice a n c) (.slice none n' c')).run Try.prog w = .ok (.bool a.isNone) w := fun w a n c n' c' => Lib.run_eql_slice_nil w _ _ a n c n' c' Try.underlying22
  cases a with
  | none =>
    have h0 : len = 0 := by
      rcases hR.2.2 with h | ⟨b, off, e, _⟩
      · exact h
      · cases e
    subst h0
    obtain rfl := List.length_eq_zero_iff.1 hl
    go_enter Try.func44, Try.ntmps44
    go_wp2_with fail
    go_ret
    exact ⟨_, rfl, hid ⟨World.ownsRow_nil _ _ _ _, Below.refl _ _⟩⟩
  | some x =>
    obtain ⟨i0, hi, hz0, hz1, hz2⟩ := info_parts Try.info42
    have HI := hid hi; have HZ0 := hid hz0; have HZ1 := hid hz1; have HZ2 := hid hz2
    clear hi hz0 hz1 hz2
    have HN := hid (rg_news hR)
    have HLn := hid (show (vr rs).length = len * 2 by rw [vr_length, hl])
    have HB := hid ((Below.refl w.heap.size w).alloc (Nat.le_refl _) (.cells #[] 42))
    have HR1 := hid (hR.below HB.out)
    have HO := hid (World.ownsRow_made (base := w.heap.size) (e := 42) (size := 2) w #[] 0 (Nat.le_refl _) (by unfold maxLen; omega) rfl)
    have hs1 : (w.alloc (.cells #[] 42)).heap.size = w.heap.size + 1 := by simp
    clear hR hl
    go_enter Try.func44, Try.ntmps44
    go_wp2_with (first | (at_builtin; refine wpList_append_own _ rfl _ _ 22 rfl w.heap.size 42 i0 (.agg #[.int .i64 0, .int .i64 0]) 2 16 Try.underlying22 HI.out HZ0.out HZ1.out HZ2.out rfl (by decide) (.slice (some ⟨w.heap.size, 0, none⟩) 0 0) 0 [] rfl HO.out x len cap (vr rs) rfl HLn.out (rg_news HR1.out) (one_vr rs) (by unfold maxLen; omega) (by omega) (by omega) ?_; intro v4 w4 hown4 hgrow4 _))
    go_ret
    refine ⟨v4, rfl, hid ⟨by simpa using hown4, HB.out.grown hgrow4 (by omega) (fun k e => ?_)⟩⟩
    have : w.heap.size = k := by simpa [Value.ownBlock] using e
    omega

theorem own_rg {w : World} {base : Nat} {v : Value} {n : Nat} {rs : List Rn} (h : w.ownsRow base 42 2 v n (vr rs)) (hv : ∀ r ∈ rs, I64 r.1 ∧ I64 r.2) : ∃ a cap, v = .slice a n cap ∧ Rg w.heap.size w a n rs := by
  obtain ⟨a, cap, rfl⟩ := own_slice h
  have hlen := h.1
  rw [vr_length] at hlen
  refine ⟨a, cap, rfl, by omega, hv, ?_⟩
  by_cases h0 : n = 0
  · exact .inl h0
  · obtain ⟨g, rfl, _, hg, hc, _⟩ := own_cells h (by omega)
    refine .inr ⟨g, 0, rfl, hg, fun j hj => ?_⟩
    rw [Nat.zero_add]
    exact hc j hj

theorem ins_none (p : Option Addr) (cap : Nat) (fv : Value) (w : World) : Calls Try.prog 52 #[.slice p 0 cap, .int .i64 0, .int .i64 0, fv] w fun e w' => e = .returned (.tuple #[]) ∧ w' = w := by
  go_enter Try.func52, Try.ntmps52
  go_wp2
  refine wp_loop_rounds 1 ?_
  rw [rounds_succ]
  go_wp2
  go_end0
  exact ⟨rfl, rfl⟩
theorem pdq_none (p : Option Addr) (cap : Nat) (lim : Int) (fv : Value) (w : World) : Calls Try.prog 49 #[.slice p 0 cap, .int .i64 0, .int .i64 0, .int .i64 lim, fv] w fun e w' => e = .returned (.tuple #[]) ∧ w' = w := by
  go_enter Try.func49, Try.ntmps49
  go_wp2
  refine wp_loop_rounds 1 ?_
  rw [rounds_succ]
  go_wp2_with (go_at_call 52; refine (ins_none _ _ _ _).mono ?_; rintro e w' ⟨rfl, rfl⟩)
  (try simp only [Exit.inBlock, Exit.then]); refine bodyPost_ret (results_none rfl _ _ _) rfl ?_
  exact ⟨rfl, rfl⟩
theorem sort_none (p : Option Addr) (cap : Nat) (fv : Value) (w : World) : Calls Try.prog 45 #[.slice p 0 cap, fv] w fun e w' => e = .returned (.tuple #[]) ∧ w' = w := by
  have hl : ∀ W, Calls Try.prog 50 #[.int .u64 0] W fun e w' => e = .returned (.int .i64 (Lib.bitLen 0 : Nat)) ∧ w' = W := fun W => Any.bits_Len Try.bitsLen 0 W (by omega) (by omega)
  go_enter Try.func45, Try.ntmps45
  go_wp2_with (first | (go_at_call 50; refine (hl _).mono ?_; rintro e w' ⟨rfl, rfl⟩) | (go_at_call 49; refine (pdq_none _ _ _ _ _).mono ?_; rintro e w' ⟨rfl, rfl⟩))
  go_end0
  exact ⟨rfl, rfl⟩

/-- the sort of a row of the call's own, nil or not -/
theorem sort_own (base : Nat) (a : Option Addr) (len cap : Nat) (rs : List Rn) (hbig : len ≤ 1000000) (w : World) (h : w.ownsRow base 42 2 (.slice a len cap) len (vr rs)) :
    Calls Try.prog 45 #[.slice a len cap, .func (.func 46) #[] #[]] w fun e w' => e = .returned (.tuple #[]) ∧ ∃ ds : List Rn, ds.Perm rs ∧ ds.Pairwise (fun x y => x.1 ≤ y.1) ∧ Hid (w.grownBy w' (Value.slice a len cap).ownBlock ∧ (len = 0 ∨ ∃ g, a = some ⟨g, 0, none⟩ ∧ base ≤ g ∧ g < w.heap.size ∧ ∀ j, j < len → w'.cell? ⟨g, j * 2, none⟩ = some (.int .i64 (ds[j]?.getD (0, 0)).1) ∧ w'.cell? ⟨g, j * 2 + 1, none⟩ = some (.int .i64 (ds[j]?.getD (0, 0)).2))) := by
  have hlen : rs.length = len := by have := h.1; rw [vr_length] at this; omega
  cases a with
  | none =>
    have h0 : len = 0 := by
      rcases h.2 with ⟨_, h0⟩ | ⟨g, c, cur, hv, _⟩
      · exact h0
      · simp at hv
    subst h0
    obtain rfl := List.length_eq_zero_iff.1 hlen
    refine (sort_none none cap _ w).mono ?_
    rintro e w' ⟨rfl, rfl⟩
    exact ⟨rfl, [], List.Perm.refl _, List.Pairwise.nil, hid ⟨⟨rfl, rfl, rfl, Nat.le_refl _, fun _ _ _ => rfl⟩, .inl rfl⟩⟩
  | some x =>
    obtain ⟨g, hx, hb⟩ : ∃ g, x = ⟨g, 0, none⟩ ∧ base ≤ g := by
      rcases h.2 with ⟨hv, _⟩ | ⟨g, c, cur, hv, hb, _⟩
      · simp at hv
      · simp at hv
        exact ⟨g, hv.1, hb⟩
    subst hx
    subst hlen
    refine (sort_any base g cap rs hbig w h).mono ?_
    rintro e w' ⟨rfl, ds, h1, h2, h3⟩
    exact ⟨rfl, ds, h1, h2, hid ⟨h3.out.1, .inr ⟨g, rfl, hb, own_lt h g rfl, h3.out.2⟩⟩⟩

theorem nrm_ok (ds : List Rn) (hv : ∀ r ∈ ds, Vld r) (hs : ds.Pairwise (fun x y => x.1 ≤ y.1)) (k : Nat) (hk : k ≤ ds.length) :
    NF (nrm [] (ds.take k)) ∧ (∀ n, Mem (nrm [] (ds.take k)) n ↔ Mem (ds.take k) n) ∧ (∀ r ∈ nrm [] (ds.take k), ∀ x ∈ ds.drop k, r.1 ≤ x.1) ∧ (nrm [] (ds.take k)).length ≤ k := by
  induction k with
  | zero => exact ⟨nf_nil, fun n => Iff.rfl, fun r hr => by simp [nrm] at hr, Nat.le_refl _⟩
  | succ k ih =>
    obtain ⟨h1, h2, h3, h4⟩ := ih (by omega)
    have hk' : k < ds.length := by omega
    have e : ds.take (k + 1) = ds.take k ++ [ds[k]] := by rw [List.take_succ_eq_append_getElem hk']
    have ed : ds.drop k = ds[k] :: ds.drop (k + 1) := List.drop_eq_getElem_cons hk'
    have hv := hv ds[k] (List.getElem_mem hk')
    obtain ⟨v1, v2, v3⟩ := hv
    have hnext : ∀ x ∈ ds.drop (k + 1), ds[k].1 ≤ x.1 := fun x hx => by
      have := hs.sublist (List.drop_sublist k ds)
      rw [ed, List.pairwise_cons] at this
      exact this.1 x hx
    rw [e, nrm_snoc]
    by_cases h0 : 0 < ds[k].2
    · rw [if_pos h0]
      have hst : ∀ r ∈ nrm [] (ds.take k), r.1 ≤ ds[k].1 := fun r hr => h3 r hr _ (by rw [ed]; exact List.mem_cons_self ..)
      obtain ⟨a1, a2, a3, _⟩ := add_ok _ ds[k] h1 hst v1 (by omega) v3
      refine ⟨a1, fun n => ?_, fun r hr x hx => Int.le_trans (a3 r hr) (hnext x hx), ?_⟩
      · rw [a2, mem_append, mem_one, h2]
      · have : (addR (nrm [] (ds.take k)) ds[k]).length ≤ (nrm [] (ds.take k)).length + 1 := by
          rcases nil_or (nrm [] (ds.take k)) with h | ⟨i, q, h⟩
          · rw [h, addR_nil]; simp
          · rw [h]
            by_cases hh : ds[k].1 ≤ q.1 + q.2
            · rw [addR_on _ _ _ hh]; simp
            · rw [addR_off _ _ _ hh]; simp
        omega
    · rw [if_neg h0]
      refine ⟨h1, fun n => ?_, fun r hr x hx => h3 r hr x (by rw [ed]; exact List.mem_cons_of_mem _ hx), by omega⟩
      rw [mem_append, mem_one, h2]
      constructor
      · exact .inl
      · rintro (h | h)
        · exact h
        · omega
theorem own_mono {w : World} {base base' e size n : Nat} {v : Value} {xs : List Value} (hb : base' ≤ base) (h : w.ownsRow base e size v n xs) : w.ownsRow base' e size v n xs :=
  ⟨h.1, h.2.imp id fun ⟨g, cap, cur, h1, h2, h3⟩ => ⟨g, cap, cur, h1, Nat.le_trans hb h2, h3⟩⟩
set_option maxHeartbeats 2000000 in
theorem normal_any (a : Option Addr) (len cap : Nat) (rs : List Rn) (hbig : len ≤ 1000000) (hv : ∀ r ∈ rs, Vld r) (w : World) (hR : Rg w.heap.size w a len rs) :
    Calls Try.prog 38 #[.slice a len cap] w fun e w' => ∃ v', e = .returned v' ∧ ∃ out, NF out ∧ out.length ≤ len ∧ (∀ n, Mem out n ↔ Mem rs n) ∧ Hid (w'.ownsRow w.heap.size 42 2 v' out.length (vr out) ∧ Below w.heap.size w w') := by
  have HR := hid hR
  have HV := hid hv
  have hlr := hR.1
  clear hR hv
  go_enter Try.func38, Try.ntmps38
  go_wp2_with fail
  refine (clone_any a len cap rs hbig w HR.out).mono ?_
  rintro e w1 ⟨v1, rfl, H1⟩
  obtain ⟨a1, c1, rfl⟩ := own_slice H1.out.1
  have HS := hid (sort_own w.heap.size a1 len c1 rs hbig w1 H1.out.1)
  go_wp2_with fail
  refine HS.out.mono ?_
  rintro e w2 ⟨rfl, ds, hperm, hsort, H2⟩
  have HB2 := hid (H1.out.2.grown H2.out.1 H1.out.2.size (fun k e => own_base H1.out.1 k e))
  have hdl : ds.length = len := by rw [hperm.length_eq]; exact hlr
  have HDV := hid (show ∀ r ∈ ds, Vld r from fun r hr => HV.out r (hperm.mem_iff.1 hr))
  have HNr := hid (nrm_ok ds HDV.out hsort)
  have HC := hid (show len = 0 ∨ ∃ g, a1 = some ⟨g, 0, none⟩ ∧ g < w2.heap.size ∧ ∀ j, j < len → w2.cell? ⟨g, j * 2, none⟩ = some (.int .i64 (ds[j]?.getD (0, 0)).1) ∧ w2.cell? ⟨g, j * 2 + 1, none⟩ = some (.int .i64 (ds[j]?.getD (0, 0)).2) from
    H2.out.2.imp id fun ⟨g, h1, h2, h3, h4⟩ => ⟨g, h1, Nat.lt_of_lt_of_le h3 H2.out.1.size, h4⟩)
  have HPm := hid (show ∀ n, Mem ds n ↔ Mem rs n from fun n => ⟨fun ⟨r, hr, h⟩ => ⟨r, hperm.mem_iff.1 hr, h⟩, fun ⟨r, hr, h⟩ => ⟨r, hperm.mem_iff.2 hr, h⟩⟩)
  clear HS H1 H2 HR HV hperm hsort hlr
  go_wp2_with fail
  go_loopw [4, 13] (fun ov iv wr => ∃ k : Nat, k ≤ len ∧ iv = .int .i64 (k : Int) ∧ Hid (wr.ownsRow w2.heap.size 42 2 ov (nrm [] (ds.take k)).length (vr (nrm [] (ds.take k)))) ∧ Hid (Below w2.heap.size w2 wr ∧ w2.heap.size ≤ wr.heap.size)) (fun _ iv _ => len - (intOf iv).toNat)
  case atStart => exact ⟨0, by omega, rfl, hid (World.ownsRow_nil _ _ _ _), hid ⟨Below.refl _ _, Nat.le_refl _⟩⟩
  case round =>
    obtain ⟨k, hk, rfl, HO, HB⟩ := hrel
    by_cases hlt : k < len
    · obtain ⟨g, rfl, hg, hall⟩ := HC.out.resolve_left (by omega)
      have c0 := (HB.out.1.cell (p := ⟨g, k * 2, none⟩) hg).trans (hall k hlt).1
      have c1' := (HB.out.1.cell (p := ⟨g, k * 2 + 1, none⟩) hg).trans (hall k hlt).2
      clear hall
      have hkd : k < ds.length := by omega
      have hv := HDV.out _ (at_mem ds k hkd)
      have htk : ds.take (k + 1) = ds.take k ++ [ds[k]?.getD (0, 0)] := by
        rw [List.take_succ_eq_append_getElem hkd, List.getElem?_eq_getElem hkd]; rfl
      have HSn := hid (show nrm [] (ds.take (k + 1)) = if 0 < (ds[k]?.getD (0, 0)).2 then addR (nrm [] (ds.take k)) (ds[k]?.getD (0, 0)) else nrm [] (ds.take k) by rw [htk, nrm_snoc])
      have HN1 := hid (HNr.out k (by omega))
      clear htk
      obtain ⟨⟨s, l⟩, hr⟩ : ∃ r : Rn, r = ds[k]?.getD (0, 0) := ⟨_, rfl⟩
      rw [← hr] at c0 c1' hv HSn
      clear hr
      simp only at c0 c1' HSn
      obtain ⟨v1, v2, v3⟩ := hv
      simp only at v1 v2 v3
      have h3 : (k : Int) < (len : Int) := by omega
      have HA := hid (show Below w2.heap.size w2 (wr.alloc (.cells #[.int .i64 s, .int .i64 l] 42)) from HB.out.1.alloc HB.out.2 _)
      have HP := hid (Pr.new wr 42 (.int .i64 s) (.int .i64 l))
      have hS := hid (show w2.heap.size ≤ (wr.alloc (.cells #[.int .i64 s, .int .i64 l] 42)).heap.size by have := HB.out.2; simp; omega)
      have HOA := hid (HO.out.alloc (.cells #[.int .i64 s, .int .i64 l] 42))
      by_cases hpos : 0 < l
      · have HAdd := hid (add_any w2.heap.size _ _ (nrm [] (ds.take k)) s l v1 v2 v3 (fun r hr => by have := HN1.out.1.1 r hr; omega) (by have := HN1.out.2.2.2; omega) _ hS.out HOA.out)
        rw [if_pos hpos] at HSn
        go_wp2_with fail
        generalize wr.alloc (.cells #[.int .i64 s, .int .i64 l] 42) = w3 at *
        have d0 := HP.out.c0
        have d1 := HP.out.c1
        go_wp2_with fail
        refine HAdd.out.mono ?_
        rintro e w4 ⟨v4, rfl, H4⟩
        rw [← HSn.out] at H4
        have HB4 := hid (HA.out.grown H4.out.2.1 hS.out (fun k e => own_base HOA.out k e))
        have hS4 := hid (Nat.le_trans hS.out H4.out.2.1.size)
        have HO4 := hid H4.out.1
        clear HAdd H4 d0 d1 HP
        go_wp2_with fail
        go_roundw
        case rel => exact ⟨k + 1, by omega, by go_num, HO4, hid ⟨HB4.out, hS4.out⟩⟩
        case measure => simp [intOf]; omega
      · rw [if_neg hpos] at HSn
        rw [← HSn.out] at HOA
        go_wp2_with fail
        generalize wr.alloc (.cells #[.int .i64 s, .int .i64 l] 42) = w3 at *
        have d0 := HP.out.c0
        have d1 := HP.out.c1
        go_wp2_with fail
        go_roundw
        case rel => exact ⟨k + 1, by omega, by go_num, HOA, hid ⟨HA.out, hS.out⟩⟩
        case measure => simp [intOf]; omega
    · obtain rfl : k = len := by omega
      have h3 : ¬ (k : Int) < (k : Int) := by omega
      have HN1 := hid (HNr.out k (by omega))
      have htk : ds.take k = ds := by rw [← hdl]; simp
      rw [htk] at HN1 HO
      go_wp2
      go_ret
      exact ⟨_, rfl, _, HN1.out.1, HN1.out.2.2.2, fun n => (HN1.out.2.1 n).trans (HPm.out n), hid ⟨own_mono (by have := HB2.out.size; omega) HO.out, bt HB2.out HB.out.1⟩⟩
end Go.Proofs.Ytgfdmeaganhpiaa.Old
