/- The program's settle, Flush. No conditions but those of each theorem. -/
import Derived.Test.YtfaeieeokelokaaI
import Derived.Laws.Tables
namespace Go.Proofs.Ytfaeieeokelokaa
open Go.ChangeShapes Go.WideShapes Go.ChangeAt Go.RowKit
set_option linter.unusedVariables false
set_option linter.unusedSimpArgs false
attribute [local go_sem] Oper.semAt_some putAll
theorem wpList_append_run {P : Program} (w : World) {ops : Array Oper} {rest : List Oper} {o : Oper} {a : Act} {Q : Exit → Act → World → Prop} (hg : o.guard = none) (s x : Operand) (t : TypeId)
    (ho : o.op = .call { callee := .builtin .append, args := #[s, x], argTypes := #[t, t] }) (v vx v' : Value) (w' : World) (hs : a.eval s = v) (hx : a.eval x = vx)
    (hrun : (Builtin.append_ #[t, t] o.type #[v, vx]).run P w = .ok v' w') (hK : wpList P ops Q rest (a.put o.dst v') w') : wpList P ops Q (o :: rest) a w := by
  refine wpList_plain hg fun K' hK' => ?_
  unfold Oper.wp
  simp [execOp, ho, resolve, invoke, builtin, hs, hx, hrun, Result.andThen, Oper.upon]
  exact hK' _ _ hK
/-- the writes to other disks -/
def stF (F : List Wr) (d : Nat) : List Wr := F.filter fun w => decide (w.d ≠ d)
/-- what becomes durable of the writes to a disk, if they survive -/
def stU (d : Nat) (b : Bool) (U : List Un) (F : List Wr) : List Un := F.foldl (fun U w => if w.d = d ∧ b = true then U.set d { gu U d with dur := (gu U d).dur.set w.at' w.v } else U) U
theorem stF_take {F : List Wr} {k : Nat} (d : Nat) (h : k < F.length) : stF (F.take (k + 1)) d = if (gf F k).d = d then stF (F.take k) d else stF (F.take k) d ++ [gf F k] := by
  unfold stF gf
  rw [List.take_succ_eq_append_getElem h, List.filter_append, List.getElem?_eq_getElem h]
  by_cases e : F[k].d = d
  · simp [e]
  · simp [e]
theorem stU_take {F : List Wr} {k : Nat} (d : Nat) (b : Bool) (U : List Un) (h : k < F.length) : stU d b U (F.take (k + 1)) = if (gf F k).d = d ∧ b = true then (stU d b U (F.take k)).set d { gu (stU d b U (F.take k)) d with dur := (gu (stU d b U (F.take k)) d).dur.set (gf F k).at' (gf F k).v } else stU d b U (F.take k) := by
  unfold stU gf
  rw [List.take_succ_eq_append_getElem h, List.foldl_append, List.getElem?_eq_getElem h]
  rfl
theorem stF_len (F : List Wr) (d : Nat) : (stF F d).length ≤ F.length := List.length_filter_le _ _
/-- the row in which the writes that stay are moved to the head -/
def ov (G F : List Wr) : List Wr := G ++ F.drop G.length
theorem ov_len {G F : List Wr} (h : G.length ≤ F.length) : (ov G F).length = F.length := by unfold ov; rw [List.length_append, List.length_drop]; omega
theorem ov_at {G F : List Wr} {k : Nat} (h : G.length ≤ k) : gf (ov G F) k = gf F k := by
  unfold ov gf
  rw [List.getElem?_append_right h, List.getElem?_drop, show G.length + (k - G.length) = k by omega]
theorem own_fewer {w : World} {base : Nat} {e : TypeId} {size : Nat} {a : Option Addr} {n m c : Nat} {xs : List Value} (h : w.ownsRow base e size (.slice a n c) n xs) (hm : m ≤ n) : w.ownsRow base e size (.slice a m c) m (xs.take (m * size)) := by
  have hms : m * size ≤ n * size := Nat.mul_le_mul_right size hm
  refine ⟨by rw [List.length_take, h.1]; omega, ?_⟩
  rcases h.2 with ⟨h1, h2⟩ | ⟨g, cap, cur, h1, hb, hg, hnc, hcm, hcs, htake⟩
  · simp only [Value.slice.injEq] at h1
    left
    obtain ⟨h3, h4, h5⟩ := h1
    subst h3 h5
    exact ⟨by rw [show m = 0 by omega], by omega⟩
  · simp only [Value.slice.injEq] at h1
    obtain ⟨h3, h4, h5⟩ := h1
    right
    refine ⟨g, cap, cur, by rw [h3, h5], hb, hg, by omega, hcm, hcs, ?_⟩
    rw [← htake, List.take_take, Nat.min_eq_left hms]
/-- an append into the room of a row: the row's whole content -/
theorem own_room {w : World} {e t : TypeId} {i : TypeInfo} {size : Nat} (ht : Try.prog.underlying t = some (.slice e)) (hi : Try.prog.info? e = some i) (hsize : i.size = size) (hsz : 0 < size)
    {g n c l : Nat} {f : Nat → Nat → Value} (h : w.ownsRow 0 e size (.slice (some ⟨g, 0, none⟩) n c) n (ck size n f)) (hl : l < n) (a : Addr) (cc : Nat) (x : Nat → Value) (h1 : ∀ j, (x j).oneCell' = true) (hnews : ∀ j, j < size → w.cell? (a.add j) = some (x j)) (ty : TypeId) :
    ∃ w', (Builtin.append_ #[t, t] ty #[.slice (some ⟨g, 0, none⟩) l c, .slice (some a) 1 cc]).run Try.prog w = .ok (.slice (some ⟨g, 0, none⟩) (l + 1) c) w' ∧ w'.ownsRow 0 e size (.slice (some ⟨g, 0, none⟩) n c) n (ck size n fun p q => if p = l then x q else f p q) ∧ Gr [g] w w' := by
  rcases h.2 with ⟨h2, _⟩ | ⟨g', cap, cur, h2, hb, hg, hnc, hcm, hcs, htake⟩
  · simp at h2
  · simp only [Value.slice.injEq, Option.some.injEq, Addr.mk.injEq, and_true, true_and] at h2
    obtain ⟨rfl, rfl⟩ := h2
    subst hsize
    have hls : l * i.size + i.size ≤ n * i.size := by have := Nat.mul_le_mul_right i.size (show l + 1 ≤ n from hl); rw [Nat.add_mul, Nat.one_mul] at this; exact this
    have hns : n * i.size ≤ c * i.size := Nat.mul_le_mul_right i.size hnc
    have hnl : ((List.range i.size).map x).length = 1 * i.size := by simp
    have hrun := run_append_room (P := Try.prog) w t ty e i ht hi g l c cur hg a 1 cc ((List.range i.size).map x) hnl (fun j u hu => by
        have hj : j < i.size := by
          have := (List.getElem?_eq_some_iff.1 hu).1
          simpa using this
        rw [List.getElem?_map, List.getElem?_range hj] at hu
        simp at hu
        rw [← hu]; exact hnews j hj) (fun u hu => by obtain ⟨j, _, rfl⟩ := List.mem_map.1 hu; exact h1 j) (by omega) (by rw [hnl]; omega)
    refine ⟨_, hrun, ⟨ck_len _ _ _, .inr ⟨g, c, _, rfl, hb, setRow_heap _ _ _ _ _ _ hg, hnc, hcm, ?_, ?_⟩⟩, ?_⟩
    · simp; omega
    · apply List.ext_getElem?
      intro j
      have hcl : (ck i.size n f)[j]? = if j < n * i.size then cur.toList[j]? else none := by rw [← htake, List.getElem?_take]
      rw [ck_get] at hcl
      rw [List.getElem?_take, ck_get]
      by_cases hj : j < n * i.size
      · rw [if_pos hj, if_pos hj]
        rw [if_pos hj, if_pos hj] at hcl
        simp only [List.toList_toArray]
        have hlt : (cur.toList.take (l * i.size)).length = l * i.size := by rw [List.length_take, Array.length_toList]; omega
        by_cases h3 : j < l * i.size
        · rw [List.append_assoc, List.getElem?_append_left (by omega), List.getElem?_take, if_pos h3, ← hcl, if_neg]
          have := Nat.div_lt_of_lt_mul (show j < i.size * l by rw [Nat.mul_comm]; exact h3)
          omega
        · by_cases h4 : j < l * i.size + i.size
          · have ed : j / i.size = l := by
              rw [show j = l * i.size + (j - l * i.size) by omega]; exact div_at (by omega)
            have em : j % i.size = j - l * i.size := by
              conv => lhs; rw [show j = l * i.size + (j - l * i.size) by omega]
              exact mod_at (by omega)
            rw [List.append_assoc, List.getElem?_append_right (by omega), hlt, List.getElem?_append_left (by simp; omega), List.getElem?_map, List.getElem?_range (by omega), if_pos ed, em]
            rfl
          · rw [List.append_assoc, List.getElem?_append_right (by omega), hlt, List.getElem?_append_right (by simp; omega), List.getElem?_drop, show l * i.size + ((List.range i.size).map x).length + (j - l * i.size - ((List.range i.size).map x).length) = j by simp; omega, ← hcl, if_neg]
            · intro ed
              have := Nat.div_add_mod j i.size
              rw [ed] at this
              have h5 := Nat.mod_lt j hsz
              rw [Nat.mul_comm] at this
              omega
      · rw [if_neg hj, if_neg hj]
    · exact ⟨rfl, rfl, rfl, by simp [World.setRow], fun k hk hn => setRow_other _ _ _ _ (by intro e; apply hn; rw [e]; simp)⟩
theorem gf_mem {F : List Wr} {k : Nat} (h : k < F.length) : gf F k ∈ F := by
  unfold gf; rw [List.getElem?_eq_getElem h]; exact List.getElem_mem h
theorem fi_of {U : List Un} {F : List Wr} (h : ∀ i, i < F.length → (gf F i).d < U.length ∧ (gf F i).at' < (gu U (gf F i).d).now.length) : ∀ x ∈ F, x.d < U.length ∧ x.at' < (gu U x.d).now.length := by
  intro x hx
  obtain ⟨i, hi, rfl⟩ := List.getElem_of_mem hx
  have := h i hi
  unfold gf at this
  rw [List.getElem?_eq_getElem hi] at this
  exact this
theorem stU_keep (d : Nat) (b : Bool) (U : List Un) : ∀ F : List Wr, (stU d b U F).length = U.length ∧ ∀ i, (gu (stU d b U F) i).now = (gu U i).now ∧ (gu (stU d b U F) i).mis = (gu U i).mis := by
  have step : ∀ (F : List Wr) (V : List Un), V.length = U.length → (∀ i, (gu V i).now = (gu U i).now ∧ (gu V i).mis = (gu U i).mis) → (stU d b V F).length = U.length ∧ ∀ i, (gu (stU d b V F) i).now = (gu U i).now ∧ (gu (stU d b V F) i).mis = (gu U i).mis := by
    intro F
    induction F with
    | nil => intro V h1 h2; exact ⟨h1, h2⟩
    | cons w F ih =>
      intro V h1 h2
      show (stU d b (if w.d = d ∧ b = true then V.set d { gu V d with dur := (gu V d).dur.set w.at' w.v } else V) F).length = _ ∧ _
      refine ih _ ?_ ?_
      · split
        · rw [List.length_set]; exact h1
        · exact h1
      · intro i
        split
        · rw [gu_set]
          split
          · rename_i e; rw [e.1]; exact h2 d
          · exact h2 i
        · exact h2 i
  exact fun F => step F U rfl (fun i => ⟨rfl, rfl⟩)
/-- a write that stays is moved to the head -/
theorem DA.room {w : World} {A : Nat} {c : Co} {k : Dk} {G F : List Wr} {x : Wr} {fb : Nat} (h : DA w A c { k with F := ov G F }) (hfa : c.fa = some ⟨fb, 0, none⟩) (hl : G.length < F.length) (hx : x.d < k.U.length ∧ x.at' < (gu k.U x.d).now.length)
    (a : Addr) (hnews : w.cell? (a.add 0) = some (.int .i64 (x.d : Int)) ∧ w.cell? (a.add 1) = some (.int .i64 (x.at' : Int)) ∧ w.cell? (a.add 2) = some (.int .u64 x.v)) (ty : TypeId) :
    ∃ w', (Builtin.append_ #[76, 76] ty #[.slice (some ⟨fb, 0, none⟩) G.length c.fc, .slice (some a) 1 1]).run Try.prog w = .ok (.slice (some ⟨fb, 0, none⟩) (G.length + 1) c.fc) w' ∧ DA w' A c { k with F := ov (G ++ [x]) F } ∧ Gr [fb] w w' := by
  obtain ⟨i0, hi, hz0, hz1, hz2⟩ := info_parts Try.info89
  have hrf := h.rf
  have hol := ov_len (G := G) (F := F) (by omega)
  have hol2 := ov_len (G := G ++ [x]) (F := F) (by rw [List.length_append]; simp; omega)
  have hrf : w.ownsRow 0 89 3 (.slice c.fa (ov G F).length c.fc) (ov G F).length (ck 3 (ov G F).length (ff (ov G F))) := h.rf
  rw [hol, hfa] at hrf
  obtain ⟨w', hrun, hr, hg⟩ := own_room Try.underlying76 hi hz1 (by omega) hrf hl a 1 (fun j => if j = 0 then .int .i64 (x.d : Int) else if j = 1 then .int .i64 (x.at' : Int) else .int .u64 x.v) (fun j => by by_cases e0 : j = 0 <;> by_cases e1 : j = 1 <;> simp [e0, e1, Value.oneCell']) (fun j hj => by
    obtain rfl | rfl | rfl : j = 0 ∨ j = 1 ∨ j = 2 := by omega
    · exact hnews.1
    · exact hnews.2.1
    · exact hnews.2.2) ty
  refine ⟨w', hrun, ?_, hg⟩
  have hfi := fi_of h.fi
  have h0 := h.setF (W' := w') c.fa c.fc (ov (G ++ [x]) F) (hg.mono (fun y hy => by obtain rfl := List.mem_singleton.1 hy; rw [hfa]; simp [oblk])) ?_ ?_ (fun g hgg => .inl hgg) (fun i hi => ?_)
  · exact h0
  · have hb : w.ownsRow 0 78 6 (.slice (some ⟨A, 0, none⟩) 1 1) 1 [.slice c.ua k.U.length c.uc, .map (some c.mb), .slice c.fa (ov G F).length c.fc, .int .i64 k.fuse, .bool k.down, .int .i64 k.wr] := h.blk
    rw [hol] at hb
    rw [hol2]
    exact own_gr hb hg (fun g hgg => by cases hgg; rw [List.mem_singleton]; intro e; apply h.sep.af; rw [hfa]; simp [oblk]; exact e)
  · rw [hol2, hfa]
    rw [ck_congr (g := fun p q => if p = G.length then (fun j => if j = 0 then Value.int .i64 (x.d : Int) else if j = 1 then .int .i64 (x.at' : Int) else .int .u64 x.v) q else ff (ov G F) p q)]
    · exact hr
    · intro p q hp hq
      have e : gf (ov (G ++ [x]) F) p = if p = G.length then x else gf (ov G F) p := by
        unfold ov gf
        by_cases h1 : p < G.length
        · rw [if_neg (by omega), List.append_assoc, List.getElem?_append_left h1, List.getElem?_append_left h1]
        · by_cases h2 : p = G.length
          · rw [if_pos h2, h2, List.append_assoc, List.getElem?_append_right (by omega)]; simp
          · have hgl : (G ++ [x]).length = G.length + 1 := by simp
            rw [if_neg h2, List.getElem?_append_right (show (G ++ [x]).length ≤ p by omega), List.getElem?_append_right (show G.length ≤ p by omega), List.getElem?_drop, List.getElem?_drop, hgl, show G.length + 1 + (p - (G.length + 1)) = G.length + (p - G.length) by omega]
      unfold ff
      rw [e]
      by_cases h2 : p = G.length
      · rw [if_pos h2, if_pos h2]
      · rw [if_neg h2, if_neg h2]
  · have hm := gf_mem hi
    rcases List.mem_append.1 hm with hm | hm
    · rcases List.mem_append.1 hm with hm | hm
      · exact hfi _ (List.mem_append.2 (.inl hm))
      · rw [List.mem_singleton.1 hm]; exact hx
    · refine hfi _ (List.mem_append.2 (.inr ?_))
      rw [List.length_append] at hm
      rw [List.mem_iff_getElem?] at hm ⊢
      obtain ⟨j, hj⟩ := hm
      rw [List.getElem?_drop] at hj
      exact ⟨j + 1, by rw [List.getElem?_drop, ← hj, show G.length + (j + 1) = G.length + [x].length + j by simp; omega]⟩
set_option maxRecDepth 100000 in
set_option maxHeartbeats 8000000 in
theorem settle_ok {W : World} {A : Nat} {c : Co} {k : Dk} (h : DA W A c k) (d : Nat) (hd : d < k.U.length) (hF : k.F.length ≤ 2 ^ 32) (sf : Nat) (b : Bool) (hent : ∀ args w, (callFunc sf args).run Try.prog w = .ok (.enter sf args) w)
    (hsf : ∀ (j : Int) (w : World), Calls Try.prog sf #[.int .i64 j] w fun e w' => e = .returned (.bool b) ∧ w' = w) :
    Calls Try.prog 41 #[.pointer (some ⟨A, 0, none⟩), .int .i64 (d : Int), .func (.func sf) #[] #[]] W fun e W' => e = .returned (.tuple #[]) ∧ Hid (DA W' A c { k with U := stU d b k.U k.F, F := stF k.F d } ∧ Gr (fp A c) W W') := by
  have H := hid h
  have HLt := hid h.fp_lt
  have HSF := hid hsf
  have hb8 := h.b8
  have c2 := h.c2
  have hcap := own_cap h.rf
  unfold maxLen at hcap
  have hmx : Try.prog.follows .mixedOrders = true := by kernel_rfl
  have HFL := hid hF
  have HEN := hid hent
  clear h hsf hent
  go_enter Try.func41, Try.ntmps41
  go_wp2_with fail
  clear c2
  go_loopw [6, 19] (fun lv iv wr => ∃ j : Nat, j ≤ k.F.length ∧ lv = .slice c.fa (stF (k.F.take j) d).length c.fc ∧ iv = .int .i64 (j : Int) ∧ Hid (DA wr A c { k with U := stU d b k.U (k.F.take j), F := ov (stF (k.F.take j) d) k.F }) ∧ Hid (Gr (fp A c) W wr)) (fun _ iv _ => k.F.length - (intOf iv).toNat)
  case atStart =>
    exact ⟨0, by omega, by simp [stF], rfl, hid (by simpa [stU, stF, ov] using H.out), hid (Gr.refl _ _)⟩
  case round =>
    obtain ⟨j, hj, rfl, rfl, HDj, HGj⟩ := hrel
    have hl : (stF (k.F.take j) d).length ≤ j := by have := stF_len (k.F.take j) d; rw [List.length_take] at this; omega
    have hol := ov_len (G := stF (k.F.take j) d) (F := k.F) (by omega)
    by_cases hlt : j < k.F.length
    · have hlt' : (j : Int) < (k.F.length : Int) := by omega
      obtain ⟨fb, hfb⟩ := own_pos HDj.out.rf (by show 0 < (ov _ _).length; omega)
      have hrf : wr.ownsRow 0 89 3 (.slice c.fa (ov (stF (k.F.take j) d) k.F).length c.fc) (ov (stF (k.F.take j) d) k.F).length (ck 3 (ov (stF (k.F.take j) d) k.F).length (ff (ov (stF (k.F.take j) d) k.F))) := HDj.out.rf
      rw [hol, hfb] at hrf
      have hfbl := own_lt hrf
      have hgf := ov_at (G := stF (k.F.take j) d) (F := k.F) hl
      have x0 : wr.cell? ⟨fb, j * 3, none⟩ = some (.int .i64 ((gf k.F j).d : Int)) := by
        show wr.cell? ⟨fb, j * 3 + 0, none⟩ = _
        rw [World.ownsRow.cellAt hrf _ (lt_mul (j := 0) hlt (by omega)), ck_at (j := 0) _ hlt (by omega)]; unfold ff; rw [hgf]; rfl
      have x1 : wr.cell? ⟨fb, j * 3 + 1, none⟩ = some (.int .i64 ((gf k.F j).at' : Int)) := by
        rw [World.ownsRow.cellAt hrf _ (lt_mul (j := 1) hlt (by omega)), ck_at (j := 1) _ hlt (by omega)]; unfold ff; rw [hgf]; rfl
      have x2 : wr.cell? ⟨fb, j * 3 + 2, none⟩ = some (.int .u64 (gf k.F j).v) := by
        rw [World.ownsRow.cellAt hrf _ (lt_mul (j := 2) hlt (by omega)), ck_at (j := 2) _ hlt (by omega)]; unfold ff; rw [hgf]; rfl
      have hfi := H.out.fi j hlt
      have HTF := hid (stF_take d hlt)
      have HTU := hid (stU_take d b k.U hlt)
      have hkU := stU_keep d b k.U (k.F.take j)
      have hb1 := H.out.bn d hd
      have hb2 := H.out.bn _ hfi.1
      generalize hwx : gf k.F j = x at *
      obtain ⟨xd, xa, xv⟩ := x
      have hb8' := H.out.b8
      clear hwx hgf hrf
      have HKU := hid hkU
      have HX0 := hid x0; have HX1 := hid x1; have HX2 := hid x2
      have HL := hid (show (stF (k.F.take j) d).length < k.F.length by omega)
      have HFI := hid (show xd < k.U.length ∧ xa < (gu k.U xd).now.length from hfi)
      have HFB := hid hfb
      clear hol hkU
      rw [hfb]
      by_cases hx : xd = d
      · have hxb : ((xd : Int) != (d : Int)) = false := by simp [hx]
        rw [if_pos hx] at HTF
        cases hb : b with
        | false =>
          subst hb
          have hTU : stU d false k.U (k.F.take (j + 1)) = stU d false k.U (k.F.take j) := by rw [HTU.out, if_neg (by simp)]
          have HR := hid (show DA wr A c { k with U := stU d false k.U (k.F.take (j + 1)), F := ov (stF (k.F.take (j + 1)) d) k.F } by rw [hTU, HTF.out]; exact HDj.out)
          have HTFl := hid (show (stF (k.F.take (j + 1)) d).length = (stF (k.F.take j) d).length by rw [HTF.out])
          have ee := HEN.out
          generalize (stF (k.F.take j) d).length = l at *
          clear hTU HTF HTU HDj hx
          go_wp2_with fail
          refine (HSF.out _ _).mono ?_
          rintro e w1 ⟨rfl, rfl⟩
          have HW1 := hid (Gr.of_below ((Below.refl wr.heap.size wr).alloc (Nat.le_refl _) (.cells #[.int .i64 (xd : Int), .int .i64 (xa : Int), .int .u64 xv] 89)) [])
          generalize wr.alloc (.cells #[.int .i64 (xd : Int), .int .i64 (xa : Int), .int .u64 xv] 89) = w1 at *
          clear ee
          go_wp2_with fail
          go_roundw
          case rel => exact ⟨j + 1, by omega, by rw [HTFl.out], by go_num, hid (HR.out.gr HW1.out (fun _ _ => by simp)), hid (HGj.out.trans (HW1.out.mono (by simp)))⟩
          case measure => simp [intOf]; omega
        | true =>
          subst hb
          have hTU : stU d true k.U (k.F.take (j + 1)) = (stU d true k.U (k.F.take j)).set d { gu (stU d true k.U (k.F.take j)) d with dur := (gu (stU d true k.U (k.F.take j)) d).dur.set xa xv } := by rw [HTU.out, if_pos ⟨hx, rfl⟩]
          have HTFl := hid (show (stF (k.F.take (j + 1)) d).length = (stF (k.F.take j) d).length by rw [HTF.out])
          have HR := hid (fun (w : World) (hw : DA w A c { k with U := (stU d true k.U (k.F.take j)).set d { gu (stU d true k.U (k.F.take j)) d with dur := (gu (stU d true k.U (k.F.take j)) d).dur.set xa xv }, F := ov (stF (k.F.take j) d) k.F }) => show DA w A c { k with U := stU d true k.U (k.F.take (j + 1)), F := ov (stF (k.F.take (j + 1)) d) k.F } by rw [hTU, HTF.out]; exact hw)
          have ee := HEN.out
          subst hx
          have hdU : xd < (stU xd true k.U (k.F.take j)).length := by rw [HKU.out.1]; exact hfi.1
          generalize stU xd true k.U (k.F.take j) = Uj at *
          generalize stF (k.F.take j) xd = Gj at *
          clear hTU HTF HTU
          go_wp2_with fail
          refine (HSF.out _ _).mono ?_
          rintro e w1 ⟨rfl, rfl⟩
          have hW1 := (Below.refl wr.heap.size wr).alloc (Nat.le_refl _) (.cells #[.int .i64 (xd : Int), .int .i64 (xa : Int), .int .u64 xv] 89)
          have y0 : (wr.alloc (.cells #[.int .i64 (xd : Int), .int .i64 (xa : Int), .int .u64 xv] 89)).drew.cell? ⟨wr.heap.size, 1, none⟩ = some (.int .i64 (xa : Int)) := by go_simp
          have y1 : (wr.alloc (.cells #[.int .i64 (xd : Int), .int .i64 (xa : Int), .int .u64 xv] 89)).drew.cell? ⟨wr.heap.size, 2, none⟩ = some (.int .u64 xv) := by go_simp
          have hD0 := HDj.out.below (W' := (wr.alloc (.cells #[.int .i64 (xd : Int), .int .i64 (xa : Int), .int .u64 xv] 89)).drew) hW1.drew
          have hG0 := HGj.out.trans (Gr.of_below hW1.drew (fp A c))
          have hB0 : Below wr.heap.size wr (wr.alloc (.cells #[.int .i64 (xd : Int), .int .i64 (xa : Int), .int .u64 xv] 89)).drew := hW1.drew
          have HV0 := hid (show (wr.alloc (.cells #[.int .i64 (xd : Int), .int .i64 (xa : Int), .int .u64 xv] 89)).drew = (wr.alloc (.cells #[.int .i64 (xd : Int), .int .i64 (xa : Int), .int .u64 xv] 89)).drew from rfl)
          have HZ0 := hid (show (wr.alloc (.cells #[.int .i64 (xd : Int), .int .i64 (xa : Int), .int .u64 xv] 89)).drew = { (wr.alloc (.cells #[.int .i64 (xd : Int), .int .i64 (xa : Int), .int .u64 xv] 89)) with drawn := (wr.alloc (.cells #[.int .i64 (xd : Int), .int .i64 (xa : Int), .int .u64 xv] 89)).drawn + 1 } from rfl)
          generalize hVV : (wr.alloc (.cells #[.int .i64 (xd : Int), .int .i64 (xa : Int), .int .u64 xv] 89)).drew = V0 at hD0 hG0 hB0 y0 y1 HZ0
          clear hVV HV0 hW1
          have z0 := hD0.c0
          obtain ⟨ub, hub, hul, -, z1, -, -⟩ := hD0.unit (d := xd) (by exact hdU)
          have z2 := (hD0.rd xd hdU).at xa (by rw [hD0.ld xd hdU]; show xa < (gu Uj xd).now.length; rw [(HKU.out.2 xd).1]; exact hfi.2)
          have zf := (hD0.rd xd hdU).frozen xa
          have HS := hid (hD0.setDur (t := xa) (d := xd) hdU xv)
          have HSG := hid (hG0.trans ((set_gr V0 (gb c.bs xd).d xa (.int .u64 xv)).mono (T := fp A c) (fun x hx => by obtain rfl := List.mem_singleton.1 hx; exact fp_d (by rw [hD0.lb]; exact hdU))))
          rw [show ({ k with U := Uj, F := ov Gj k.F } : Dk).U = Uj from rfl, hub] at z0
          rw [show ({ k with U := Uj, F := ov Gj k.F } : Dk).U = Uj from rfl, (HKU.out.2 xd).1] at z1
          have Z0 := hid z0; have Z1 := hid z1; have Z2 := hid z2; have ZF := hid zf; have Y0 := hid y0; have Y1 := hid y1
          have HLU := hid (show xd < Uj.length ∧ Uj.length ≤ 8 from ⟨hdU, hD0.b8⟩)
          clear z0 z1 z2 zf y0 y1 hub hD0 hG0 hB0
          clear ee HDj
          go_wp2_with fail
          obtain ⟨Ws, w0, w1⟩ : ∃ Ws : Nat → World, Ws 0 = V0 ∧ Ws 1 = V0.setCell ⟨(gb c.bs xd).d, xa, none⟩ (.int .u64 xv) := ⟨fun q => match q with | 0 => V0 | _ => V0.setCell ⟨(gb c.bs xd).d, xa, none⟩ (.int .u64 xv), rfl, rfl⟩
          refine (wpIn_wide (n := 5)).1 ?_
          refine wpIn_region_plan_v (ro := none) (aF := ?aFh) [.pointer (some ⟨A, 0, none⟩), .pointer (some ⟨A, 0, none⟩), .pointer (some ⟨A, 0, none⟩), .slice (some ⟨ub, 0, none⟩) Uj.length c.uc, .int .i64 (xd : Int), .pointer (some ⟨ub, xd * 3, none⟩), .pointer (some ⟨ub, xd * 3 + 1, none⟩), .slice (some ⟨(gb c.bs xd).d, 0, none⟩) (gu k.U xd).now.length (gb c.bs xd).cd, .pointer (some ⟨wr.heap.size, 0, none⟩), .pointer (some ⟨wr.heap.size, 1, none⟩), .int .i64 (xa : Int), .pointer (some ⟨wr.heap.size, 2, none⟩), .int .u64 xv, .pointer (some ⟨(gb c.bs xd).d, xa, none⟩), undef] ?hEh [] [14] [[(0, 0)], [(0, 0)], [(0, 0)], [(0, 0)], [(0, 0)], [(0, 0)], [(0, 0)], [(0, 0)], [(0, 0)], [(0, 0)], [(0, 0)], [(0, 0)], [(0, 0)], [(0, 0)], [(0, 1)]] Ws 57 ?hNh hmx (by kernel_rfl) (by kernel_rfl) ?haFh (w0.trans HZ0.out) ?sth ?finh
          case hEh =>
            go_simp
            rfl
          case hNh => kernel_rfl
          case haFh => kernel_rfl
          case sth =>
           refine StepsP.cons rfl (any_steps (by kernel_rfl) ?sh0) (StepsP.cons rfl (any_steps (by kernel_rfl) ?sh1) (StepsP.cons rfl (any_steps (by kernel_rfl) ?sh2) (StepsP.cons rfl (step1 ?sh3_0) (StepsP.cons rfl (any_steps (by kernel_rfl) ?sh4) (StepsP.cons rfl (any_steps (by kernel_rfl) ?sh5) (StepsP.cons rfl (any_steps (by kernel_rfl) ?sh6) (StepsP.cons rfl (step1 ?sh7_0) (StepsP.cons rfl (any_steps (by kernel_rfl) ?sh8) (StepsP.cons rfl (any_steps (by kernel_rfl) ?sh9) (StepsP.cons rfl (step1 ?sh10_0) (StepsP.cons rfl (any_steps (by kernel_rfl) ?sh11) (StepsP.cons rfl (step1 ?sh12_0) (StepsP.cons rfl (any_steps (by kernel_rfl) ?sh13) (StepsP.cons rfl (step1 ?sh14_0) StepsP.nil))))))))))))))
           case sh0 =>
            intro _
            refine StepP.want (by kernel_rfl) ?_
            go_simp
           case sh1 =>
            intro _
            refine StepP.want (by kernel_rfl) ?_
            go_simp
           case sh2 =>
            intro _
            refine StepP.want (by kernel_rfl) ?_
            go_simp
           case sh3_0 =>
            rw [w0]
            refine StepP.want (by kernel_rfl) ?_
            have c := Z0.out
            go_simp
           case sh4 =>
            intro _
            refine StepP.want (by kernel_rfl) ?_
            go_simp
           case sh5 =>
            intro _
            refine StepP.want (by kernel_rfl) ?_
            have c := HLU.out.1
            go_simp
           case sh6 =>
            intro _
            refine StepP.want (by kernel_rfl) ?_
            go_simp
           case sh7_0 =>
            rw [w0]
            refine StepP.want (by kernel_rfl) ?_
            have c := Z1.out
            go_simp
           case sh8 =>
            intro _
            refine StepP.want (by kernel_rfl) ?_
            go_simp
           case sh9 =>
            intro _
            refine StepP.want (by kernel_rfl) ?_
            go_simp
           case sh10_0 =>
            rw [w0]
            refine StepP.want (by kernel_rfl) ?_
            have c := Y0.out
            go_simp
           case sh11 =>
            intro _
            refine StepP.want (by kernel_rfl) ?_
            go_simp
           case sh12_0 =>
            rw [w0]
            refine StepP.want (by kernel_rfl) ?_
            have c := Y1.out
            go_simp
           case sh13 =>
            intro _
            refine StepP.want (by kernel_rfl) ?_
            have c := HFI.out.2
            go_simp
           case sh14_0 =>
            rw [w0, w1]
            refine StepP.want (by kernel_rfl) ?_
            have c := Z2.out
            have c2 := ZF.out
            go_simp
          case finh =>
            have e9 : Ws ([14] : List Nat).length = V0.setCell ⟨(gb c.bs xd).d, xa, none⟩ (.int .u64 xv) := w1
            rw [e9]
            clear e9 w0 w1
            clear Z0 Z1 Z2 ZF Y0 Y1 HZ0
            generalize V0.setCell ⟨(gb c.bs xd).d, xa, none⟩ (.int .u64 xv) = w3 at *
            go_wp2_with fail
            go_roundw
            case rel => exact ⟨j + 1, by omega, by rw [HTFl.out], by go_num, hid (HR.out _ HS.out), HSG⟩
            case measure => simp [intOf]; omega
      · have hxb : ((xd : Int) != (d : Int)) = true := by simp; omega
        rw [if_neg hx] at HTF
        have hTU : stU d b k.U (k.F.take (j + 1)) = stU d b k.U (k.F.take j) := by rw [HTU.out, if_neg (by simp [hx])]
        have HTFl := hid (show (stF (k.F.take (j + 1)) d).length = (stF (k.F.take j) d).length + 1 by rw [HTF.out]; simp)
        have HR := hid (fun (w : World) (hw : DA w A c { k with U := stU d b k.U (k.F.take j), F := ov (stF (k.F.take j) d ++ [⟨xd, xa, xv⟩]) k.F }) => show DA w A c { k with U := stU d b k.U (k.F.take (j + 1)), F := ov (stF (k.F.take (j + 1)) d) k.F } by rw [hTU, HTF.out]; exact hw)
        generalize stU d b k.U (k.F.take j) = Uj at *
        generalize stF (k.F.take j) d = Gj at *
        clear hTU HTF HTU hx
        obtain ⟨WB, hWB⟩ : ∃ WB, WB = (wr.alloc (.cells #[.int .i64 (xd : Int), .int .i64 (xa : Int), .int .u64 xv] 89)).alloc (.cells #[.int .i64 (xd : Int), .int .i64 (xa : Int), .int .u64 xv] 89) := ⟨_, rfl⟩
        have hBB : Below wr.heap.size wr WB := by rw [hWB]; exact ((Below.refl _ _).alloc (Nat.le_refl _) _).alloc (by simp) _
        have y0 : WB.cell? ⟨wr.heap.size + 1, 0, none⟩ = some (.int .i64 (xd : Int)) := by rw [hWB]; go_simp
        have y1 : WB.cell? ⟨wr.heap.size + 1, 1, none⟩ = some (.int .i64 (xa : Int)) := by rw [hWB]; go_simp
        have y2 : WB.cell? ⟨wr.heap.size + 1, 2, none⟩ = some (.int .u64 xv) := by rw [hWB]; go_simp
        obtain ⟨w9, hrun, hD9, hg9⟩ := DA.room (k := { k with U := Uj }) (HDj.out.below hBB) (x := ⟨xd, xa, xv⟩) (G := Gj) (F := k.F) hfb HL.out ⟨by show xd < Uj.length; rw [HKU.out.1]; exact hfi.1, by show xa < (gu Uj xd).now.length; rw [(HKU.out.2 xd).1]; exact hfi.2⟩ ⟨wr.heap.size + 1, 0, none⟩ ⟨y0, y1, y2⟩ 76
        rw [hWB] at hrun
        have HRUN := hid hrun
        have HG9 := hid ((HGj.out.trans (Gr.of_below hBB (fp A c))).trans (hg9.mono (T := fp A c) (fun x hx => by obtain rfl := List.mem_singleton.1 hx; exact fp_f (by rw [hfb]; simp [oblk]))))
        have HD9 := hid (HR.out _ hD9)
        clear hWB hBB y0 y1 y2 hrun hD9 hg9 HR HDj
        go_wp2_with (at_builtin; refine wpList_append_run _ rfl (.tmp 30) (.tmp 32) 76 rfl _ _ _ _ rfl rfl HRUN.out ?_)
        clear HRUN
        go_wp2_with fail
        go_roundw
        case rel => exact ⟨j + 1, by omega, by rw [HTFl.out], by go_num, HD9, HG9⟩
        case measure => simp [intOf]; omega
    · have hjl : j = k.F.length := by omega
      have hlt' : ¬ (j : Int) < (k.F.length : Int) := by omega
      rw [hjl, List.take_length] at HDj
      rw [hjl, List.take_length] at hl ⊢
      rw [hjl, List.take_length] at hol
      have f2 := HDj.out.fz 2
      have c2 := HDj.out.c2
      have hblk : wr.ownsRow 0 78 6 (.slice (some ⟨A, 0, none⟩) 1 1) 1 [.slice c.ua (stU d b k.U k.F).length c.uc, .map (some c.mb), .slice c.fa (ov (stF k.F d) k.F).length c.fc, .int .i64 k.fuse, .bool k.down, .int .i64 k.wr] := HDj.out.blk
      have hrf : wr.ownsRow 0 89 3 (.slice c.fa (ov (stF k.F d) k.F).length c.fc) (ov (stF k.F d) k.F).length (ck 3 (ov (stF k.F d) k.F).length (ff (ov (stF k.F d) k.F))) := HDj.out.rf
      have hG := set_gr wr A 2 (.slice c.fa (stF k.F d).length c.fc)
      have hle : (stF k.F d).length ≤ (ov (stF k.F d) k.F).length := by unfold ov; rw [List.length_append]; omega
      have hfi := fi_of HDj.out.fi
      have HS := hid (HDj.out.setF (W' := wr.setCell ⟨A, 2, none⟩ (.slice c.fa (stF k.F d).length c.fc)) c.fa c.fc (stF k.F d) (hG.mono (fun x hx => by obtain rfl := List.mem_singleton.1 hx; exact List.mem_cons_self ..)) (World.ownsRow.stored hblk 2 _).1
        (by
          have h1 := own_gr (own_fewer hrf hle) hG (fun g hx => by have := oblk_of hx; rw [List.mem_singleton]; rintro rfl; exact HDj.out.sep.af this)
          rw [ck_take _ hle] at h1
          rw [ck_congr (g := ff (ov (stF k.F d) k.F)) (fun p q hp hq => by
            have e : gf (ov (stF k.F d) k.F) p = gf (stF k.F d) p := by unfold ov gf; rw [List.getElem?_append_left hp]
            unfold ff; rw [e])]
          exact h1)
        (fun g hg => .inl hg) (fun i hi => hfi _ (List.mem_append.2 (.inl (gf_mem hi)))))
      have HSG := hid (HGj.out.trans (hG.mono (T := fp A c) (fun x hx => by obtain rfl := List.mem_singleton.1 hx; exact fp_A)))
      clear hblk hrf hG hle hfi HDj hol hl
      go_wp2_with fail
      go_end0
      exact ⟨rfl, hid ⟨HS.out, HSG.out⟩⟩
end Go.Proofs.Ytfaeieeokelokaa
