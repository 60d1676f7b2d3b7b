/- The program's Read, Fuse, SetMissing, SetBad. No conditions but those of each theorem. -/
import Derived.Test.YtfaeieeokelokaaG
import Derived.Deep.AppendLies
namespace Go.Proofs.Ytfaeieeokelokaa
open Go.ChangeShapes Go.WideShapes Go.ChangeAt Go.RowKit
set_option linter.unusedVariables false
set_option linter.unusedSimpArgs false
attribute [local go_sem] Oper.semAt_some putAll

/-- what Read returns -/
def rdV (k : Dk) (d t : Int) : Int := if chk4 k d t = 0 then ge (gu k.U d.toNat).now t.toNat else 0
theorem chk4_ok {k : Dk} {d t : Int} (h : chk4 k d t = 0) : k.down = false ∧ hs k d t = true ∧ (gu k.U d.toNat).mis = false ∧ k.bad d t = false := by
  unfold chk4 at h
  cases h1 : k.down <;> cases h2 : hs k d t <;> cases h3 : (gu k.U d.toNat).mis <;> cases h4 : k.bad d t <;> simp_all
theorem chk3_ok {k : Dk} {d t : Int} (h : chk3 k d t = 0) : k.down = false ∧ hs k d t = true ∧ (gu k.U d.toNat).mis = false := by
  unfold chk3 at h
  cases h1 : k.down <;> cases h2 : hs k d t <;> cases h3 : (gu k.U d.toNat).mis <;> simp_all
theorem first4_at {W : World} {A : Nat} {c : Co} {k : Dk} (h : DA W A c k) (d t : Int) :
    Calls Try.prog 37 #[.agg #[.int .i64 d, .int .i64 t], .slice (some ⟨W.heap.size + 1, 0, none⟩) 4 4] ((W.alloc (.cells #[.int .i64 d, .int .i64 t] 83)).alloc (.cells #[.func (.func 38) #[.pointer (some ⟨A, 0, none⟩)] #[], .func (.func 39) #[.pointer (some ⟨A, 0, none⟩)] #[], .func (.func 40) #[.pointer (some ⟨A, 0, none⟩)] #[], .func (.func 45) #[.pointer (some ⟨A, 0, none⟩)] #[]] 84)) fun e w' => e = .returned (.int .i64 (chk4 k d t)) ∧ Hid (Below W.heap.size W w' ∧ w'.cell? ⟨W.heap.size, 0, none⟩ = some (.int .i64 d) ∧ w'.cell? ⟨W.heap.size, 1, none⟩ = some (.int .i64 t) ∧ W.heap.size < w'.heap.size) := by
  obtain ⟨W1, hW1⟩ : ∃ W1, W1 = (W.alloc (.cells #[.int .i64 d, .int .i64 t] 83)).alloc (.cells #[.func (.func 38) #[.pointer (some ⟨A, 0, none⟩)] #[], .func (.func 39) #[.pointer (some ⟨A, 0, none⟩)] #[], .func (.func 40) #[.pointer (some ⟨A, 0, none⟩)] #[], .func (.func 45) #[.pointer (some ⟨A, 0, none⟩)] #[]] 84) := ⟨_, rfl⟩
  rw [← hW1]
  have hb : Below W.heap.size W W1 := by rw [hW1]; exact ((Below.refl _ _).alloc (Nat.le_refl _) _).alloc (by simp) _
  have hsz : W1.heap.size = W.heap.size + 1 + 1 := by rw [hW1]; simp
  have c1 : W1.cell? ⟨W.heap.size, 0, none⟩ = some (.int .i64 d) := by rw [hW1]; go_simp
  have c2 : W1.cell? ⟨W.heap.size, 1, none⟩ = some (.int .i64 t) := by rw [hW1]; go_simp
  refine (first4_ok (h.below hb) d t (W.heap.size + 1) (by omega) (fun j hj => ?_)).mono ?_
  · rw [hW1]
    obtain rfl | rfl | rfl | rfl : j = 0 ∨ j = 1 ∨ j = 2 ∨ j = 3 := by omega
    · go_simp; rfl
    · go_simp; rfl
    · go_simp; rfl
    · go_simp; rfl
  · rintro e w' ⟨rfl, hb'⟩
    exact ⟨rfl, hid ⟨bt hb hb', (hb'.cell (p := ⟨W.heap.size, 0, none⟩) (by show W.heap.size < _; omega)).trans c1, (hb'.cell (p := ⟨W.heap.size, 1, none⟩) (by show W.heap.size < _; omega)).trans c2, by have := hb'.size; omega⟩⟩
theorem first3_at {W : World} {A : Nat} {c : Co} {k : Dk} (h : DA W A c k) (d t : Int) :
    Calls Try.prog 37 #[.agg #[.int .i64 d, .int .i64 t], .slice (some ⟨W.heap.size + 1, 0, none⟩) 3 3] ((W.alloc (.cells #[.int .i64 d, .int .i64 t] 83)).alloc (.cells #[.func (.func 38) #[.pointer (some ⟨A, 0, none⟩)] #[], .func (.func 39) #[.pointer (some ⟨A, 0, none⟩)] #[], .func (.func 40) #[.pointer (some ⟨A, 0, none⟩)] #[]] 84)) fun e w' => e = .returned (.int .i64 (chk3 k d t)) ∧ Hid (Below W.heap.size W w' ∧ w'.cell? ⟨W.heap.size, 0, none⟩ = some (.int .i64 d) ∧ w'.cell? ⟨W.heap.size, 1, none⟩ = some (.int .i64 t) ∧ W.heap.size < w'.heap.size) := by
  obtain ⟨W1, hW1⟩ : ∃ W1, W1 = (W.alloc (.cells #[.int .i64 d, .int .i64 t] 83)).alloc (.cells #[.func (.func 38) #[.pointer (some ⟨A, 0, none⟩)] #[], .func (.func 39) #[.pointer (some ⟨A, 0, none⟩)] #[], .func (.func 40) #[.pointer (some ⟨A, 0, none⟩)] #[]] 84) := ⟨_, rfl⟩
  rw [← hW1]
  have hb : Below W.heap.size W W1 := by rw [hW1]; exact ((Below.refl _ _).alloc (Nat.le_refl _) _).alloc (by simp) _
  have hsz : W1.heap.size = W.heap.size + 1 + 1 := by rw [hW1]; simp
  have c1 : W1.cell? ⟨W.heap.size, 0, none⟩ = some (.int .i64 d) := by rw [hW1]; go_simp
  have c2 : W1.cell? ⟨W.heap.size, 1, none⟩ = some (.int .i64 t) := by rw [hW1]; go_simp
  refine (first3_ok (h.below hb) d t (W.heap.size + 1) (by omega) (fun j hj => ?_)).mono ?_
  · rw [hW1]
    obtain rfl | rfl | rfl : j = 0 ∨ j = 1 ∨ j = 2 := by omega
    · go_simp; rfl
    · go_simp; rfl
    · go_simp; rfl
  · rintro e w' ⟨rfl, hb'⟩
    exact ⟨rfl, hid ⟨bt hb hb', (hb'.cell (p := ⟨W.heap.size, 0, none⟩) (by show W.heap.size < _; omega)).trans c1, (hb'.cell (p := ⟨W.heap.size, 1, none⟩) (by show W.heap.size < _; omega)).trans c2, by have := hb'.size; omega⟩⟩
theorem first3_in {W : World} {A : Nat} {c : Co} {k : Dk} (h : DA W A c k) (d t : Int) :
    Calls Try.prog 37 #[.agg #[.int .i64 d, .int .i64 t], .slice (some ⟨W.heap.size, 0, none⟩) 3 3] (W.alloc (.cells #[.func (.func 38) #[.pointer (some ⟨A, 0, none⟩)] #[], .func (.func 39) #[.pointer (some ⟨A, 0, none⟩)] #[], .func (.func 40) #[.pointer (some ⟨A, 0, none⟩)] #[]] 84)) fun e w' => e = .returned (.int .i64 (chk3 k d t)) ∧ Hid (Below W.heap.size W w') := by
  obtain ⟨W1, hW1⟩ : ∃ W1, W1 = W.alloc (.cells #[.func (.func 38) #[.pointer (some ⟨A, 0, none⟩)] #[], .func (.func 39) #[.pointer (some ⟨A, 0, none⟩)] #[], .func (.func 40) #[.pointer (some ⟨A, 0, none⟩)] #[]] 84) := ⟨_, rfl⟩
  rw [← hW1]
  have hb : Below W.heap.size W W1 := by rw [hW1]; exact (Below.refl _ _).alloc (Nat.le_refl _) _
  have hsz : W1.heap.size = W.heap.size + 1 := by rw [hW1]; simp
  refine (first3_ok (h.below hb) d t (W.heap.size) (by omega) (fun j hj => ?_)).mono ?_
  · rw [hW1]
    obtain rfl | rfl | rfl : j = 0 ∨ j = 1 ∨ j = 2 := by omega
    · go_simp; rfl
    · go_simp; rfl
    · go_simp; rfl
  · rintro e w' ⟨rfl, hb'⟩
    exact ⟨rfl, hid (bt hb hb')⟩
set_option maxRecDepth 100000 in
set_option maxHeartbeats 4000000 in
theorem read_ok {W : World} {A : Nat} {c : Co} {k : Dk} (h : DA W A c k) (d t : Int) :
    Calls Try.prog 25 #[.pointer (some ⟨A, 0, none⟩), .int .i64 d, .int .i64 t] W fun e W' => e = .returned (.tuple #[.int .u64 (rdV k d t), .int .i64 (chk4 k d t)]) ∧ Below W.heap.size W W' := by
  have H := hid h
  clear h
  have HR := hid (show rdV k d t = if chk4 k d t = 0 then ge (gu k.U d.toNat).now t.toNat else 0 from rfl)
  have HF := hid (first4_at H.out d t)
  by_cases hz : chk4 k d t = 0
  · rw [if_pos hz] at HR
    obtain ⟨k1, k2, k3, k4⟩ := chk4_ok hz
    obtain ⟨n, m, rfl, rfl, hn, hm⟩ := hs_iff.1 k2
    rw [hz] at HF ⊢
    rw [show ((n : Int)).toNat = n from rfl, show ((m : Int)).toNat = m from rfl] at HR
    generalize rdV k (n : Int) (m : Int) = r at *
    have hb8 := H.out.b8
    have hbn := H.out.bn n hn
    clear k1 k2 k3 k4 hz
    go_enter Try.func25, Try.ntmps25
    go_wp2_with fail
    refine HF.out.mono ?_
    rintro e w1 ⟨rfl, HB⟩
    have H1 := H.out.below HB.out.1
    have c0 := H1.c0
    obtain ⟨ub, hub, hul, c1, -, -, -⟩ := H1.unit hn
    rw [hub] at c0
    have c2 := (H1.rn n hn).at m hm
    have HB1 := hid HB.out.1
    clear H1 hub HF
    rw [← HR.out] at c2
    go_wp2_with fail
    go_ret2
    exact ⟨rfl, HB1.out⟩
  · rw [if_neg hz] at HR
    rw [HR.out]
    have hzb : (chk4 k d t != 0) = true := by simpa using hz
    generalize chk4 k d t = x at *
    go_enter Try.func25, Try.ntmps25
    go_wp2_with fail
    refine HF.out.mono ?_
    rintro e w1 ⟨rfl, HB⟩
    have HB1 := hid HB.out.1
    go_wp2_with fail
    go_ret2
    exact ⟨rfl, HB1.out⟩
set_option maxHeartbeats 4000000 in
theorem fuse_ok {W : World} {A : Nat} {c : Co} {k : Dk} (h : DA W A c k) (n : Int) :
    Calls Try.prog 22 #[.pointer (some ⟨A, 0, none⟩), .int .i64 n] W fun e W' => e = .returned (.tuple #[]) ∧ Hid (DA W' A c { k with fuse := max n 0 } ∧ Gr (fp A c) W W') := by
  have f0 := h.fz 3
  have c0 := h.c3
  have HS := hid (h.setA (set_gr W A 3 (.int .i64 (max n 0))) (max n 0) k.down k.wr (World.ownsRow.stored h.blk 3 (.int .i64 (max n 0))).1)
  have HG := hid ((set_gr W A 3 (.int .i64 (max n 0))).mono (T := fp A c) (fun x hx => by obtain rfl := List.mem_singleton.1 hx; exact fp_A))
  clear h
  go_enter Try.func22, Try.ntmps22
  go_wp2_with fail
  go_end0
  exact ⟨rfl, hid ⟨HS.out, HG.out⟩⟩
set_option maxHeartbeats 4000000 in
theorem setmis_no {W : World} {A : Nat} {c : Co} {k : Dk} (h : DA W A c k) (d : Int) (b : Bool) (hd' : hd k d = false) :
    Calls Try.prog 21 #[.pointer (some ⟨A, 0, none⟩), .int .i64 d, .bool b] W fun e W' => e = .returned (.int .i64 1) ∧ W' = W := by
  have HF := hid (has_ok h d)
  rw [hd'] at HF
  clear h
  go_enter Try.func21, Try.ntmps21
  go_wp2_with fail
  refine HF.out.mono ?_
  rintro e w1 ⟨rfl, rfl⟩
  go_wp2_with fail
  go_ret
  exact ⟨rfl, rfl⟩
set_option maxHeartbeats 4000000 in
theorem setmis_ok {W : World} {A : Nat} {c : Co} {k : Dk} (h : DA W A c k) (d : Nat) (b : Bool) (hd' : d < k.U.length) :
    Calls Try.prog 21 #[.pointer (some ⟨A, 0, none⟩), .int .i64 (d : Int), .bool b] W fun e W' => e = .returned (.int .i64 0) ∧ Hid (DA W' A c { k with U := k.U.set d { gu k.U d with mis := b } } ∧ Gr (fp A c) W W') := by
  have HF := hid (has_ok h (d : Int))
  rw [hd_iff.2 ⟨d, rfl, hd'⟩] at HF
  have c0 := h.c0
  obtain ⟨ub, hub, hul, -, -, c1, hz⟩ := h.unit hd'
  have HS := hid (h.setMis hd' hub b)
  have HG := hid ((set_gr W ub (d * 3 + 2) (.bool b)).mono (T := fp A c) (fun x hx => by obtain rfl := List.mem_singleton.1 hx; exact fp_u (by rw [hub]; simp [oblk])))
  rw [hub] at c0
  have f0 := hz (d * 3 + 2)
  have hb8 := h.b8
  clear h hub hz
  go_enter Try.func21, Try.ntmps21
  go_wp2_with fail
  refine HF.out.mono ?_
  rintro e w1 ⟨rfl, rfl⟩
  go_wp2_with fail
  go_ret
  exact ⟨rfl, hid ⟨HS.out, HG.out⟩⟩
theorem BM.put {W : World} {b n : Nat} {bad : Int → Int → Bool} (h : BM W b n bad) (hn : n < 2 ^ 40) {d t : Int} (hd : (Lit.int .i64 d).wf = true) (ht : (Lit.int .i64 t).wf = true) :
    ∃ W', (Instr.mapUpdate 74 (.map (some b)) (.agg #[.int .i64 d, .int .i64 t]) (.agg #[])).run Try.prog W = .ok () W' ∧ BM W' b (n + 1) (fun x y => if x = d ∧ y = t then true else bad x y) ∧ Gr [b] W W' := by
  obtain ⟨D, h1, h2⟩ := h
  obtain ⟨W', hrun, h3, h4⟩ := h1.store law Try.underlying74 (by unfold maxLen; omega) (key_pk d t hd ht) unitElem_mk
  refine ⟨W', hrun, ⟨_, h3, fun x y hx hy => ?_⟩, Gr.of_grown h4.grown (fun g hg => by cases hg; simp)⟩
  show Go.Maps.has _ _ = if x = d ∧ y = t then true else bad x y
  by_cases e : x = d ∧ y = t
  · obtain ⟨rfl, rfl⟩ := e
    rw [if_pos ⟨rfl, rfl⟩]
    exact Go.Maps.has_put_same h1.isMap (law.key (key_pk x y hx hy)) _
  · rw [if_neg e, ← h2 x y hx hy]
    exact Go.Maps.has_put_other (fun he => e (pk_inj hx hy hd ht he)) _
theorem BM.del {W : World} {b n : Nat} {bad : Int → Int → Bool} (h : BM W b n bad) {d t : Int} (hd : (Lit.int .i64 d).wf = true) (ht : (Lit.int .i64 t).wf = true) (ty : TypeId) :
    ∃ W', (Builtin.delete_ #[74, 83] ty #[.map (some b), .agg #[.int .i64 d, .int .i64 t]]).run Try.prog W = .ok (.tuple #[]) W' ∧ BM W' b n (fun x y => if x = d ∧ y = t then false else bad x y) ∧ Gr [b] W W' := by
  obtain ⟨D, h1, h2⟩ := h
  obtain ⟨W', hrun, h3, h4⟩ := h1.drop law Try.underlying74 (key_pk d t hd ht) ty
  refine ⟨W', hrun, ⟨_, h3, fun x y hx hy => ?_⟩, Gr.of_grown h4.grown (fun g hg => by cases hg; simp)⟩
  show Go.Maps.has _ _ = if x = d ∧ y = t then false else bad x y
  by_cases e : x = d ∧ y = t
  · obtain ⟨rfl, rfl⟩ := e
    rw [if_pos ⟨rfl, rfl⟩]
    exact Go.Maps.has_del_same
  · rw [if_neg e, ← h2 x y hx hy]
    exact Go.Maps.has_del_other (fun he => e (pk_inj hx hy hd ht he))
theorem DA.fp_lt {W : World} {A : Nat} {c : Co} {k : Dk} (h : DA W A c k) : ∀ x ∈ fp A c, x < W.heap.size := by
  intro x hx
  rcases fp_cases hx with rfl | rfl | hx | hx | ⟨i, hi, rfl | rfl⟩
  · exact h.lt
  · exact h.mp.lt
  · have h1 := h.ru
    rcases own_blk h1 with ⟨e, _⟩ | ⟨g, e⟩
    · rw [e] at hx; cases hx
    · rw [e] at hx h1; obtain rfl := List.mem_singleton.1 hx; exact own_lt h1
  · have h1 := h.rf
    rcases own_blk h1 with ⟨e, _⟩ | ⟨g, e⟩
    · rw [e] at hx; cases hx
    · rw [e] at hx h1; obtain rfl := List.mem_singleton.1 hx; exact own_lt h1
  · exact (h.rn i (by rw [← h.lb]; exact hi)).lt
  · exact (h.rd i (by rw [← h.lb]; exact hi)).lt
end Go.Proofs.Ytfaeieeokelokaa
