/- One disk: what writes and flushes leave, with a power failure at any write. No conditions but those of each theorem. -/
import Derived.Test.YtbgbjgedjmhcaaaLI
namespace Go.Proofs.Ytbgbjgedjmhcaaa
open OldD (Dk Un Wr hs chk3 chk4 rdV wrE wrK flK reK stF)
set_option linter.unusedVariables false
set_option linter.unusedSimpArgs false
def dec (f : Int) : Int := if 0 < f then f - 1 else f
def updV (v : Nat → Int) (t : Nat) (x : Int) : Nat → Int := fun u => if u = t then x else v u
/-- a disk that runs: its values, what is durable, its fuse, where unflushed writes lie -/
structure Q1 (k : Dk) (N c : Nat) (v w : Nat → Int) (f : Int) (T : Nat → Prop) : Prop where
  g : Gk k 1 (fun _ => N) c
  dn : k.down = false
  fu : k.fuse = f
  nv : ∀ t, t < N → nw k 0 t = v t
  dv : ∀ t, t < N → du k 0 t = w t
  ft : ∀ x ∈ k.F, T x.at'
/-- a disk that the power has left -/
structure C1 (k : Dk) (N c : Nat) (w : Nat → Int) (T : Nat → Prop) : Prop where
  g : Gk k 1 (fun _ => N) c
  dv : ∀ t, t < N → du k 0 t = w t
  ft : ∀ x ∈ k.F, T x.at'
theorem Q1.c1 {k : Dk} {N c : Nat} {v w : Nat → Int} {f : Int} {T : Nat → Prop} (h : Q1 k N c v w f T) : C1 k N c w T := ⟨h.g, h.dv, h.ft⟩
theorem Q1.bc {k : Dk} {N c : Nat} {v w : Nat → Int} {f : Int} {T : Nat → Prop} (h : Q1 k N c v w f T) : Bc k c := ⟨h.g.fz, h.g.fl, h.g.wr.1, h.g.wr.2⟩
theorem wrK_fuse (k : Dk) (t x : Int) (hc : chk3 k 0 t = 0) (hf : k.fuse ≠ 1) : (wrK k 0 t x).fuse = dec k.fuse := by
  unfold wrK
  rw [if_pos hc, if_neg hf]
  rfl
theorem Q1.w {k : Dk} {N c : Nat} {v w : Nat → Int} {f : Int} {T : Nat → Prop} (h : Q1 k N c v w f T) (hf : f ≠ 1) (t : Nat) (ht : t < N) (x : Int) (T' : Nat → Prop) (hT : ∀ u, T u ∨ u = t → T' u) :
    wrE k 0 (t : Int) = 0 ∧ Q1 (wrK k 0 (t : Int) x) N (c + 1) (updV v t x) w (dec f) T' := by
  have hf' : k.fuse ≠ 1 := by rw [h.fu]; exact hf
  obtain ⟨e0, g, dn, eF, en, ed⟩ := h.g.wr_ok h.dn hf' (d := 0) (t := t) (by omega) ht x
  have ck := (h.g.chk h.dn (d := 0) (t := t) (by omega) ht).1
  refine ⟨e0, g, dn, ?_, fun u hu => ?_, fun u hu => ?_, fun y hy => ?_⟩
  · rw [← h.fu]; exact wrK_fuse k t x ck hf'
  · have := en 0 u
    simp only [true_and] at this
    show nw _ 0 u = updV v t x u
    unfold updV
    rw [← h.nv u hu]
    exact this
  · exact (ed 0 u).trans (h.dv u hu)
  · have hy : y ∈ k.F ++ [(⟨0, t, x⟩ : Wr)] := by rw [← eF]; exact hy
    rcases List.mem_append.1 hy with hy | hy
    · exact hT _ (.inl (h.ft y hy))
    · rw [List.mem_singleton.1 hy]; exact hT _ (.inr rfl)
theorem Q1.x {k : Dk} {N c : Nat} {v w : Nat → Int} {T : Nat → Prop} (h : Q1 k N c v w 1 T) (t : Nat) (ht : t < N) (x : Int) :
    wrE k 0 (t : Int) = 5 ∧ C1 (wrK k 0 (t : Int) x) N c w T := by
  obtain ⟨e0, g, eF, ed⟩ := h.g.wr_no h.dn h.fu (d := 0) (t := t) (by omega) ht x
  exact ⟨e0, g, fun u hu => (ed 0 u).trans (h.dv u hu), fun y hy => h.ft y (by rw [← eF]; exact hy)⟩
theorem Q1.f {k : Dk} {N c : Nat} {v w : Nat → Int} {f : Int} {T : Nat → Prop} (h : Q1 k N c v w f T) (hN : 1 ≤ N) : chk3 k 0 0 = 0 ∧ Q1 (flK k 0) N c v v f (fun _ => False) := by
  obtain ⟨e0, g, dn, ef, eF, en, ed⟩ := h.g.flush h.dn (d := 0) (by omega) (show 0 < N by omega)
  refine ⟨e0, g, dn, ef.trans h.fu, fun u hu => (en 0 u).trans (h.nv u hu), fun u hu => ?_, fun y hy => ?_⟩
  · have := ed 0 u (by omega) hu
    rw [if_pos rfl] at this
    exact this.trans (h.nv u hu)
  · have hy : y ∈ stF k.F 0 := by rw [← eF]; exact hy
    unfold stF at hy
    rw [List.mem_filter] at hy
    have h1 := (h.g.FI y hy.1).1
    have h2 : y.d ≠ 0 := by simpa using hy.2
    omega
/-- behind a restart -/
theorem C1.back {k : Dk} {N c : Nat} {w : Nat → Int} {T : Nat → Prop} (h : C1 k N c w T) (kp : Nat → Bool) :
    Gk (reK k kp) 1 (fun _ => N) c ∧ (reK k kp).down = false ∧ ∀ t, t < N → ¬ T t → nw (reK k kp) 0 t = w t := by
  obtain ⟨g, dn, eF, e1, e2⟩ := h.g.back kp
  refine ⟨g, dn, fun t ht hT => ?_⟩
  rcases e2 0 t (by omega) ht with e | ⟨y, y1, y2, y3, y4⟩
  · rw [e]; exact h.dv t ht
  · exact absurd (y3 ▸ h.ft y y1) hT
/-- writes of sectors but the first -/
def ovA (v : Nat → Int) : List Act1 → Nat → Int
  | [] => v
  | some x :: r => ovA (updV v x.1.toNat x.2) r
  | none :: r => ovA v r
theorem ws_run {N : Nat} {w : Nat → Int} : ∀ (A : List Act1) (k : Dk) (c : Nat) (v : Nat → Int) (f : Int), (∀ a ∈ A, ∃ (t : Nat) (x : Int), a = some ((t : Int), x) ∧ 1 ≤ t ∧ t < N) → Q1 k N c v w f (fun t => 1 ≤ t) →
    (seqE k A = 0 ∧ ∃ f', Q1 (seqK k A) N (c + A.length) (ovA v A) w f' (fun t => 1 ≤ t) ∧ (f = 0 → f' = 0)) ∨ (f ≠ 0 ∧ seqE k A = 5 ∧ C1 (seqK k A) N (c + A.length) w (fun t => 1 ≤ t))
  | [], k, c, v, f, _, h => .inl ⟨rfl, f, h, fun e => e⟩
  | a :: r, k, c, v, f, hA, h => by
    obtain ⟨t, x, rfl, h1, h2⟩ := hA a (List.mem_cons_self ..)
    by_cases hf : f = 1
    · subst hf
      obtain ⟨e0, cr⟩ := h.x t h2 x
      refine .inr ⟨by decide, ?_, ?_⟩
      · show (if wrE k 0 (t : Int) = 0 then _ else wrE k 0 (t : Int)) = 5
        rw [e0]; rfl
      · have e : seqK k (some ((t : Int), x) :: r) = wrK k 0 (t : Int) x := by
          show (if wrE k 0 (t : Int) = 0 then _ else wrK k 0 (t : Int) x) = _
          rw [e0]; rfl
        rw [e]
        exact ⟨cr.g.mono (by omega), cr.dv, cr.ft⟩
    · obtain ⟨e0, q⟩ := h.w hf t h2 x (fun t => 1 ≤ t) (fun u hu => by rcases hu with hu | hu; exact hu; omega)
      have eE : seqE k (some ((t : Int), x) :: r) = seqE (wrK k 0 (t : Int) x) r := by
        show (if wrE k 0 (t : Int) = 0 then seqE (wrK k 0 (t : Int) x) r else _) = _
        rw [e0]; rfl
      have eK : seqK k (some ((t : Int), x) :: r) = seqK (wrK k 0 (t : Int) x) r := by
        show (if wrE k 0 (t : Int) = 0 then seqK (wrK k 0 (t : Int) x) r else _) = _
        rw [e0]; rfl
      rw [eE, eK]
      have e2 : ovA v (some ((t : Int), x) :: r) = ovA (updV v t x) r := by
        show ovA (updV v (t : Int).toNat x) r = _
        rw [Int.toNat_natCast]
      rw [e2]
      rcases ws_run r _ (c + 1) (updV v t x) (dec f) (fun a ha => hA a (List.mem_cons_of_mem _ ha)) q with ⟨q1, f', q2, q3⟩ | ⟨q0, q1, q2⟩
      · exact .inl ⟨q1, f', ⟨q2.g.mono (by simp only [List.length_cons]; omega), q2.dn, q2.fu, q2.nv, q2.dv, q2.ft⟩, fun e => q3 (by rw [e]; rfl)⟩
      · exact .inr ⟨fun e => q0 (by rw [e]; rfl), q1, ⟨q2.g.mono (by simp only [List.length_cons]; omega), q2.dv, q2.ft⟩⟩
theorem wsA_all (L : List Int) (N : Nat) (hN : 8 ≤ N) : ∀ a ∈ wsA L 1 1 7, ∃ (t : Nat) (x : Int), a = some ((t : Int), x) ∧ 1 ≤ t ∧ t < N := by
  intro a ha
  simp only [wsA, List.mem_map, List.mem_range] at ha
  obtain ⟨i, hi, rfl⟩ := ha
  exact ⟨1 + i, L.getD (addN 1 i) default, by simp, by omega, by omega⟩
/-- the sectors behind Write -/
def wrV (i s t a g S : Int) (v : Nat → Int) : Nat → Int := fun u => if u < 8 then [mgc, i, s, t, a, g, S, 0].getD u default else v u
theorem ovA_ws (i s t a g S : Int) (v : Nat → Int) (u : Nat) : ovA v (wsA [mgc, i, s, t, a, g, S, 0] 1 1 7) u = if 1 ≤ u ∧ u < 8 then [mgc, i, s, t, a, g, S, 0].getD u default else v u := by
  have e : wsA [mgc, i, s, t, a, g, S, 0] 1 1 7 = [some (1, i), some (2, s), some (3, t), some (4, a), some (5, g), some (6, S), some (7, 0)] := rfl
  rw [e]
  simp only [ovA, updV]
  by_cases h : 1 ≤ u ∧ u < 8
  · rw [if_pos h]
    obtain h | h | h | h | h | h | h : u = 1 ∨ u = 2 ∨ u = 3 ∨ u = 4 ∨ u = 5 ∨ u = 6 ∨ u = 7 := by omega
    all_goals (subst h; rfl)
  · rw [if_neg h]
    have : u = 0 ∨ 8 ≤ u := by omega
    have a1 : ¬ u = (1 : Int).toNat := by simp; omega
    have a2 : ¬ u = (2 : Int).toNat := by simp; omega
    have a3 : ¬ u = (3 : Int).toNat := by simp; omega
    have a4 : ¬ u = (4 : Int).toNat := by simp; omega
    have a5 : ¬ u = (5 : Int).toNat := by simp; omega
    have a6 : ¬ u = (6 : Int).toNat := by simp; omega
    have a7 : ¬ u = (7 : Int).toNat := by simp; omega
    rw [if_neg a7, if_neg a6, if_neg a5, if_neg a4, if_neg a3, if_neg a2, if_neg a1]
/-- Write, with a power failure at any write: it is done; or the power failed, and all is as it was, or the first sector is 0 -/
theorem lw_run {k : Dk} {N c : Nat} {v : Nat → Int} {f : Int} (h : Q1 k N c v v f (fun _ => False)) (hN : 8 ≤ N) (i s t a g S : Int) :
    (seqE k (lwA i s t a g S) = 0 ∧ ∃ f', Q1 (seqK k (lwA i s t a g S)) N (c + 9) (wrV i s t a g S v) (wrV i s t a g S v) f' (fun _ => False) ∧ (f = 0 → f' = 0)) ∨
    (f ≠ 0 ∧ seqE k (lwA i s t a g S) = 5 ∧ ∃ w T, C1 (seqK k (lwA i s t a g S)) N (c + 9) w T ∧ ((w = v ∧ T = fun _ => False) ∨ (w 0 = 0 ∧ ¬ T 0))) := by
  have W0 : ∀ (r : List Act1), seqE k (some (0, 0) :: r) = (if wrE k 0 ((0 : Nat) : Int) = 0 then seqE (wrK k 0 ((0 : Nat) : Int) 0) r else wrE k 0 ((0 : Nat) : Int)) ∧ seqK k (some (0, 0) :: r) = (if wrE k 0 ((0 : Nat) : Int) = 0 then seqK (wrK k 0 ((0 : Nat) : Int) 0) r else wrK k 0 ((0 : Nat) : Int) 0) := fun r => ⟨rfl, rfl⟩
  unfold lwA
  rw [(W0 _).1, (W0 _).2]
  by_cases hf : f = 1
  · subst hf
    obtain ⟨e0, cr⟩ := h.x 0 (by omega) 0
    rw [e0, if_neg (show ¬ (5 : Int) = 0 by decide), if_neg (show ¬ (5 : Int) = 0 by decide)]
    exact .inr ⟨by decide, rfl, v, _, ⟨cr.g.mono (by omega), cr.dv, cr.ft⟩, .inl ⟨rfl, rfl⟩⟩
  · obtain ⟨e0, q⟩ := h.w hf 0 (by omega) 0 (fun u => u = 0) (fun u hu => by rcases hu with hu | hu; exact hu.elim; exact hu)
    rw [e0, if_pos rfl, if_pos rfl]
    generalize wrK k 0 ((0 : Nat) : Int) 0 = K1 at q ⊢
    obtain ⟨e1, q⟩ := q.f (by omega)
    rw [seqE_cons, seqK_cons]
    show (_ ∧ ∃ f', Q1 _ _ _ _ _ _ _ ∧ _) ∨ _
    rw [show actE K1 none = 0 from e1, if_pos rfl, if_pos rfl]
    show (seqE (flK K1 0) _ = 0 ∧ ∃ f', Q1 (seqK (flK K1 0) _) _ _ _ _ _ _ ∧ _) ∨ (_ ∧ seqE (flK K1 0) _ = 5 ∧ ∃ w T, C1 (seqK (flK K1 0) _) _ _ _ _ ∧ _)
    generalize flK K1 0 = K2 at q ⊢
    have q : Q1 K2 N (c + 1) (updV v 0 0) (updV v 0 0) (dec f) (fun t => 1 ≤ t) := ⟨q.g, q.dn, q.fu, q.nv, q.dv, fun x hx => (q.ft x hx).elim⟩
    rw [(seq_app _ _ _).1, (seq_app _ _ _).2]
    rcases ws_run (wsA [mgc, i, s, t, a, g, S, 0] 1 1 7) K2 (c + 1) _ _ (wsA_all _ N hN) q with ⟨r1, f', r2, r3⟩ | ⟨r0, r1, r2⟩
    · rw [r1, if_pos rfl, if_pos rfl]
      have hl : (wsA [mgc, i, s, t, a, g, S, 0] 1 1 7).length = 7 := by simp [wsA]
      rw [hl] at r2
      generalize seqK K2 (wsA [mgc, i, s, t, a, g, S, 0] 1 1 7) = K3 at r2 ⊢
      obtain ⟨e3, r2⟩ := r2.f (by omega)
      rw [seqE_cons, seqK_cons, show actE K3 none = 0 from e3, if_pos rfl, if_pos rfl]
      show (seqE (flK K3 0) _ = 0 ∧ ∃ f', Q1 (seqK (flK K3 0) _) _ _ _ _ _ _ ∧ _) ∨ (_ ∧ seqE (flK K3 0) _ = 5 ∧ ∃ w T, C1 (seqK (flK K3 0) _) _ _ _ _ ∧ _)
      generalize flK K3 0 = K4 at r2 ⊢
      have W4 : seqE K4 [some (0, mgc), none] = (if wrE K4 0 ((0 : Nat) : Int) = 0 then seqE (wrK K4 0 ((0 : Nat) : Int) mgc) [none] else wrE K4 0 ((0 : Nat) : Int)) ∧ seqK K4 [some (0, mgc), none] = (if wrE K4 0 ((0 : Nat) : Int) = 0 then seqK (wrK K4 0 ((0 : Nat) : Int) mgc) [none] else wrK K4 0 ((0 : Nat) : Int) mgc) := ⟨rfl, rfl⟩
      rw [W4.1, W4.2]
      by_cases hf4 : f' = 1
      · subst hf4
        obtain ⟨e4, cr⟩ := r2.x 0 (by omega) mgc
        rw [e4, if_neg (show ¬ (5 : Int) = 0 by decide), if_neg (show ¬ (5 : Int) = 0 by decide)]
        refine .inr ⟨fun e => ?_, rfl, _, (fun _ => False), ⟨cr.g.mono (by omega), cr.dv, cr.ft⟩, .inr ⟨?_, fun x => x⟩⟩
        · have := r3 (by rw [e]; rfl)
          omega
        · rw [ovA_ws, if_neg (by omega)]; rfl
      · obtain ⟨e4, q5⟩ := r2.w hf4 0 (by omega) mgc (fun u => u = 0) (fun u hu => by rcases hu with hu | hu; exact hu.elim; exact hu)
        rw [e4, if_pos rfl, if_pos rfl]
        generalize wrK K4 0 ((0 : Nat) : Int) mgc = K5 at q5 ⊢
        obtain ⟨e5, q6⟩ := q5.f (by omega)
        have e7 : seqE K5 [none] = 0 ∧ seqK K5 [none] = flK K5 0 := ⟨by show (if chk3 K5 0 0 = 0 then _ else _) = _; rw [e5]; rfl, by show (if chk3 K5 0 0 = 0 then _ else _) = _; rw [e5]; rfl⟩
        rw [e7.1, e7.2]
        have ev : ∀ u, updV (ovA (updV v 0 0) (wsA [mgc, i, s, t, a, g, S, 0] 1 1 7)) 0 mgc u = wrV i s t a g S v u := fun u => by
          show (if u = 0 then mgc else ovA (updV v 0 0) (wsA [mgc, i, s, t, a, g, S, 0] 1 1 7) u) = if u < 8 then _ else v u
          rw [ovA_ws]
          by_cases h0 : u = 0
          · subst h0; rfl
          · rw [if_neg h0]
            by_cases h8 : u < 8
            · rw [if_pos h8, if_pos ⟨by omega, h8⟩]
            · rw [if_neg h8, if_neg (by omega)]
              show (if u = 0 then 0 else v u) = _
              rw [if_neg h0]
        refine .inl ⟨rfl, dec f', ⟨q6.g.mono (by omega), q6.dn, q6.fu, fun u hu => (q6.nv u hu).trans (ev u), fun u hu => (q6.dv u hu).trans (ev u), q6.ft⟩, fun e => ?_⟩
        rw [r3 (by rw [e]; rfl)]; rfl
    · rw [r1, if_neg (show ¬ (5 : Int) = 0 by decide), if_neg (show ¬ (5 : Int) = 0 by decide)]
      exact .inr ⟨fun e => r0 (by rw [e]; rfl), rfl, _, _, ⟨r2.g.mono (by simp [wsA]), r2.dv, r2.ft⟩, .inr ⟨rfl, by omega⟩⟩
/-- Erase, with a power failure at its write -/
theorem le_run {k : Dk} {N c : Nat} {v : Nat → Int} {f : Int} (h : Q1 k N c v v f (fun _ => False)) (hN : 8 ≤ N) :
    (seqE k leA = 0 ∧ ∃ f', Q1 (seqK k leA) N (c + 9) (updV v 0 0) (updV v 0 0) f' (fun _ => False) ∧ (f = 0 → f' = 0)) ∨
    (f ≠ 0 ∧ seqE k leA = 5 ∧ C1 (seqK k leA) N (c + 9) v (fun _ => False)) := by
  have W0 : seqE k leA = (if wrE k 0 ((0 : Nat) : Int) = 0 then seqE (wrK k 0 ((0 : Nat) : Int) 0) [none] else wrE k 0 ((0 : Nat) : Int)) ∧ seqK k leA = (if wrE k 0 ((0 : Nat) : Int) = 0 then seqK (wrK k 0 ((0 : Nat) : Int) 0) [none] else wrK k 0 ((0 : Nat) : Int) 0) := ⟨rfl, rfl⟩
  rw [W0.1, W0.2]
  by_cases hf : f = 1
  · subst hf
    obtain ⟨e0, cr⟩ := h.x 0 (by omega) 0
    rw [e0, if_neg (show ¬ (5 : Int) = 0 by decide), if_neg (show ¬ (5 : Int) = 0 by decide)]
    exact .inr ⟨by decide, rfl, ⟨cr.g.mono (by omega), cr.dv, cr.ft⟩⟩
  · obtain ⟨e0, q⟩ := h.w hf 0 (by omega) 0 (fun u => u = 0) (fun u hu => by rcases hu with hu | hu; exact hu.elim; exact hu)
    rw [e0, if_pos rfl, if_pos rfl]
    generalize wrK k 0 ((0 : Nat) : Int) 0 = K5 at q ⊢
    obtain ⟨e5, q6⟩ := q.f (by omega)
    have e7 : seqE K5 [none] = 0 ∧ seqK K5 [none] = flK K5 0 := ⟨by show (if chk3 K5 0 0 = 0 then _ else _) = _; rw [e5]; rfl, by show (if chk3 K5 0 0 = 0 then _ else _) = _; rw [e5]; rfl⟩
    rw [e7.1, e7.2]
    exact .inl ⟨rfl, dec f, ⟨q6.g.mono (by omega), q6.dn, q6.fu, q6.nv, q6.dv, q6.ft⟩, fun e => by rw [e]; rfl⟩
end Go.Proofs.Ytbgbjgedjmhcaaa
