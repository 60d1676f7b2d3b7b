/- Four literals and four appends to rows of the call's own, in any order that the appends' chain leaves. No conditions but those of each theorem. -/
import Derived.Test.YtdkpjfjmccgaoaaPI
import Derived.Test.YtdkpjfjmccgaoaaH
import Derived.Deep.AppendLies
namespace Go.Proofs.Ytdkpjfjmccgaoaa
open Go.ChangeShapes Go.WideShapes Go.ChangeAt Go.RowKit
set_option linter.unusedVariables false
set_option linter.unusedSimpArgs false

theorem own_grown' {W W' : World} {base e size n : Nat} {v : Value} {xs : List Value} {r : Option Nat} (h : W.ownsRow base e size v n xs) (hg : W.grownBy W' r) (hB : ∀ k, v.ownBlock = some k → r ≠ some k) : W'.ownsRow base e size v n xs := by
  refine ⟨h.1, h.2.imp id fun ⟨g, cap, cur, hv, hb, hh, rest⟩ => ⟨g, cap, cur, hv, hb, ?_, rest⟩⟩
  rw [hg.block g (Array.getElem?_eq_some_iff.1 hh).1 (fun e => hB g (by rw [hv]; rfl) e.symm)]; exact hh
theorem own_lt {w : World} {base e size n : Nat} {v : Value} {xs : List Value} (h : w.ownsRow base e size v n xs) : ∀ k, v.ownBlock = some k → k < w.heap.size := by
  intro k hk
  rcases h.2 with ⟨hv, _⟩ | ⟨g, cap, cur, hv, hb, hh, _⟩
  · rw [hv] at hk; simp [Value.ownBlock] at hk
  · rw [hv] at hk
    have : g = k := by simpa [Value.ownBlock] using hk
    subst this
    exact (Array.getElem?_eq_some_iff.1 hh).1

/-- the number of the operation that builds literal k; its append follows -/
def ix (k : Nat) : Nat := if k = 3 then 42 else 8 * k + 6
theorem ix_ne : ∀ k, k < 4 → ∀ m, m < 4 → (k ≠ m → ix k ≠ ix m) ∧ ix k ≠ ix m + 1 ∧ ix k ≠ 44 + m ∧ ix k + 1 ≠ 44 + m ∧ ix k + 18 ≠ 3 + m ∧ ix k + 19 ≠ 3 + m ∧ ix k ≤ 42 := by decide

/-- what holds of the special slots and of the world on the way -/
def J4 (w0 : World) (base n : Nat) (v : Nat → Value) (ws : Nat → List Nat) (x : Nat → Nat) (L : Array Bool) (a : Act) (w : World) : Prop :=
  L.size = 48 ∧ 62 ≤ a.tmps.size ∧ Below base w0 w ∧ base ≤ w.heap.size ∧ (∀ k, k < 4 → L.getD (44 + k) false = true → L.getD (ix k + 1) false = true) ∧ ∃ V : Nat → Value,
    (∀ k, k < 4 → (L.getD (ix k + 1) false = true → a.tmps[ix k + 19]? = some (V k) ∧ w.ownsRow base 33 1 (V k) (n + 1) (vs (ws k ++ [x k]))) ∧ (L.getD (ix k + 1) false = false → V k = v k ∧ w.ownsRow base 33 1 (V k) n (vs (ws k)))) ∧
    (∀ k, k < 4 → L.getD (44 + k) false = true → a.tmps[3 + k]? = some (V k)) ∧
    (∀ k, k < 4 → L.getD (ix k) false = true → ∃ B, a.tmps[ix k + 18]? = some (.slice (some ⟨B, 0, none⟩) 1 1) ∧ w.heap[B]? = some (.cells #[.int .u64 (x k : Nat)] 33 (0, 0)) ∧ base ≤ B ∧ ∀ m, m < 4 → (V m).ownBlock ≠ some B) ∧
    (∀ k m, k < 4 → m < 4 → k ≠ m → ∀ b, (V k).ownBlock = some b → (V m).ownBlock ≠ some b)

theorem getD_set {L : Array Bool} {i j : Nat} (hi : i < L.size) : (L.setIfInBounds i true).getD j false = if i = j then true else L.getD j false := by
  by_cases e : i = j
  · subst e; rw [getD_set_self hi, if_pos rfl]
  · rw [getD_set_other e, if_neg e]
theorem put_some (a : Act) (s t : Nat) (v : Value) (h : s < a.tmps.size) : (a.put (some s) v).tmps[t]? = if s = t then some v else a.tmps[t]? := by
  by_cases e : s = t
  · subst e; rw [put_at _ _ _ h, if_pos rfl]
  · rw [put_off _ _ _ _ (fun h => e (Option.some.inj h)), if_neg e]
theorem own_any {w : World} {base n : Nat} {V v : Value} {ws : List Nat} {x : Nat} {b : Bool} {A : Prop} (h : (b = true → A ∧ w.ownsRow base 33 1 V (n + 1) (vs (ws ++ [x]))) ∧ (b = false → V = v ∧ w.ownsRow base 33 1 V n (vs ws))) : ∃ m xs, w.ownsRow base 33 1 V m xs := by
  cases b with
  | true => exact ⟨_, _, (h.1 rfl).2⟩
  | false => exact ⟨_, _, (h.2 rfl).2⟩

theorem lit_J {w0 : World} {base n : Nat} {v : Nat → Value} {ws : Nat → List Nat} {x : Nat → Nat} {L : Array Bool} {a : Act} {w : World} (k : Nat) (hk : k < 4) (h : J4 w0 base n v ws x L a w) :
    J4 w0 base n v ws x (L.setIfInBounds (ix k) true) (a.put (some (ix k + 18)) (.slice (some ⟨w.heap.size, 0, none⟩) 1 1)) (w.alloc (.cells #[.int .u64 (x k : Nat)] 33)) := by
  obtain ⟨h1, h2, h3, h4, h5, V, h6, h7, h8, h9⟩ := h
  have hi : ix k < L.size := by have := (ix_ne k hk k hk); omega
  have hs : ix k + 18 < a.tmps.size := by have := (ix_ne k hk k hk); omega
  refine ⟨by simpa using h1, by rw [put_size]; exact h2, h3.alloc h4 _, by simp; omega, fun m hm hl => ?_, V, fun m hm => ⟨fun hl => ?_, fun hl => ?_⟩, fun m hm hl => ?_, fun m hm hl => ?_, h9⟩
  · have e := ix_ne k hk m hm
    rw [getD_set hi, if_neg (by omega)] at hl ⊢
    exact h5 m hm hl
  · have e := ix_ne k hk m hm
    rw [getD_set hi, if_neg (by omega)] at hl
    rw [put_some _ _ _ _ hs, if_neg (by omega)]
    exact ⟨((h6 m hm).1 hl).1, ((h6 m hm).1 hl).2.alloc _⟩
  · have e := ix_ne k hk m hm
    rw [getD_set hi, if_neg (by omega)] at hl
    exact ⟨((h6 m hm).2 hl).1, ((h6 m hm).2 hl).2.alloc _⟩
  · have e := ix_ne k hk m hm
    rw [getD_set hi, if_neg (by omega)] at hl
    rw [put_some _ _ _ _ hs, if_neg (by omega)]
    exact h7 m hm hl
  · by_cases e : k = m
    · subst e
      refine ⟨w.heap.size, by rw [put_some _ _ _ _ hs, if_pos rfl], heap_alloc_new _ _, h4, fun q hq hb => ?_⟩
      obtain ⟨_, _, ho⟩ := own_any (h6 q hq)
      have := own_lt ho _ hb
      omega
    · have e2 := (ix_ne k hk m hm).1 e
      rw [getD_set hi, if_neg e2] at hl
      obtain ⟨B, b1, b2, b3, b4⟩ := h8 m hm hl
      exact ⟨B, by rw [put_some _ _ _ _ hs, if_neg (by omega)]; exact b1, (Below.heap_alloc w _ B (Array.getElem?_eq_some_iff.1 b2).1).trans b2, b3, b4⟩

theorem asg_J {w0 : World} {base n : Nat} {v : Nat → Value} {ws : Nat → List Nat} {x : Nat → Nat} {L : Array Bool} {a : Act} {w : World} (k : Nat) (hk : k < 4) (h : J4 w0 base n v ws x L a w) (hl : L.getD (ix k + 1) false = true) :
    ∃ u, a.tmps[ix k + 19]? = some u ∧ J4 w0 base n v ws x (L.setIfInBounds (44 + k) true) (a.put (some (3 + k)) u) w := by
  obtain ⟨h1, h2, h3, h4, h5, V, h6, h7, h8, h9⟩ := h
  have hi : 44 + k < L.size := by omega
  have hs : 3 + k < a.tmps.size := by omega
  refine ⟨V k, ((h6 k hk).1 hl).1, by simpa using h1, by rw [put_size]; exact h2, h3, h4, fun m hm hl2 => ?_, V, fun m hm => ⟨fun hl2 => ?_, fun hl2 => ?_⟩, fun m hm hl2 => ?_, fun m hm hl2 => ?_, h9⟩
  · have e := ix_ne m hm k hk
    rw [getD_set hi, if_neg (by omega)]
    rw [getD_set hi] at hl2
    by_cases e2 : 44 + k = 44 + m
    · have : k = m := by omega
      subst this; exact hl
    · rw [if_neg e2] at hl2; exact h5 m hm hl2
  · have e := ix_ne m hm k hk
    rw [getD_set hi, if_neg (by omega)] at hl2
    rw [put_some _ _ _ _ hs, if_neg (by omega)]
    exact (h6 m hm).1 hl2
  · have e := ix_ne m hm k hk
    rw [getD_set hi, if_neg (by omega)] at hl2
    exact (h6 m hm).2 hl2
  · rw [put_some _ _ _ _ hs]
    by_cases e : 3 + k = 3 + m
    · have : k = m := by omega
      subst this; rw [if_pos rfl]
    · rw [if_neg e]
      rw [getD_set hi, if_neg (by omega)] at hl2
      exact h7 m hm hl2
  · have e := ix_ne m hm k hk
    rw [getD_set hi, if_neg (by omega)] at hl2
    rw [put_some _ _ _ _ hs, if_neg (by omega)]
    exact h8 m hm hl2

theorem app_J {P : Program} {w0 : World} {base n : Nat} {v : Nat → Value} {ws : Nat → List Nat} {x : Nat → Nat} {L : Array Bool} {a : Act} {w : World} (ty : TypeId) (i : TypeInfo) (hty : P.underlying 23 = some (.slice 33)) (hinf : P.info? 33 = some i) (hz : i.zero = some (.int .u64 0)) (hsz : i.size = 1) (hby : i.bytes = 8) (hn : n ≤ 1000)
    (k : Nat) (hk : k < 4) (h : J4 w0 base n v ws x L a w) (hlit : L.getD (ix k) false = true) (hun : L.getD (ix k + 1) false = false) :
    ∃ lv u w', a.tmps[ix k + 18]? = some lv ∧ (Builtin.append_ #[23, 23] ty #[v k, lv]).run P w = .ok u w' ∧ J4 w0 base n v ws x (L.setIfInBounds (ix k + 1) true) (a.put (some (ix k + 19)) u) w' := by
  obtain ⟨h1, h2, h3, h4, h5, V, h6, h7, h8, h9⟩ := h
  have hxk := ix_ne k hk k hk
  have hi : ix k + 1 < L.size := by omega
  have hs : ix k + 19 < a.tmps.size := by omega
  obtain ⟨B, b1, b2, b3, b4⟩ := h8 k hk hlit
  obtain ⟨hVk, hown⟩ := (h6 k hk).2 hun
  have hBlt := (Array.getElem?_eq_some_iff.1 b2).1
  obtain ⟨g, c, w', hrun, hr, hg, hat, hlt⟩ := run_append_lies (P := P) (w := w) 23 ty base 33 i (.int .u64 0) 1 8 hty hinf hz hsz hby rfl (by decide) (V k) n _ hown ⟨B, 0, none⟩ 1 1 [.int .u64 (x k : Nat)] rfl (World.news_of_block (w := w) (cs := #[.int .u64 (x k : Nat)]) (t := 33) (fr := (0, 0)) (B := B) b2) (by simp [Value.oneCell']) (by omega) (by unfold maxLen; omega) (by omega) h4 _ rfl
  rw [hVk] at hrun
  have gne : ∀ m, m < 4 → m ≠ k → (V m).ownBlock ≠ some g := fun m hm hmk e => by
    rcases hat with h | h
    · exact h9 k m hk hm (fun e => hmk e.symm) g h e
    · obtain ⟨_, _, ho⟩ := own_any (h6 m hm)
      have := own_lt ho _ e
      omega
  refine ⟨_, _, w', b1, hrun, by simpa using h1, by rw [put_size]; exact h2, h3.grown hg h4 (fun q e => own_base hown q e), Nat.le_trans h4 hg.size, fun m hm hl => ?_, fun m => if m = k then .slice (some ⟨g, 0, none⟩) (n + 1) c else V m, fun m hm => ⟨fun hl => ?_, fun hl => ?_⟩, fun m hm hl => ?_, fun m hm hl => ?_, fun p q hp hq hpq b hb => ?_⟩
  · have e := ix_ne k hk m hm
    rw [getD_set hi] at hl ⊢
    rw [if_neg (by omega)] at hl
    by_cases e2 : ix k + 1 = ix m + 1
    · rw [if_pos e2]
    · rw [if_neg e2]; exact h5 m hm hl
  · by_cases e : m = k
    · subst e
      simp only [if_true]
      refine ⟨by rw [put_some _ _ _ _ hs, if_pos rfl], by simpa [vs] using hr⟩
    · have e2 := (ix_ne k hk m hm).1 (fun h => e h.symm)
      simp only [if_neg e]
      rw [getD_set hi, if_neg (by omega)] at hl
      rw [put_some _ _ _ _ hs, if_neg (by omega)]
      exact ⟨((h6 m hm).1 hl).1, own_grown' ((h6 m hm).1 hl).2 hg (fun q hq e3 => h9 m k hm hk e q hq e3)⟩
  · by_cases e : m = k
    · subst e
      rw [getD_set hi, if_pos rfl] at hl
      cases hl
    · have e2 := (ix_ne k hk m hm).1 (fun h => e h.symm)
      simp only [if_neg e]
      rw [getD_set hi, if_neg (by omega)] at hl
      exact ⟨((h6 m hm).2 hl).1, own_grown' ((h6 m hm).2 hl).2 hg (fun q hq e3 => h9 m k hm hk e q hq e3)⟩
  · have e := ix_ne k hk m hm
    rw [getD_set hi, if_neg (by omega)] at hl
    have hmk : m ≠ k := fun e2 => by
      subst e2
      rw [h5 m hm hl] at hun
      cases hun
    simp only [if_neg hmk]
    rw [put_some _ _ _ _ hs, if_neg (by omega)]
    exact h7 m hm hl
  · have e := ix_ne m hm k hk
    rw [getD_set hi, if_neg (by omega)] at hl
    obtain ⟨B2, d1, d2, d3, d4⟩ := h8 m hm hl
    have hB2 := (Array.getElem?_eq_some_iff.1 d2).1
    refine ⟨B2, by rw [put_some _ _ _ _ hs, if_neg (by omega)]; exact d1, (hg.block B2 hB2 (fun e => d4 k hk e.symm)).trans d2, d3, fun q hq => ?_⟩
    by_cases e3 : q = k
    · simp only [if_pos e3]
      intro e4
      have : g = B2 := by simpa [Value.ownBlock] using e4
      subst this
      rcases hat with h | h
      · exact d4 k hk h
      · omega
    · simp only [if_neg e3]; exact d4 q hq
  · by_cases e1 : p = k
    · have e2 : q ≠ k := fun e => hpq (e1.trans e.symm)
      simp only [if_pos e1] at hb
      simp only [if_neg e2]
      have : g = b := by simpa [Value.ownBlock] using hb
      subst this
      exact gne q hq e2
    · simp only [if_neg e1] at hb
      by_cases e2 : q = k
      · simp only [if_pos e2]
        intro e3
        have : g = b := by simpa [Value.ownBlock] using e3
        subst this
        exact gne p hp e1 hb
      · simp only [if_neg e2]
        exact h9 p q hp hq hpq b hb
end Go.Proofs.Ytdkpjfjmccgaoaa
