/- What is known of the sectors of a device: its memory; Failed, Flushed. No conditions but those of each theorem. -/
import Derived.Test.YtfaeieeokelokaaY
namespace Go.Proofs.Ytfaeieeokelokaa
open Go.ChangeShapes Go.WideShapes Go.ChangeAt Go.RowKit
set_option linter.unusedVariables false
set_option linter.unusedSimpArgs false
/-- what is known of a sector -/
structure Sc where
  S : List Int
  kn : Bool
  v : Int
def sf (G : Nat → Nat × Nat) (f : Nat → Sc) (i j : Nat) : Value := if j = 0 then .slice (some ⟨(G i).1, 0, none⟩) (f i).S.length (G i).2 else if j = 1 then .bool (f i).kn else .int .u64 (f i).v
def up {α : Type} (f : Nat → α) (i : Nat) (x : α) : Nat → α := fun j => if j = i then x else f j
theorem up_eq {α : Type} (f : Nat → α) (i : Nat) (x : α) : up f i x i = x := if_pos rfl
theorem up_ne {α : Type} (f : Nat → α) {i j : Nat} (h : j ≠ i) (x : α) : up f i x j = f j := if_neg h
/-- block t is the track of n sectors, which lie in block b -/
structure TK (W : World) (t b cb n : Nat) (G : Nat → Nat × Nat) (f : Nat → Sc) : Prop where
  blk : W.ownsRow 0 93 1 (.slice (some ⟨t, 0, none⟩) 1 1) 1 [.slice (some ⟨b, 0, none⟩) n cb]
  row : W.ownsRow 0 95 3 (.slice (some ⟨b, 0, none⟩) n cb) n (ck 3 n (sf G f))
  inn : ∀ i, i < n → Row W (G i).1 (G i).2 (f i).S
  tb : t ≠ b
  sep : ∀ i, i < n → (G i).1 ≠ t ∧ (G i).1 ≠ b
  lim : n ≤ 1000
theorem TK.gr {W W' : World} {t b cb n : Nat} {G : Nat → Nat × Nat} {f : Nat → Sc} {S : List Nat} (h : TK W t b cb n G f) (hg : Gr S W W') (h1 : t ∉ S) (h2 : b ∉ S) (h3 : ∀ i, i < n → (G i).1 ∉ S) : TK W' t b cb n G f where
  blk := own_gr h.blk hg (fun g hg => by cases hg; exact h1)
  row := own_gr h.row hg (fun g hg => by cases hg; exact h2)
  inn i hi := (h.inn i hi).gr hg (h3 i hi)
  tb := h.tb
  sep := h.sep
  lim := h.lim
theorem TK.below {W W' : World} {t b cb n : Nat} {G : Nat → Nat × Nat} {f : Nat → Sc} (h : TK W t b cb n G f) (hb : Below W.heap.size W W') : TK W' t b cb n G f := h.gr (Gr.of_below hb []) (by simp) (by simp) (fun _ _ => by simp)
theorem TK.cT {W : World} {t b cb n : Nat} {G : Nat → Nat × Nat} {f : Nat → Sc} (h : TK W t b cb n G f) : W.cell? ⟨t, 0, none⟩ = some (.slice (some ⟨b, 0, none⟩) n cb) := World.ownsRow.cellAt h.blk 0 (by omega)
theorem TK.cS {W : World} {t b cb n : Nat} {G : Nat → Nat × Nat} {f : Nat → Sc} (h : TK W t b cb n G f) {i : Nat} (hi : i < n) :
    W.cell? ⟨b, i * 3, none⟩ = some (.slice (some ⟨(G i).1, 0, none⟩) (f i).S.length (G i).2) ∧ W.cell? ⟨b, i * 3 + 1, none⟩ = some (.bool (f i).kn) ∧ W.cell? ⟨b, i * 3 + 2, none⟩ = some (.int .u64 (f i).v) ∧ ∀ j, W.frozen? ⟨b, j, none⟩ = false := by
  have h1 := h.row
  refine ⟨?_, ?_, ?_, fun j => World.ownsRow.frozenAt h1 j⟩
  · show W.cell? ⟨b, i * 3 + 0, none⟩ = _
    rw [World.ownsRow.cellAt h1 _ (lt_mul (j := 0) hi (by omega)), ck_at (j := 0) _ hi (by omega)]; rfl
  · rw [World.ownsRow.cellAt h1 _ (lt_mul (j := 1) hi (by omega)), ck_at (j := 1) _ hi (by omega)]; rfl
  · rw [World.ownsRow.cellAt h1 _ (lt_mul (j := 2) hi (by omega)), ck_at (j := 2) _ hi (by omega)]; rfl
theorem TK.put {W : World} {t b cb n : Nat} {G : Nat → Nat × Nat} {f : Nat → Sc} (h : TK W t b cb n G f) {i j : Nat} (hj : j < 3) (x : Value) (G' : Nat → Nat × Nat) (f' : Nat → Sc)
    (hs : ∀ a c, a < n → c < 3 → (if a = i ∧ c = j then x else sf G f a c) = sf G' f' a c) (hin : ∀ a, a < n → Row W (G' a).1 (G' a).2 (f' a).S) (hsep : ∀ a, a < n → (G' a).1 ≠ t ∧ (G' a).1 ≠ b) :
    TK (W.setCell ⟨b, i * 3 + j, none⟩ x) t b cb n G' f' where
  blk := own_gr h.blk (set_gr W b _ x) (fun g hg => by cases hg; simpa using h.tb)
  row := by
    have h1 := (World.ownsRow.stored h.row (i * 3 + j) x).1
    rw [ck_set _ hj, ck_congr hs] at h1
    exact h1
  inn a ha := (hin a ha).gr (set_gr W b _ x) (by simpa using (hsep a ha).2)
  tb := h.tb
  sep := hsep
  lim := h.lim
theorem TK.put0 {W : World} {t b cb n : Nat} {G : Nat → Nat × Nat} {f : Nat → Sc} (h : TK W t b cb n G f) {i : Nat} (g c : Nat) (X : List Int) (hX : Row W g c X) (h1 : g ≠ t) (h2 : g ≠ b) :
    TK (W.setCell ⟨b, i * 3, none⟩ (.slice (some ⟨g, 0, none⟩) X.length c)) t b cb n (up G i (g, c)) (up f i { f i with S := X }) := by
  refine h.put (i := i) (j := 0) (by omega) _ _ _ (fun a d ha hd => ?_) (fun a ha => ?_) (fun a ha => ?_)
  · by_cases e : a = i
    · subst e
      by_cases e2 : d = 0
      · subst e2; rw [if_pos ⟨rfl, rfl⟩]; unfold sf; rw [if_pos rfl, up_eq, up_eq]
      · rw [if_neg (fun h => e2 h.2)]; unfold sf; rw [if_neg e2, if_neg e2, up_eq]
    · rw [if_neg (fun h => e h.1)]; unfold sf; rw [up_ne _ e, up_ne _ e]
  · by_cases e : a = i
    · subst e; rw [up_eq, up_eq]; exact hX
    · rw [up_ne _ e, up_ne _ e]; exact h.inn a ha
  · by_cases e : a = i
    · subst e; rw [up_eq]; exact ⟨h1, h2⟩
    · rw [up_ne _ e]; exact h.sep a ha
theorem TK.put1 {W : World} {t b cb n : Nat} {G : Nat → Nat × Nat} {f : Nat → Sc} (h : TK W t b cb n G f) {i : Nat} (x : Bool) :
    TK (W.setCell ⟨b, i * 3 + 1, none⟩ (.bool x)) t b cb n G (up f i { f i with kn := x }) := by
  refine h.put (i := i) (j := 1) (by omega) _ _ _ (fun a d ha hd => ?_) (fun a ha => ?_) h.sep
  · by_cases e : a = i
    · subst e
      unfold sf
      rw [up_eq]
      by_cases e2 : d = 1
      · subst e2; rw [if_pos ⟨rfl, rfl⟩]; rfl
      · rw [if_neg (fun h => e2 h.2), if_neg e2, if_neg e2]
    · rw [if_neg (fun h => e h.1)]; unfold sf; rw [up_ne _ e]
  · by_cases e : a = i
    · subst e; rw [up_eq]; exact h.inn a ha
    · rw [up_ne _ e]; exact h.inn a ha
theorem TK.put2 {W : World} {t b cb n : Nat} {G : Nat → Nat × Nat} {f : Nat → Sc} (h : TK W t b cb n G f) {i : Nat} (x : Int) :
    TK (W.setCell ⟨b, i * 3 + 2, none⟩ (.int .u64 x)) t b cb n G (up f i { f i with v := x }) := by
  refine h.put (i := i) (j := 2) (by omega) _ _ _ (fun a d ha hd => ?_) (fun a ha => ?_) h.sep
  · by_cases e : a = i
    · subst e
      unfold sf
      rw [up_eq]
      by_cases e2 : d = 2
      · subst e2; rw [if_pos ⟨rfl, rfl⟩]; rfl
      · have e3 : d = 0 ∨ d = 1 := by omega
        rcases e3 with rfl | rfl
        · rw [if_neg (by omega)]; rfl
        · rw [if_neg (by omega)]; rfl
    · rw [if_neg (fun h => e h.1)]; unfold sf; rw [up_ne _ e]
  · by_cases e : a = i
    · subst e; rw [up_eq]; exact h.inn a ha
    · rw [up_ne _ e]; exact h.inn a ha
theorem row_one (W : World) (x : Int) : Row (W.alloc (.cells #[.int .u64 x] 26)) W.heap.size 1 [x] :=
  World.ownsRow_lit (base := 0) (e := 26) (size := 1) W #[.int .u64 x] 1 (Nat.zero_le _) (by unfold maxLen; omega) rfl
/-- what a call on a track leaves: the same blocks, or new ones -/
def TS (W W' : World) (t b cb n : Nat) (G : Nat → Nat × Nat) (f' : Nat → Sc) : Prop := ∃ G', TK W' t b cb n G' f' ∧ Gr [t, b] W W' ∧ ∀ i, i < n → G' i = G i ∨ W.heap.size ≤ (G' i).1
/-- the first k are changed -/
def upto (k : Nat) (p : Sc → Sc) (f : Nat → Sc) : Nat → Sc := fun i => if i < k then p (f i) else f i
theorem upto_zero (p : Sc → Sc) (f : Nat → Sc) : upto 0 p f = f := by funext i; unfold upto; rw [if_neg (by omega)]
theorem upto_at (k : Nat) (p : Sc → Sc) (f : Nat → Sc) : upto k p f k = f k := if_neg (by omega)
theorem upto_succ (k : Nat) (p : Sc → Sc) (f : Nat → Sc) : up (upto k p f) k (p (f k)) = upto (k + 1) p f := by
  funext a
  unfold up upto
  by_cases e : a = k
  · subst e; rw [if_pos rfl, if_pos (by omega)]
  · rw [if_neg e]
    by_cases e2 : a < k
    · rw [if_pos e2, if_pos (by omega)]
    · rw [if_neg e2, if_neg (by omega)]
theorem upto_same (k : Nat) (p : Sc → Sc) (f : Nat → Sc) (h : p (f k) = f k) : upto k p f = upto (k + 1) p f := by
  rw [← upto_succ, h]
  funext a
  unfold up
  by_cases e : a = k
  · subst e; rw [if_pos rfl, upto_at]
  · rw [if_neg e]
def pFail (s : Sc) : Sc := { s with kn := false }
def pFlush (s : Sc) : Sc := if s.kn then { s with S := [s.v] } else s
set_option maxRecDepth 100000 in
set_option maxHeartbeats 8000000 in
theorem failed_ok {W : World} {t b cb n : Nat} {G : Nat → Nat × Nat} {f : Nat → Sc} (h : TK W t b cb n G f) :
    Calls Try.prog 29 #[.pointer (some ⟨t, 0, none⟩)] W fun e W' => e = .returned (.tuple #[]) ∧ Hid (TK W' t b cb n G (upto n pFail f) ∧ Gr [t, b] W W') := by
  have H := hid h
  have hl := h.lim
  clear h
  go_enter Try.func29, Try.ntmps29
  go_wp2_with fail
  go_loopw [2] (fun iv wr => ∃ (k : Nat), k ≤ n ∧ iv = .int .i64 (k : Int) ∧ Hid (TK wr t b cb n G (upto k pFail f) ∧ Gr [t, b] W wr)) (fun iv _ => n - (intOf iv).toNat)
  case atStart => exact ⟨0, by omega, rfl, hid ⟨by rw [upto_zero]; exact H.out, Gr.refl _ _⟩⟩
  case round =>
    obtain ⟨k, hk, rfl, HS⟩ := hrel
    have c0 := HS.out.1.cT
    by_cases hlt : k < n
    · have hlt' : (k : Int) < (n : Int) := by omega
      obtain ⟨-, c1, -, cf⟩ := HS.out.1.cS hlt
      have HN := hid (HS.out.1.put1 (i := k) false)
      have HG := hid (HS.out.2.trans ((set_gr wr b (k * 3 + 1) (.bool false)).mono (T := [t, b]) (fun x hx => by obtain rfl := List.mem_singleton.1 hx; simp)))
      have HE := hid (show up (upto k pFail f) k { upto k pFail f k with kn := false } = upto (k + 1) pFail f by rw [upto_at]; exact upto_succ k pFail f)
      rw [HE.out] at HN
      clear HS HE
      go_wp2_with fail
      go_roundw
      case rel => exact ⟨k + 1, by omega, by go_num, hid ⟨HN.out, HG.out⟩⟩
      case measure => simp [intOf]; omega
    · obtain rfl : k = n := by omega
      have hlt' : ¬ (k : Int) < (k : Int) := by omega
      go_wp2_with fail
      go_end0
      exact ⟨rfl, hid ⟨HS.out.1, HS.out.2⟩⟩
set_option maxRecDepth 100000 in
set_option maxHeartbeats 8000000 in
theorem flushed_ok {W : World} {t b cb n : Nat} {G : Nat → Nat × Nat} {f : Nat → Sc} (h : TK W t b cb n G f) :
    Calls Try.prog 28 #[.pointer (some ⟨t, 0, none⟩)] W fun e W' => e = .returned (.tuple #[]) ∧ Hid (TS W W' t b cb n G (upto n pFlush f)) := by
  have H := hid h
  have hl := h.lim
  have HT := hid (show t < W.heap.size ∧ b < W.heap.size from ⟨own_lt h.blk, own_lt h.row⟩)
  clear h
  go_enter Try.func28, Try.ntmps28
  go_wp2_with fail
  go_loopw [2] (fun iv wr => ∃ (k : Nat), k ≤ n ∧ iv = .int .i64 (k : Int) ∧ Hid (TS W wr t b cb n G (upto k pFlush f))) (fun iv _ => n - (intOf iv).toNat)
  case atStart => exact ⟨0, by omega, rfl, hid ⟨G, by rw [upto_zero]; exact H.out, Gr.refl _ _, fun _ _ => .inl rfl⟩⟩
  case round =>
    obtain ⟨k, hk, rfl, HS⟩ := hrel
    obtain ⟨G1, k1, k2, k3⟩ := HS.out
    have K1 := hid k1; have K2 := hid k2; have K3 := hid k3
    have c0 := k1.cT
    clear k1 k2 k3 HS
    by_cases hlt : k < n
    · have hlt' : (k : Int) < (n : Int) := by omega
      obtain ⟨cs, c1, c2, cf⟩ := K1.out.cS hlt
      rw [upto_at] at cs c1 c2
      cases hkn : (f k).kn with
      | true =>
        rw [hkn] at c1
        have hb1 := (Below.refl wr.heap.size wr).alloc (Nat.le_refl _) (.cells #[.int .u64 (f k).v] 26)
        have hR := row_one wr (f k).v
        have hlb := own_lt K1.out.row
        have hltt := own_lt K1.out.blk
        have HN := hid ((K1.out.below hb1).put0 (i := k) wr.heap.size 1 [(f k).v] hR (by omega) (by omega))
        have HG := hid (K2.out.trans ((Gr.of_below hb1 [t, b]).trans ((set_gr (wr.alloc (.cells #[.int .u64 (f k).v] 26)) b (k * 3) (.slice (some ⟨wr.heap.size, 0, none⟩) 1 1)).mono (T := [t, b]) (fun x hx => by obtain rfl := List.mem_singleton.1 hx; simp))))
        have HE := hid (show up (upto k pFlush f) k { upto k pFlush f k with S := [(f k).v] } = upto (k + 1) pFlush f by rw [upto_at, ← upto_succ]; unfold pFlush; rw [if_pos hkn])
        have HSz := hid K2.out.size
        rw [HE.out] at HN
        have HN := hid (show TK ((wr.setCell ⟨b, k * 3, none⟩ (.slice (some ⟨wr.heap.size, 0, none⟩) 1 1)).alloc (.cells #[.int .u64 (f k).v] 26)) t b cb n _ _ by rw [← World.setCell_alloc_past _ _ _ _ hlb]; exact HN.out)
        rw [World.setCell_alloc_past _ _ _ _ hlb] at HG
        clear hb1 hR K1 K2 HE
        go_wp2_with fail
        go_roundw
        case rel => exact ⟨k + 1, by omega, by go_num, hid ⟨_, HN.out, HG.out, fun i hi => by
          by_cases e : i = k
          · subst e; right; rw [up_eq]; exact HSz.out
          · rw [up_ne _ e]; exact K3.out i hi⟩⟩
        case measure => simp [intOf]; omega
      | false =>
        rw [hkn] at c1
        have HE := hid (show upto k pFlush f = upto (k + 1) pFlush f from upto_same k pFlush f (by unfold pFlush; rw [hkn]; rfl))
        rw [HE.out] at K1
        clear HE
        go_wp2_with fail
        go_roundw
        case rel => exact ⟨k + 1, by omega, by go_num, hid ⟨G1, K1.out, K2.out, K3.out⟩⟩
        case measure => simp [intOf]; omega
    · obtain rfl : k = n := by omega
      have hlt' : ¬ (k : Int) < (k : Int) := by omega
      go_wp2_with fail
      go_end0
      exact ⟨rfl, hid ⟨G1, K1.out, K2.out, K3.out⟩⟩
end Go.Proofs.Ytfaeieeokelokaa
