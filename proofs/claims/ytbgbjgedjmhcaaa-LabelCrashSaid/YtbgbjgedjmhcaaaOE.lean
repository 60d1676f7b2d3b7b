/- What is known of the sectors of a device: its memory, Tracked, Wrote, Flushed, Failed, Reads (walks of stage 4, moved). No conditions but those of each theorem. -/
import Derived.Test.YtbgbjgedjmhcaaaOD
import Derived.Deep.RegionLaw
import Derived.Deep.AppendLies
namespace Go.Proofs.Ytbgbjgedjmhcaaa.OldD
open Go.ChangeShapes Go.WideShapes Go.ChangeAt Go.RowKit
set_option linter.unusedVariables false
set_option linter.unusedSimpArgs false
theorem own_base {w : World} {base : Nat} {e : TypeId} {size : Nat} {v : Value} {n : Nat} {xs : List Value} (h : w.ownsRow base e size v n xs) : ∀ k, v.ownBlock = some k → base ≤ k := fun k hk => (World.ownsRow.lt h k hk).1
theorem own_slice {w : World} {base e size : Nat} {v : Value} {n : Nat} {xs : List Value} (h : w.ownsRow base e size v n xs) : ∃ a cap, v = .slice a n cap := by
  rcases h.2 with ⟨hv, h0⟩ | ⟨g, cap, cur, hv, _⟩
  · exact ⟨none, 0, by rw [hv, h0]⟩
  · exact ⟨_, cap, hv⟩
theorem row_ofw {W : World} {base n : Nat} {v : Value} {X : List Int} (h : W.ownsRow base 22 1 v n (vu X)) (h1 : 1 ≤ X.length) (hn : n = X.length) : ∃ g cap, v = .slice (some ⟨g, 0, none⟩) X.length cap ∧ base ≤ g ∧ Row W g cap X := by
  subst hn
  rcases h.2 with ⟨_, h0⟩ | ⟨g, cap, cur, hv, hb, hh, r1, r2, r3, r4⟩
  · omega
  · exact ⟨g, cap, hv, hb, h.1, .inr ⟨g, cap, cur, rfl, Nat.zero_le _, hh, r1, r2, r3, r4⟩⟩
/-- what is known of a sector -/
structure Sc where
  S : List Int
  kn : Bool
  v : Int
def sf (G : Nat → Nat × Nat) (f : Nat → Sc) (i j : Nat) : Value := if j = 0 then .slice (some ⟨(G i).1, 0, none⟩) (f i).S.length (G i).2 else if j = 1 then .bool (f i).kn else .int .u64 (f i).v
def up {α : Type} (f : Nat → α) (i : Nat) (x : α) : Nat → α := fun j => if j = i then x else f j
theorem up_eq {α : Type} (f : Nat → α) (i : Nat) (x : α) : up f i x i = x := if_pos rfl
theorem up_ne {α : Type} (f : Nat → α) {i j : Nat} (h : j ≠ i) (x : α) : up f i x j = f j := if_neg h
/-- block t is the track of n sectors, which lie in block b -/
structure TK (W : World) (t b cb n : Nat) (G : Nat → Nat × Nat) (f : Nat → Sc) : Prop where
  blk : W.ownsRow 0 177 1 (.slice (some ⟨t, 0, none⟩) 1 1) 1 [.slice (some ⟨b, 0, none⟩) n cb]
  row : ∃ cr, W.ownsRow 0 179 3 (.slice (some ⟨b, 0, none⟩) n cr) n (ck 3 n (sf G f))
  inn : ∀ i, i < n → Row W (G i).1 (G i).2 (f i).S
  tb : t ≠ b
  sep : ∀ i, i < n → (G i).1 ≠ t ∧ (G i).1 ≠ b
  lim : n ≤ 1000
  cap : n ≤ cb
theorem TK.blt {W : World} {t b cb n : Nat} {G : Nat → Nat × Nat} {f : Nat → Sc} (h : TK W t b cb n G f) : b < W.heap.size := by obtain ⟨cr, h1⟩ := h.row; exact own_lt h1
theorem TK.gr {W W' : World} {t b cb n : Nat} {G : Nat → Nat × Nat} {f : Nat → Sc} {S : List Nat} (h : TK W t b cb n G f) (hg : Gr S W W') (h1 : t ∉ S) (h2 : b ∉ S) (h3 : ∀ i, i < n → (G i).1 ∉ S) : TK W' t b cb n G f where
  blk := own_gr h.blk hg (fun g hg => by cases hg; exact h1)
  row := by obtain ⟨cr, h1⟩ := h.row; exact ⟨cr, own_gr h1 hg (fun g hg => by cases hg; exact h2)⟩
  inn i hi := (h.inn i hi).gr hg (h3 i hi)
  tb := h.tb
  sep := h.sep
  lim := h.lim
  cap := h.cap
theorem TK.below {W W' : World} {t b cb n : Nat} {G : Nat → Nat × Nat} {f : Nat → Sc} (h : TK W t b cb n G f) (hb : Below W.heap.size W W') : TK W' t b cb n G f := h.gr (Gr.of_below hb []) (by simp) (by simp) (fun _ _ => by simp)
theorem TK.cT {W : World} {t b cb n : Nat} {G : Nat → Nat × Nat} {f : Nat → Sc} (h : TK W t b cb n G f) : W.cell? ⟨t, 0, none⟩ = some (.slice (some ⟨b, 0, none⟩) n cb) := World.ownsRow.cellAt h.blk 0 (by omega)
theorem TK.cS {W : World} {t b cb n : Nat} {G : Nat → Nat × Nat} {f : Nat → Sc} (h : TK W t b cb n G f) {i : Nat} (hi : i < n) :
    W.cell? ⟨b, i * 3, none⟩ = some (.slice (some ⟨(G i).1, 0, none⟩) (f i).S.length (G i).2) ∧ W.cell? ⟨b, i * 3 + 1, none⟩ = some (.bool (f i).kn) ∧ W.cell? ⟨b, i * 3 + 2, none⟩ = some (.int .u64 (f i).v) ∧ ∀ j, W.frozen? ⟨b, j, none⟩ = false := by
  obtain ⟨cr, h1⟩ := h.row
  refine ⟨?_, ?_, ?_, fun j => World.ownsRow.frozenAt h1 j⟩
  · show W.cell? ⟨b, i * 3 + 0, none⟩ = _
    rw [World.ownsRow.cellAt h1 _ (lt_mul (j := 0) hi (by omega)), ck_at (j := 0) _ hi (by omega)]; rfl
  · rw [World.ownsRow.cellAt h1 _ (lt_mul (j := 1) hi (by omega)), ck_at (j := 1) _ hi (by omega)]; rfl
  · rw [World.ownsRow.cellAt h1 _ (lt_mul (j := 2) hi (by omega)), ck_at (j := 2) _ hi (by omega)]; rfl
theorem TK.put {W : World} {t b cb n : Nat} {G : Nat → Nat × Nat} {f : Nat → Sc} (h : TK W t b cb n G f) {i j : Nat} (hj : j < 3) (x : Value) (G' : Nat → Nat × Nat) (f' : Nat → Sc)
    (hs : ∀ a c, a < n → c < 3 → (if a = i ∧ c = j then x else sf G f a c) = sf G' f' a c) (hin : ∀ a, a < n → Row W (G' a).1 (G' a).2 (f' a).S) (hsep : ∀ a, a < n → (G' a).1 ≠ t ∧ (G' a).1 ≠ b) :
    TK (W.setCell ⟨b, i * 3 + j, none⟩ x) t b cb n G' f' where
  blk := own_gr h.blk (set_gr W b _ x) (fun g hg => by cases hg; simpa using h.tb)
  row := by
    obtain ⟨cr, h0⟩ := h.row
    have h1 := (World.ownsRow.stored h0 (i * 3 + j) x).1
    rw [ck_set _ hj, ck_congr hs] at h1
    exact ⟨cr, h1⟩
  inn a ha := (hin a ha).gr (set_gr W b _ x) (by simpa using (hsep a ha).2)
  tb := h.tb
  sep := hsep
  lim := h.lim
  cap := h.cap
theorem TK.put0 {W : World} {t b cb n : Nat} {G : Nat → Nat × Nat} {f : Nat → Sc} (h : TK W t b cb n G f) {i : Nat} (g c : Nat) (X : List Int) (hX : Row W g c X) (h1 : g ≠ t) (h2 : g ≠ b) :
    TK (W.setCell ⟨b, i * 3, none⟩ (.slice (some ⟨g, 0, none⟩) X.length c)) t b cb n (up G i (g, c)) (up f i { f i with S := X }) := by
  refine h.put (i := i) (j := 0) (by omega) _ _ _ (fun a d ha hd => ?_) (fun a ha => ?_) (fun a ha => ?_)
  · by_cases e : a = i
    · subst e
      by_cases e2 : d = 0
      · subst e2; rw [if_pos ⟨rfl, rfl⟩]; unfold sf; rw [if_pos rfl, up_eq, up_eq]
      · rw [if_neg (fun h => e2 h.2)]; unfold sf; rw [if_neg e2, if_neg e2, up_eq]
    · rw [if_neg (fun h => e h.1)]; unfold sf; rw [up_ne _ e, up_ne _ e]
  · by_cases e : a = i
    · subst e; rw [up_eq, up_eq]; exact hX
    · rw [up_ne _ e, up_ne _ e]; exact h.inn a ha
  · by_cases e : a = i
    · subst e; rw [up_eq]; exact ⟨h1, h2⟩
    · rw [up_ne _ e]; exact h.sep a ha
theorem TK.put1 {W : World} {t b cb n : Nat} {G : Nat → Nat × Nat} {f : Nat → Sc} (h : TK W t b cb n G f) {i : Nat} (x : Bool) :
    TK (W.setCell ⟨b, i * 3 + 1, none⟩ (.bool x)) t b cb n G (up f i { f i with kn := x }) := by
  refine h.put (i := i) (j := 1) (by omega) _ _ _ (fun a d ha hd => ?_) (fun a ha => ?_) h.sep
  · by_cases e : a = i
    · subst e
      unfold sf
      rw [up_eq]
      by_cases e2 : d = 1
      · subst e2; rw [if_pos ⟨rfl, rfl⟩]; rfl
      · rw [if_neg (fun h => e2 h.2), if_neg e2, if_neg e2]
    · rw [if_neg (fun h => e h.1)]; unfold sf; rw [up_ne _ e]
  · by_cases e : a = i
    · subst e; rw [up_eq]; exact h.inn a ha
    · rw [up_ne _ e]; exact h.inn a ha
theorem TK.put2 {W : World} {t b cb n : Nat} {G : Nat → Nat × Nat} {f : Nat → Sc} (h : TK W t b cb n G f) {i : Nat} (x : Int) :
    TK (W.setCell ⟨b, i * 3 + 2, none⟩ (.int .u64 x)) t b cb n G (up f i { f i with v := x }) := by
  refine h.put (i := i) (j := 2) (by omega) _ _ _ (fun a d ha hd => ?_) (fun a ha => ?_) h.sep
  · by_cases e : a = i
    · subst e
      unfold sf
      rw [up_eq]
      by_cases e2 : d = 2
      · subst e2; rw [if_pos ⟨rfl, rfl⟩]; rfl
      · have e3 : d = 0 ∨ d = 1 := by omega
        rcases e3 with rfl | rfl
        · rw [if_neg (by omega)]; rfl
        · rw [if_neg (by omega)]; rfl
    · rw [if_neg (fun h => e h.1)]; unfold sf; rw [up_ne _ e]
  · by_cases e : a = i
    · subst e; rw [up_eq]; exact h.inn a ha
    · rw [up_ne _ e]; exact h.inn a ha
theorem row_one (W : World) (x : Int) : Row (W.alloc (.cells #[.int .u64 x] 22)) W.heap.size 1 [x] :=
  World.ownsRow_lit (base := 0) (e := 22) (size := 1) W #[.int .u64 x] 1 (Nat.zero_le _) (by unfold maxLen; omega) rfl
/-- what a call on a track leaves: the same blocks, or new ones -/
def TS (W W' : World) (t b cb n : Nat) (G : Nat → Nat × Nat) (f' : Nat → Sc) : Prop := ∃ G', TK W' t b cb n G' f' ∧ Gr [t, b] W W' ∧ ∀ i, i < n → G' i = G i ∨ W.heap.size ≤ (G' i).1
/-- the first k are changed -/
def upto (k : Nat) (p : Sc → Sc) (f : Nat → Sc) : Nat → Sc := fun i => if i < k then p (f i) else f i
theorem upto_zero (p : Sc → Sc) (f : Nat → Sc) : upto 0 p f = f := by funext i; unfold upto; rw [if_neg (by omega)]
theorem upto_at (k : Nat) (p : Sc → Sc) (f : Nat → Sc) : upto k p f k = f k := if_neg (by omega)
theorem upto_succ (k : Nat) (p : Sc → Sc) (f : Nat → Sc) : up (upto k p f) k (p (f k)) = upto (k + 1) p f := by
  funext a
  unfold up upto
  by_cases e : a = k
  · subst e; rw [if_pos rfl, if_pos (by omega)]
  · rw [if_neg e]
    by_cases e2 : a < k
    · rw [if_pos e2, if_pos (by omega)]
    · rw [if_neg e2, if_neg (by omega)]
theorem upto_same (k : Nat) (p : Sc → Sc) (f : Nat → Sc) (h : p (f k) = f k) : upto k p f = upto (k + 1) p f := by
  rw [← upto_succ, h]
  funext a
  unfold up
  by_cases e : a = k
  · subst e; rw [if_pos rfl, upto_at]
  · rw [if_neg e]
def pFail (s : Sc) : Sc := { s with kn := false }
def pFlush (s : Sc) : Sc := if s.kn then { s with S := [s.v] } else s
set_option maxRecDepth 100000 in
set_option maxHeartbeats 8000000 in
theorem failed_ok {W : World} {t b cb n : Nat} {G : Nat → Nat × Nat} {f : Nat → Sc} (h : TK W t b cb n G f) :
    Calls Try.prog 107 #[.pointer (some ⟨t, 0, none⟩)] W fun e W' => e = .returned (.tuple #[]) ∧ Hid (TK W' t b cb n G (upto n pFail f) ∧ Gr [t, b] W W') := by
  have H := hid h
  have hl := h.lim
  clear h
  go_enter Try.func107, Try.ntmps107
  go_wp2_with fail
  go_loopw [2] (fun iv wr => ∃ (k : Nat), k ≤ n ∧ iv = .int .i64 (k : Int) ∧ Hid (TK wr t b cb n G (upto k pFail f) ∧ Gr [t, b] W wr)) (fun iv _ => n - (intOf iv).toNat)
  case atStart => exact ⟨0, by omega, rfl, hid ⟨by rw [upto_zero]; exact H.out, Gr.refl _ _⟩⟩
  case round =>
    obtain ⟨k, hk, rfl, HS⟩ := hrel
    have c0 := HS.out.1.cT
    by_cases hlt : k < n
    · have hlt' : (k : Int) < (n : Int) := by omega
      obtain ⟨-, c1, -, cf⟩ := HS.out.1.cS hlt
      have HN := hid (HS.out.1.put1 (i := k) false)
      have HG := hid (HS.out.2.trans ((set_gr wr b (k * 3 + 1) (.bool false)).mono (T := [t, b]) (fun x hx => by obtain rfl := List.mem_singleton.1 hx; simp)))
      have HE := hid (show up (upto k pFail f) k { upto k pFail f k with kn := false } = upto (k + 1) pFail f by rw [upto_at]; exact upto_succ k pFail f)
      rw [HE.out] at HN
      clear HS HE
      go_wp2_with fail
      go_roundw
      case rel => exact ⟨k + 1, by omega, by go_num, hid ⟨HN.out, HG.out⟩⟩
      case measure => simp [intOf]; omega
    · obtain rfl : k = n := by omega
      have hlt' : ¬ (k : Int) < (k : Int) := by omega
      go_wp2_with fail
      go_end0
      exact ⟨rfl, hid ⟨HS.out.1, HS.out.2⟩⟩
set_option maxRecDepth 100000 in
set_option maxHeartbeats 8000000 in
theorem flushed_ok {W : World} {t b cb n : Nat} {G : Nat → Nat × Nat} {f : Nat → Sc} (h : TK W t b cb n G f) :
    Calls Try.prog 77 #[.pointer (some ⟨t, 0, none⟩)] W fun e W' => e = .returned (.tuple #[]) ∧ Hid (TS W W' t b cb n G (upto n pFlush f)) := by
  have H := hid h
  have hl := h.lim
  have HT := hid (show t < W.heap.size ∧ b < W.heap.size from ⟨own_lt h.blk, h.blt⟩)
  clear h
  go_enter Try.func77, Try.ntmps77
  go_wp2_with fail
  go_loopw [2] (fun iv wr => ∃ (k : Nat), k ≤ n ∧ iv = .int .i64 (k : Int) ∧ Hid (TS W wr t b cb n G (upto k pFlush f))) (fun iv _ => n - (intOf iv).toNat)
  case atStart => exact ⟨0, by omega, rfl, hid ⟨G, by rw [upto_zero]; exact H.out, Gr.refl _ _, fun _ _ => .inl rfl⟩⟩
  case round =>
    obtain ⟨k, hk, rfl, HS⟩ := hrel
    obtain ⟨G1, k1, k2, k3⟩ := HS.out
    have K1 := hid k1; have K2 := hid k2; have K3 := hid k3
    have c0 := k1.cT
    clear k1 k2 k3 HS
    by_cases hlt : k < n
    · have hlt' : (k : Int) < (n : Int) := by omega
      obtain ⟨cs, c1, c2, cf⟩ := K1.out.cS hlt
      rw [upto_at] at cs c1 c2
      cases hkn : (f k).kn with
      | true =>
        rw [hkn] at c1
        have hb1 := (Below.refl wr.heap.size wr).alloc (Nat.le_refl _) (.cells #[.int .u64 (f k).v] 22)
        have hR := row_one wr (f k).v
        have hlb := K1.out.blt
        have hltt := own_lt K1.out.blk
        have HN := hid ((K1.out.below hb1).put0 (i := k) wr.heap.size 1 [(f k).v] hR (by omega) (by omega))
        have HG := hid (K2.out.trans ((Gr.of_below hb1 [t, b]).trans ((set_gr (wr.alloc (.cells #[.int .u64 (f k).v] 22)) b (k * 3) (.slice (some ⟨wr.heap.size, 0, none⟩) 1 1)).mono (T := [t, b]) (fun x hx => by obtain rfl := List.mem_singleton.1 hx; simp))))
        have HE := hid (show up (upto k pFlush f) k { upto k pFlush f k with S := [(f k).v] } = upto (k + 1) pFlush f by rw [upto_at, ← upto_succ]; unfold pFlush; rw [if_pos hkn])
        have HSz := hid K2.out.size
        rw [HE.out] at HN
        have HN := hid (show TK ((wr.setCell ⟨b, k * 3, none⟩ (.slice (some ⟨wr.heap.size, 0, none⟩) 1 1)).alloc (.cells #[.int .u64 (f k).v] 22)) t b cb n _ _ by rw [← World.setCell_alloc_past _ _ _ _ hlb]; exact HN.out)
        rw [World.setCell_alloc_past _ _ _ _ hlb] at HG
        clear hb1 hR K1 K2 HE
        go_wp2_with fail
        go_roundw
        case rel => exact ⟨k + 1, by omega, by go_num, hid ⟨_, HN.out, HG.out, fun i hi => by
          by_cases e : i = k
          · subst e; right; rw [up_eq]; exact HSz.out
          · rw [up_ne _ e]; exact K3.out i hi⟩⟩
        case measure => simp [intOf]; omega
      | false =>
        rw [hkn] at c1
        have HE := hid (show upto k pFlush f = upto (k + 1) pFlush f from upto_same k pFlush f (by unfold pFlush; rw [hkn]; rfl))
        rw [HE.out] at K1
        clear HE
        go_wp2_with fail
        go_roundw
        case rel => exact ⟨k + 1, by omega, by go_num, hid ⟨G1, K1.out, K2.out, K3.out⟩⟩
        case measure => simp [intOf]; omega
    · obtain rfl : k = n := by omega
      have hlt' : ¬ (k : Int) < (k : Int) := by omega
      go_wp2_with fail
      go_end0
      exact ⟨rfl, hid ⟨G1, K1.out, K2.out, K3.out⟩⟩
theorem up_up {α : Type} (f : Nat → α) (i : Nat) (x y : α) : up (up f i x) i y = up f i y := by
  funext a
  unfold up
  by_cases e : a = i
  · rw [if_pos e, if_pos e]
  · rw [if_neg e, if_neg e, if_neg e]
theorem gr_b {W : World} {t b j : Nat} {x : Value} : Gr [t, b] W (W.setCell ⟨b, j, none⟩ x) := (set_gr W b j x).mono (fun y hy => by obtain rfl := List.mem_singleton.1 hy; simp)
theorem TS.of {W W2 : World} {t b cb n : Nat} {G : Nat → Nat × Nat} {f' : Nat → Sc} {i : Nat} {g c : Nat} (h : TK W2 t b cb n (up G i (g, c)) f') (h1 : Gr [t, b] W W2) (hg : W.heap.size ≤ g) : TS W W2 t b cb n G f' :=
  ⟨_, h, h1, fun j hj => by
    by_cases e : j = i
    · subst e; right; rw [up_eq]; exact hg
    · rw [up_ne _ e]; exact .inl rfl⟩
set_option maxRecDepth 100000 in
set_option maxHeartbeats 8000000 in
theorem wrote_ok {W : World} {t b cb n : Nat} {G : Nat → Nat × Nat} {f : Nat → Sc} (h : TK W t b cb n G f) (i : Nat) (hi : i < n) (v : Int) (d : Bool) (hS : (f i).S.length ≤ 1000) :
    Calls Try.prog 75 #[.pointer (some ⟨t, 0, none⟩), .int .i64 (i : Int), .int .u64 v, .bool d] W fun e W' => e = .returned (.tuple #[]) ∧ Hid (TS W W' t b cb n G (up f i ⟨(f i).S ++ [v], d, v⟩)) := by
  obtain ⟨i0, hi0, hz0, hz1, hz2⟩ := info_parts Try.info22
  have HI := hid hi0; have HZ0 := hid hz0; have HZ1 := hid hz1; have HZ2 := hid hz2
  have H := hid h
  have hl := h.lim
  have c0 := h.cT
  obtain ⟨cs, c1, c2, cf⟩ := h.cS hi
  have HR := hid (h.inn i hi)
  have HT := hid (show t < W.heap.size ∧ b < W.heap.size from ⟨own_lt h.blk, h.blt⟩)
  have HLn := hid (show (vu (f i).S).length = (f i).S.length * 1 by rw [vu_len]; omega)
  have hi' : (i : Int) < (n : Int) := by omega
  have HIN := hid hi
  have HSL := hid hS
  clear h hi0 hz0 hz1 hz2 hi
  go_enter Try.func75, Try.ntmps75
  go_wp2_with (first | (at_builtin; refine wpList_append_own _ rfl _ _ 25 rfl W.heap.size 22 i0 (.int .u64 0) 1 8 Try.underlying25 HI.out HZ0.out HZ1.out HZ2.out rfl (by decide) (.slice none 0 0) 0 [] rfl (World.ownsRow_nil _ _ _ _) ⟨(G i).1, 0, none⟩ (f i).S.length (G i).2 (vu (f i).S) rfl HLn.out HR.out.news (one_vu _) (by unfold maxLen; omega) (by omega) (by omega) ?_; intro v1 w1 hown1 hgrow1 _; simp only [Nat.zero_add, List.nil_append] at hown1; obtain ⟨va, vc, rfl⟩ := own_slice hown1; have hb1 : Below W.heap.size W w1 := (Below.refl _ _).grown hgrow1 (Nat.le_refl _) (fun k e => by simp [Value.ownBlock] at e); have hsz1 := hb1.size; have HB1 := hid hb1; have HO1 := hid hown1; clear hown1 hgrow1 hb1) | (at_builtin; refine wpList_append_own _ rfl _ _ 25 rfl W.heap.size 22 i0 (.int .u64 0) 1 8 Try.underlying25 HI.out HZ0.out HZ1.out HZ2.out rfl (by decide) _ _ _ rfl (HO1.out.alloc _) ⟨w1.heap.size, 0, none⟩ 1 1 [.int .u64 v] rfl rfl (cell_one_new _ _ _) (by simp [Value.oneCell']) (by have := HSL.out; unfold maxLen; omega) (by have := HSL.out; omega) (by simp; omega) ?_; intro v2 w2 hown2 hgrow2 _; obtain ⟨X2, hX2⟩ : ∃ X2, X2 = (f i).S ++ [v] := ⟨_, rfl⟩; obtain ⟨g2, cg2, rfl, hg2, hR2⟩ := row_ofw (X := X2) (by rw [hX2]; simp only [vu, List.map_append, List.map_cons, List.map_nil]; exact hown2) (by rw [hX2]; simp) (by rw [hX2]; simp); have hb2 : Below W.heap.size W w2 := (HB1.out.alloc hsz1 _).grown hgrow2 (by simp; omega) (own_base HO1.out); have HK2 := hid (H.out.below hb2); have HG2 := hid (Gr.of_below hb2 [t, b]); obtain ⟨cs2, c12, c22, cf2⟩ := HK2.out.cS HIN.out; have HR2 := hid hR2; have HX2 := hid hX2; clear hown2 hgrow2 hb2 hR2 hX2 HO1 HB1))
  have h2 := ((HK2.out.put0 (i := i) g2 cg2 X2 HR2.out (by have := HT.out; omega) (by have := HT.out; omega)).put1 (i := i) d).put2 (i := i) v
  rw [up_eq, up_up, up_eq, up_up, HX2.out] at h2
  go_end0
  exact ⟨rfl, hid (TS.of (i := i) (by first | exact h2 | (rw [HX2.out]; exact h2)) (HG2.out.trans (gr_b.trans (gr_b.trans gr_b))) hg2)⟩
set_option maxRecDepth 100000 in
set_option maxHeartbeats 8000000 in
theorem reads_ok {W : World} {t b cb n : Nat} {G : Nat → Nat × Nat} {f : Nat → Sc} (h : TK W t b cb n G f) (i : Nat) (hi : i < n) (v : Int) (hk : (f i).kn = false) (hS : (f i).S.length ≤ 1000) :
    Calls Try.prog 76 #[.pointer (some ⟨t, 0, none⟩), .int .i64 (i : Int), .int .u64 v, .bool true] W fun e W' => e = .returned (.bool (decide (v ∈ (f i).S))) ∧ Hid (TS W W' t b cb n G (up f i ⟨[v], true, v⟩)) := by
  have H := hid h
  have hl := h.lim
  have c0 := h.cT
  obtain ⟨cs, c1, c2, cf⟩ := h.cS hi
  rw [hk] at c1
  have HR := hid (h.inn i hi)
  have HT := hid (show t < W.heap.size ∧ b < W.heap.size from ⟨own_lt h.blk, h.blt⟩)
  have hbW : b < W.heap.size := HT.out.2
  have hi' : (i : Int) < (n : Int) := by omega
  have HIN := hid hi
  have HSL := hid hS
  clear h hi
  generalize hX : (f i).S = X at *
  go_enter Try.func76, Try.ntmps76
  go_wp2_with fail
  go_loopw [10, 11] (fun bv iv wr => ∃ (k : Nat), k ≤ X.length ∧ iv = .int .i64 (k : Int) ∧ bv = .bool (decide (v ∈ X.take k)) ∧ wr = W) (fun _ iv _ => X.length - (intOf iv).toNat)
  case atStart => exact ⟨0, by omega, rfl, by simp, rfl⟩
  case round =>
    obtain ⟨k, hk2, rfl, rfl, rfl⟩ := hrel
    by_cases hlt : k < X.length
    · have hlt' : (k : Int) < (X.length : Int) := by omega
      have x0 := HR.out.at k hlt
      have HTK := hid (show decide (v ∈ X.take (k + 1)) = (decide (v ∈ X.take k) || decide (ge X k = v)) by
        have h9 : (v ∈ X.take (k + 1)) ↔ (v ∈ X.take k ∨ ge X k = v) := by
          rw [List.take_succ_eq_append_getElem hlt, List.mem_append, List.mem_singleton]
          unfold ge
          rw [List.getElem?_eq_getElem hlt]
          exact or_congr Iff.rfl eq_comm
        rw [Bool.eq_iff_iff]
        simp only [decide_eq_true_eq, Bool.or_eq_true]
        exact h9)
      cases hd : decide (v ∈ X.take k) with
      | true =>
        rw [hd] at HTK
        go_wp2_with fail
        go_roundw
        case rel => exact ⟨k + 1, by omega, by go_num, by rw [HTK.out]; rfl, trivial⟩
        case measure => simp [intOf]; omega
      | false =>
        rw [hd] at HTK
        go_wp2_with fail
        go_roundw
        case rel => exact ⟨k + 1, by omega, by go_num, by rw [HTK.out]; simp; rfl, trivial⟩
        case measure => simp [intOf]; omega
    · obtain rfl : k = X.length := by omega
      have hlt' : ¬ (X.length : Int) < (X.length : Int) := by omega
      rw [List.take_length]
      have k1 := (H.out.put1 (i := i) true).put2 (i := i) v
      rw [up_eq, up_up] at k1
      generalize hW1 : (wr.setCell ⟨b, i * 3 + 1, none⟩ (.bool true)).setCell ⟨b, i * 3 + 2, none⟩ (.int .u64 v) = w1 at k1
      have hg1 : Gr [t, b] wr w1 := by rw [← hW1]; exact gr_b.trans gr_b
      have hlb1 : b < w1.heap.size := k1.blt
      have hlt1 : t < w1.heap.size := own_lt k1.blk
      have hb1 := (Below.refl w1.heap.size w1).alloc (Nat.le_refl _) (.cells #[.int .u64 v] 22)
      have h2 := (k1.below hb1).put0 (i := i) w1.heap.size 1 [v] (row_one w1 v) (by omega) (by omega)
      rw [up_eq, up_up, World.setCell_alloc_past _ _ _ _ hlb1] at h2
      have H2 := hid (show TK ((w1.setCell ⟨b, i * 3, none⟩ (.slice (some ⟨w1.heap.size, 0, none⟩) 1 1)).alloc (.cells #[.int .u64 v] 22)) t b cb n _ _ from h2)
      have HG2 := hid (hg1.trans ((gr_b (t := t) (x := .slice (some ⟨w1.heap.size, 0, none⟩) 1 1)).trans (Gr.of_below ((Below.refl (w1.setCell ⟨b, i * 3, none⟩ (.slice (some ⟨w1.heap.size, 0, none⟩) 1 1)).heap.size _).alloc (Nat.le_refl _) (.cells #[.int .u64 v] 22)) [t, b])))
      have HS1 := hid hg1.size
      obtain ⟨cs1, c11, c21, cf1⟩ := k1.cS HIN.out
      clear k1 hb1 h2 hg1 hlt1
      go_wp2_with fail
      go_ret
      exact ⟨rfl, hid (TS.of (i := i) H2.out HG2.out HS1.out)⟩
/-- a track that is being built -/
structure TB (B : Nat) (W : World) (t : Nat) (ua : Option Addr) (uc n : Nat) (G : Nat → Nat × Nat) (f : Nat → Sc) : Prop where
  blk : W.ownsRow 0 177 1 (.slice (some ⟨t, 0, none⟩) 1 1) 1 [.slice ua n uc]
  row : W.ownsRow 0 179 3 (.slice ua n uc) n (ck 3 n (sf G f))
  inn : ∀ i, i < n → Row W (G i).1 (G i).2 (f i).S
  st : B ≤ t
  su : ∀ g, (Value.slice ua n uc).ownBlock = some g → B ≤ g ∧ g ≠ t
  sg : ∀ i, i < n → B ≤ (G i).1 ∧ (G i).1 ≠ t ∧ (Value.slice ua n uc).ownBlock ≠ some (G i).1
theorem TB.below {B : Nat} {W W' : World} {t : Nat} {ua : Option Addr} {uc n : Nat} {G : Nat → Nat × Nat} {f : Nat → Sc} (h : TB B W t ua uc n G f) (hb : Below W.heap.size W W') : TB B W' t ua uc n G f where
  blk := own_gr h.blk (Gr.of_below hb []) (fun _ _ => by simp)
  row := own_gr h.row (Gr.of_below hb []) (fun _ _ => by simp)
  inn i hi := (h.inn i hi).gr (Gr.of_below hb []) (by simp)
  st := h.st
  su := h.su
  sg := h.sg
theorem TB.add {B : Nat} {W : World} {t : Nat} {ua : Option Addr} {uc n : Nat} {G : Nat → Nat × Nat} {f : Nat → Sc} (h : TB B W t ua uc n G f) (hB : B ≤ W.heap.size) (x : Int) (hf : f n = ⟨[x], true, x⟩) (g uc' : Nat) (W1 W2 : World)
    (hW1 : W1 = (W.alloc (.cells #[.int .u64 x] 22)).alloc (.cells #[.slice (some ⟨W.heap.size, 0, none⟩) 1 1, .bool true, .int .u64 x] 179))
    (hr : W2.ownsRow 0 179 3 (.slice (some ⟨g, 0, none⟩) (n + 1) uc') (n + 1) (ck 3 n (sf G f) ++ [.slice (some ⟨W.heap.size, 0, none⟩) 1 1, .bool true, .int .u64 x]))
    (hg : W1.grownBy W2 (Value.slice ua n uc).ownBlock) (hlie : (Value.slice ua n uc).ownBlock = some g ∨ g = W1.heap.size) :
    W2.cell? ⟨t, 0, none⟩ = some (.slice ua n uc) ∧ W2.frozen? ⟨t, 0, none⟩ = false ∧
    TB B (W2.setCell ⟨t, 0, none⟩ (.slice (some ⟨g, 0, none⟩) (n + 1) uc')) t (some ⟨g, 0, none⟩) uc' (n + 1) (up G n (W.heap.size, 1)) f ∧ Below B W (W2.setCell ⟨t, 0, none⟩ (.slice (some ⟨g, 0, none⟩) (n + 1) uc')) := by
  have hs : W1.heap.size = W.heap.size + 2 := by rw [hW1]; simp
  have hb1 : Below W.heap.size W W1 := by rw [hW1]; exact ((Below.refl _ _).alloc (Nat.le_refl _) _).alloc (by simp) _
  have hbb : Below (W.alloc (.cells #[.int .u64 x] 22)).heap.size (W.alloc (.cells #[.int .u64 x] 22)) W1 := by rw [hW1]; exact (Below.refl _ _).alloc (Nat.le_refl _) _
  have hg1 : Gr (Value.slice ua n uc).ownBlock.toList W1 W2 := Gr.of_grown hg (fun k hk => by simp [hk])
  have hG : Gr (Value.slice ua n uc).ownBlock.toList W W2 := (Gr.of_below hb1 _).trans hg1
  have htl : t < W.heap.size := own_lt h.blk
  have hul : ∀ k, (Value.slice ua n uc).ownBlock = some k → k < W.heap.size := fun k hk => (World.ownsRow.lt h.row k hk).2
  have hgt : g ≠ t := by
    rcases hlie with e | e
    · exact (h.su g e).2
    · omega
  have hgB : B ≤ g := by
    rcases hlie with e | e
    · exact (h.su g e).1
    · omega
  have hgW : ∀ i, i < n → (G i).1 ≠ g := fun i hi e => by
    rcases hlie with e2 | e2
    · exact (h.sg i hi).2.2 (by rw [e2, e])
    · have := (h.inn i hi).lt; omega
  have hgn : W.heap.size ≠ g := by
    rcases hlie with e2 | e2
    · have := hul g e2; omega
    · omega
  have tn : t ∉ (Value.slice ua n uc).ownBlock.toList := fun hx => (h.su t (by simpa using hx)).2 rfl
  have b2 := own_gr h.blk hG (fun k hk => by cases hk; exact tn)
  have b3 := (World.ownsRow.stored b2 0 (.slice (some ⟨g, 0, none⟩) (n + 1) uc')).1
  have e1 : ck 3 n (sf G f) ++ [.slice (some ⟨W.heap.size, 0, none⟩) 1 1, .bool true, .int .u64 x] = ck 3 (n + 1) (sf (up G n (W.heap.size, 1)) f) := by
    have e : [Value.slice (some ⟨W.heap.size, 0, none⟩) 1 1, .bool true, .int .u64 x] = ck 3 1 (fun _ j => if j = 0 then .slice (some ⟨W.heap.size, 0, none⟩) 1 1 else if j = 1 then .bool true else .int .u64 x) := by
      simp [ck, List.range_succ]
    rw [e, ck_app]
    refine ck_congr fun i j hi hj => ?_
    by_cases hlt : i < n
    · rw [if_pos hlt]; unfold sf; rw [up_ne _ (by omega)]
    · obtain rfl : i = n := by omega
      rw [if_neg hlt]; unfold sf; rw [up_eq, hf]; rfl
  have r3 := own_gr hr (set_gr W2 t 0 (.slice (some ⟨g, 0, none⟩) (n + 1) uc')) (fun k hk => by cases hk; simpa using hgt)
  rw [e1] at r3
  refine ⟨World.ownsRow.cellAt b2 0 (by omega), World.ownsRow.frozenAt b2 0, ⟨b3, r3, fun i hi => ?_, h.st, fun k hk => by cases hk; exact ⟨hgB, hgt⟩, fun i hi => ?_⟩, (hG.below (B := B) (fun k hk => (h.su k (by simpa using hk)).1) hB).trans ((set_gr W2 t 0 _).below (fun k hk => by obtain rfl := List.mem_singleton.1 hk; exact h.st) (by have := hG.size; omega))⟩
  · by_cases e : i = n
    · subst e
      rw [up_eq, hf]
      have q := ((row_one W x).gr (Gr.of_below hbb []) (by simp)).gr hg1 (fun hx => by have := hul _ (by simpa using hx); omega)
      exact q.gr (set_gr W2 t 0 _) (by simp; omega)
    · rw [up_ne _ e]
      have hi' : i < n := by omega
      exact ((h.inn i hi').gr hG (fun hx => (h.sg i hi').2.2 (by simpa using hx))).gr (set_gr W2 t 0 _) (by simpa using (h.sg i hi').2.1)
  · by_cases e : i = n
    · subst e; rw [up_eq]; exact ⟨hB, by show W.heap.size ≠ t; omega, fun hx => by cases hx; exact hgn rfl⟩
    · rw [up_ne _ e]
      have hi' : i < n := by omega
      exact ⟨(h.sg i hi').1, (h.sg i hi').2.1, fun hx => by injection hx with hx; exact hgW i hi' hx.symm⟩
/-- a list of words that is only read -/
structure RoU (W : World) (p off : Nat) (X : List Int) : Prop where
  lt : p < W.heap.size
  cl : ∀ j, j < X.length → W.cell? ⟨p, off + j, none⟩ = some (.int .u64 (ge X j))
theorem RoU.gr {W W' : World} {p off : Nat} {X : List Int} {S : List Nat} (h : RoU W p off X) (hg : Gr S W W') (hn : p ∉ S) : RoU W' p off X :=
  ⟨Nat.lt_of_lt_of_le h.lt hg.size, fun j hj => (hg.cell (p := ⟨p, off + j, none⟩) h.lt hn).trans (h.cl j hj)⟩
set_option maxRecDepth 100000 in
set_option maxHeartbeats 8000000 in
theorem tracked_ok {W : World} {p off cp : Nat} {X : List Int} (hX : RoU W p off X) (h1 : 1 ≤ X.length) (hn : X.length ≤ 1000) :
    Calls Try.prog 74 #[.slice (some ⟨p, off, none⟩) X.length cp] W fun e W' => ∃ (t : Nat), e = .returned (.pointer (some ⟨t, 0, none⟩)) ∧ Hid (∃ (b cb : Nat) (G : Nat → Nat × Nat), TK W' t b cb X.length G (fun i => ⟨[ge X i], true, ge X i⟩) ∧ Below W.heap.size W W' ∧ W.heap.size ≤ t ∧ W.heap.size ≤ b ∧ ∀ i, i < X.length → W.heap.size ≤ (G i).1) := by
  obtain ⟨i1, hi1, hi2, hi3, hi4⟩ := info_parts (show (Try.prog.info? 179).map (fun i => (i.zero, i.size, i.bytes)) = some (some (.agg #[.slice none 0 0, .bool false, .int .u64 0]), 3, 40) by kernel_rfl)
  have HI1 := hid hi1; have HI2 := hid hi2; have HI3 := hid hi3; have HI4 := hid hi4
  have HX := hid hX
  have hpl := hX.lt
  clear hi1 hi2 hi3 hi4 hX
  go_enter Try.func74, Try.ntmps74
  go_wp2_with fail
  have hb0 := (Below.refl W.heap.size W).alloc (Nat.le_refl _) (.cells #[.slice none 0 0] 177)
  have hT0 : TB W.heap.size (W.alloc (.cells #[.slice none 0 0] 177)) W.heap.size none 0 0 (fun _ => (0, 0)) (fun i => ⟨[ge X i], true, ge X i⟩) := {
    blk := World.ownsRow_lit (base := 0) (e := 177) (size := 1) W #[.slice none 0 0] 1 (Nat.zero_le _) (by unfold maxLen; omega) rfl
    row := World.ownsRow_nil _ _ _ _
    inn := fun i hi => by omega
    st := Nat.le_refl _
    su := fun g hg => by cases hg
    sg := fun i hi => by omega }
  have HT0 := hid hT0; have HB0 := hid hb0
  clear hT0 hb0
  generalize W.alloc (.cells #[.slice none 0 0] 177) = W0 at *
  go_loopw [4] (fun iv wr => ∃ (k : Nat) (ua : Option Addr) (uc : Nat) (G : Nat → Nat × Nat), k ≤ X.length ∧ iv = .int .i64 (k : Int) ∧ Hid (TB W.heap.size wr W.heap.size ua uc k G (fun i => ⟨[ge X i], true, ge X i⟩) ∧ Below W.heap.size W wr)) (fun iv _ => X.length - (intOf iv).toNat)
  case atStart => exact ⟨0, none, 0, _, by omega, rfl, hid ⟨HT0.out, HB0.out⟩⟩
  case round =>
    obtain ⟨k, ua, uc, G, hk, rfl, HS⟩ := hrel
    have c0 := (World.ownsRow.cellAt HS.out.1.blk 0 (by omega)).trans (show _ = some (Value.slice ua k uc) from rfl)
    have hsz := HS.out.2.size
    have htl : W.heap.size < wr.heap.size := own_lt HS.out.1.blk
    by_cases hlt : k < X.length
    · have hlt' : (k : Int) < (X.length : Int) := by omega
      have HXR := hid (HX.out.gr (Gr.of_below HS.out.2 []) (by simp))
      have x0 := HXR.out.cl k hlt
      go_wp2_with fail
      have HDR := hid (HS.out.1.below (W' := wr.drew) (Below.refl _ _).drew)
      have HBD := hid (show Below W.heap.size W wr.drew from HS.out.2.drew)
      have hru : ((wr.drew.alloc (.cells #[.int .u64 (ge X k)] 22)).alloc (.cells #[.slice (some ⟨wr.heap.size, 0, none⟩) 1 1, .bool true, .int .u64 (ge X k)] 179)).ownsRow 0 179 3 (.slice ua k uc) k (ck 3 k (sf G (fun i => ⟨[ge X i], true, ge X i⟩))) := (HDR.out.row.alloc _).alloc _
      have n1 := World.news_of_block (w := (wr.drew.alloc (.cells #[.int .u64 (ge X k)] 22)).alloc (.cells #[.slice (some ⟨wr.heap.size, 0, none⟩) 1 1, .bool true, .int .u64 (ge X k)] 179)) (cs := #[.slice (some ⟨wr.heap.size, 0, none⟩) 1 1, .bool true, .int .u64 (ge X k)]) (t := 179) (fr := (0, 0)) (B := wr.heap.size + 1) (by have := heap_alloc_new (wr.drew.alloc (.cells #[.int .u64 (ge X k)] 22)) (.cells #[.slice (some ⟨wr.heap.size, 0, none⟩) 1 1, .bool true, .int .u64 (ge X k)] 179); rw [World.size_alloc] at this; exact this)
      have HN1 := hid n1; have HRU := hid hru
      have HKN := hid (show k + 1 ≤ 1000 by omega)
      clear n1 hru
      have hpw : p < wr.heap.size := by omega
      have hpw2 : p < wr.heap.size + 1 := by omega
      have htl2 : W.heap.size < wr.heap.size + 1 := by omega
      go_region_law (first | (refine step_append_lies _ rfl (.tmp 17) (.tmp 28) 175 rfl 0 179 i1 (.agg #[.slice none 0 0, .bool false, .int .u64 0]) 3 40 Try.underlying175 HI1.out HI2.out HI3.out HI4.out rfl (by decide) (.slice ua k uc) k (ck 3 k (sf G (fun i => ⟨[ge X i], true, ge X i⟩))) (by simp [Act.eval, Act.put]) HRU.out ⟨wr.heap.size + 1, 0, none⟩ 1 1 [.slice (some ⟨wr.heap.size, 0, none⟩) 1 1, .bool true, .int .u64 (ge X k)] (by simp [Act.eval, Act.put]) rfl HN1.out (by simp [Value.oneCell']) (by omega) (by have := HKN.out; unfold maxLen; omega) (by have := HKN.out; omega) (by omega) _ rfl ?_; intro g4 uc4 w4 hown4 hgrow4 hlie4 hlt4; obtain ⟨a4, f4, hD4, hB4⟩ := TB.add HDR.out hsz (ge X k) rfl g4 uc4 _ w4 rfl hown4 hgrow4 hlie4; have HD4 := hid hD4; have HB4 := hid (HBD.out.trans hB4); clear hD4 hB4 hown4 hgrow4 hlie4 hlt4))
      all_goals
        clear a4 f4 c0 x0
        go_wp2_with fail
        go_roundw
        case rel => exact ⟨k + 1, some ⟨g4, 0, none⟩, uc4, _, by omega, by go_num, hid ⟨HD4.out, HB4.out⟩⟩
        case measure => simp [intOf]; omega
    · obtain rfl : k = X.length := by omega
      have hlt' : ¬ (X.length : Int) < (X.length : Int) := by omega
      obtain ⟨b, rfl⟩ := own_pos HS.out.1.row (by omega)
      go_wp2_with fail
      go_ret
      refine ⟨W.heap.size, rfl, hid ⟨b, uc, G, ⟨HS.out.1.blk, ⟨_, HS.out.1.row⟩, HS.out.1.inn, fun e => (HS.out.1.su b rfl).2 e.symm, fun i hi => ⟨(HS.out.1.sg i hi).2.1, fun e => (HS.out.1.sg i hi).2.2 (by rw [e]; rfl)⟩, hn, (own_cap HS.out.1.row).1⟩, HS.out.2, Nat.le_refl _, (HS.out.1.su b rfl).1, fun i hi => (HS.out.1.sg i hi).1⟩⟩
set_option maxRecDepth 100000 in
set_option maxHeartbeats 8000000 in
/-- a read of a sector whose value is known -/
theorem reads_kn {W : World} {t b cb n : Nat} {G : Nat → Nat × Nat} {f : Nat → Sc} (h : TK W t b cb n G f) (i : Nat) (hi : i < n) (v : Int) (s : Bool) (hk : (f i).kn = true) :
    Calls Try.prog 76 #[.pointer (some ⟨t, 0, none⟩), .int .i64 (i : Int), .int .u64 v, .bool s] W fun e W' => e = .returned (.bool (decide (v = (f i).v))) ∧ W' = W := by
  have H := hid h
  have hl := h.lim
  have c0 := h.cT
  obtain ⟨cs, c1, c2, cf⟩ := h.cS hi
  rw [hk] at c1
  have hi' : (i : Int) < (n : Int) := by omega
  have HIN := hid hi
  clear h hi
  go_enter Try.func76, Try.ntmps76
  go_wp2_with fail
  go_ret
  exact ⟨rfl, rfl⟩
end Go.Proofs.Ytbgbjgedjmhcaaa.OldD
