/- What the law needs, one text behind the other. No conditions but those of each theorem. -/
import Derived.Test.YtbgbjgedjmhcaaaRows
import Derived.WalkKit
import Derived.ProofKit
import Derived.OpenShut
import Derived.LoopTactic
import Derived.Outline
import Derived.Below
import Derived.WalkLawsBesides
import Derived.WalkSpells
import Derived.Deep.QuietTactic
import Derived.BigQuiet
import Derived.Laws.BitsAllLaws
import Derived.Laws.OwnMore
import Derived.Laws.AppendOwn
import Derived.Laws.CopyOwn
import Derived.OwnWalk
import Derived.Lib.SmallJoins
import Derived.StillTailTactics
import Derived.Lib.Slices
import Derived.Lib.Walk
import Derived.Maps.OwnSet
import Derived.DeepKeys4
import Derived.RangeFuncNested
import Derived.OrdersIn
import Derived.CallsIn
import Derived.Shelf.Abstract
import Derived.Deep.AppendLies
import Derived.Deep.Cut
import Derived.Laws.Tables
import Derived.Lib.SliceRun
import Derived.Deep.RegionLaw
import Derived.Laws.IdiomRangeMap
import Derived.Test.YtbgbjgedjmhcaaaKDd
set_option linter.unnecessarySimpa false
set_option linter.unusedSimpArgs false
set_option linter.unusedVariables false
set_option maxHeartbeats 16000000
set_option maxRecDepth 10000
namespace Go.Proofs.Ytbgbjgedjmhcaaa.OldD
open Go.ChangeShapes Go.WideShapes Go.ChangeAt Go.RowKit
theorem hid {p : Prop} (h : p) : Hid p := h
theorem bt {W a b : World} (h : Below W.heap.size W a) (k : Below a.heap.size a b) : Below W.heap.size W b := h.trans (k.mono h.size)
theorem bdn (k : Nat) (w : World) (n : Nat) : Below k w (w.drewN n) := ⟨rfl, rfl, rfl, Nat.le_refl _, fun _ _ => rfl⟩
structure Gr (S : List Nat) (w w' : World) : Prop where
  os : w'.os = w.os
  tape : w'.tape = w.tape
  output : w'.output = w.output
  size : w.heap.size ≤ w'.heap.size
  block : ∀ k, k < w.heap.size → k ∉ S → w'.heap[k]? = w.heap[k]?
theorem Gr.refl (S : List Nat) (w : World) : Gr S w w := ⟨rfl, rfl, rfl, Nat.le_refl _, fun _ _ _ => rfl⟩
theorem Gr.trans {S : List Nat} {a b c : World} (h : Gr S a b) (k : Gr S b c) : Gr S a c :=
  ⟨k.os.trans h.os, k.tape.trans h.tape, k.output.trans h.output, Nat.le_trans h.size k.size, fun i hi hn => (k.block i (Nat.lt_of_lt_of_le hi h.size) hn).trans (h.block i hi hn)⟩
theorem Gr.mono {S T : List Nat} {a b : World} (h : Gr S a b) (hs : ∀ x ∈ S, x ∈ T) : Gr T a b :=
  ⟨h.os, h.tape, h.output, h.size, fun i hi hn => h.block i hi (fun hx => hn (hs i hx))⟩
theorem Gr.trans2 {S T : List Nat} {a b c : World} (h : Gr S a b) (k : Gr T b c) (hs : ∀ x ∈ T, x ∈ S ∨ a.heap.size ≤ x) : Gr S a c :=
  ⟨k.os.trans h.os, k.tape.trans h.tape, k.output.trans h.output, Nat.le_trans h.size k.size, fun i hi hn => (k.block i (Nat.lt_of_lt_of_le hi h.size) (fun hx => by rcases hs i hx with h1 | h1; exact hn h1; omega)).trans (h.block i hi hn)⟩
theorem Gr.of_below {a b : World} (h : Below a.heap.size a b) (S : List Nat) : Gr S a b := ⟨h.os, h.tape, h.output, h.size, fun i hi _ => h.block i hi⟩
theorem Gr.of_grown {a b : World} {r : Option Nat} (h : a.grownBy b r) {S : List Nat} (hs : ∀ k, r = some k → k ∈ S) : Gr S a b :=
  ⟨h.os, h.tape, h.output, h.size, fun i hi hn => h.block i hi (fun e => hn (hs i e.symm))⟩
theorem Gr.below {S : List Nat} {a b : World} (h : Gr S a b) {B : Nat} (hs : ∀ x ∈ S, B ≤ x) (hB : B ≤ a.heap.size) : Below B a b :=
  ⟨h.os, h.tape, h.output, h.size, fun i hi => h.block i (Nat.lt_of_lt_of_le hi hB) (fun hx => by have := hs i hx; omega)⟩
theorem Gr.cell {S : List Nat} {a b : World} (h : Gr S a b) {p : Addr} (hp : p.block < a.heap.size) (hn : p.block ∉ S) : b.cell? p = a.cell? p := World.cell?_of_block (h.block _ hp hn)
theorem Gr.grown {a b : World} {g : Nat} (h : Gr [g] a b) : a.grownBy b (some g) :=
  ⟨h.os, h.tape, h.output, h.size, fun i hi hne => h.block i hi (fun hx => hne (by rw [List.mem_singleton.1 hx]))⟩
theorem own_gr {w w' : World} {base : Nat} {e : TypeId} {size : Nat} {v : Value} {n : Nat} {xs : List Value} {S : List Nat} (h : w.ownsRow base e size v n xs) (hg : Gr S w w') (hne : ∀ g, v.ownBlock = some g → g ∉ S) : w'.ownsRow base e size v n xs := by
  refine ⟨h.1, ?_⟩
  rcases h.2 with hn | ⟨g, cap, cur, rfl, hb, hgg, rest⟩
  · exact .inl hn
  · refine .inr ⟨g, cap, cur, rfl, hb, ?_, rest⟩
    rw [hg.block g (Array.getElem?_eq_some_iff.1 hgg).1 (hne g rfl)]
    exact hgg
theorem map_gr {H : Type} {P : Program} {k : TypeId} {R : Value → Option (DataW H × List MemPlace)} {w w' : World} {b n : Nat} {D : DataW H} {S : List Nat} (h : w.ownsMap P k R b n D) (hg : Gr S w w') (hne : b ∉ S) : w'.ownsMap P k R b n D := by
  have hlt := h.lt
  obtain ⟨es, clock, hb, F, hs, hD⟩ := h
  exact ⟨es, clock, (hg.block b hlt hne).trans hb, F, hs, hD⟩
theorem set_gr (W : World) (B off : Nat) (v : Value) : Gr [B] W (W.setCell ⟨B, off, none⟩ v) :=
  ⟨rfl, rfl, rfl, by simp, fun i _ hne => heap_setCell_other _ _ _ _ (fun e => hne (by rw [e]; simp))⟩
theorem own_blk {w : World} {base : Nat} {e : TypeId} {size : Nat} {a : Option Addr} {n c : Nat} {xs : List Value} (h : w.ownsRow base e size (.slice a n c) n xs) : (a = none ∧ n = 0 ∧ c = 0) ∨ ∃ g, a = some ⟨g, 0, none⟩ := by
  rcases h.2 with ⟨h1, h2⟩ | ⟨g, cap, cur, h1, _⟩
  · simp only [Value.slice.injEq] at h1
    exact .inl ⟨h1.1, h2, h1.2.2⟩
  · simp only [Value.slice.injEq] at h1
    exact .inr ⟨g, h1.1⟩
theorem own_pos {w : World} {base : Nat} {e : TypeId} {size : Nat} {a : Option Addr} {n c : Nat} {xs : List Value} (h : w.ownsRow base e size (.slice a n c) n xs) (hn : 0 < n) : ∃ g, a = some ⟨g, 0, none⟩ := by
  rcases own_blk h with ⟨_, h1, _⟩ | h1
  · omega
  · exact h1
theorem own_lt {w : World} {base : Nat} {e : TypeId} {size : Nat} {g n c : Nat} {xs : List Value} (h : w.ownsRow base e size (.slice (some ⟨g, 0, none⟩) n c) n xs) : g < w.heap.size := (World.ownsRow.lt h g rfl).2
theorem own_cap {w : World} {base : Nat} {e : TypeId} {size : Nat} {a : Option Addr} {n c : Nat} {xs : List Value} (h : w.ownsRow base e size (.slice a n c) n xs) : n ≤ c ∧ c ≤ maxLen := by
  rcases h.2 with ⟨h1, h2⟩ | ⟨g, cap, cur, h1, _, _, h3, h4, _⟩
  · simp only [Value.slice.injEq] at h1
    omega
  · simp only [Value.slice.injEq] at h1
    obtain ⟨_, _, rfl⟩ := h1
    exact ⟨h3, h4⟩
def ck (m n : Nat) (f : Nat → Nat → Value) : List Value := (List.range (n * m)).map fun t => f (t / m) (t % m)
theorem ck_len (m n : Nat) (f : Nat → Nat → Value) : (ck m n f).length = n * m := by simp [ck]
theorem ck_get (m n : Nat) (f : Nat → Nat → Value) (t : Nat) : (ck m n f)[t]? = if t < n * m then some (f (t / m) (t % m)) else none := by
  unfold ck
  rw [List.getElem?_map]
  by_cases h : t < n * m
  · rw [if_pos h, List.getElem?_eq_getElem (by simpa using h)]; simp
  · rw [if_neg h, List.getElem?_eq_none (by simpa using h)]; rfl
theorem lt_mul {m n i j : Nat} (hi : i < n) (hj : j < m) : i * m + j < n * m := by
  have : (i + 1) * m ≤ n * m := Nat.mul_le_mul_right m hi
  rw [Nat.add_mul, Nat.one_mul] at this
  omega
theorem div_at {m i j : Nat} (hj : j < m) : (i * m + j) / m = i := by
  rw [Nat.mul_comm, Nat.mul_add_div (by omega), Nat.div_eq_of_lt hj, Nat.add_zero]
theorem mod_at {m i j : Nat} (hj : j < m) : (i * m + j) % m = j := by
  rw [Nat.mul_comm, Nat.mul_add_mod, Nat.mod_eq_of_lt hj]
theorem ck_at {m n : Nat} (f : Nat → Nat → Value) {i j : Nat} (hi : i < n) (hj : j < m) : (ck m n f)[i * m + j]? = some (f i j) := by
  rw [ck_get, if_pos (lt_mul hi hj), div_at hj, mod_at hj]
theorem ck_congr {m n : Nat} {f g : Nat → Nat → Value} (h : ∀ i j, i < n → j < m → f i j = g i j) : ck m n f = ck m n g := by
  unfold ck
  refine List.map_congr_left fun t ht => ?_
  have ht' : t < n * m := by simpa using ht
  have hm : 0 < m := by
    rcases Nat.eq_zero_or_pos m with h0 | h0
    · subst h0; omega
    · exact h0
  exact h _ _ (Nat.div_lt_of_lt_mul (by rw [Nat.mul_comm]; exact ht')) (Nat.mod_lt _ hm)
theorem ck_set {m n : Nat} (f : Nat → Nat → Value) {i j : Nat} (hj : j < m) (v : Value) : (ck m n f).set (i * m + j) v = ck m n (fun a b => if a = i ∧ b = j then v else f a b) := by
  apply List.ext_getElem?
  intro t
  rw [List.getElem?_set, ck_get, ck_get, ck_len]
  by_cases ht : t < n * m
  · by_cases h : i * m + j = t
    · subst h
      rw [if_pos rfl, if_pos ht, if_pos ht, div_at hj, mod_at hj, if_pos ⟨rfl, rfl⟩]
    · rw [if_neg h, if_pos ht, if_pos ht, if_neg]
      intro ⟨h1, h2⟩
      apply h
      rw [← h1, ← h2, Nat.mul_comm]
      exact Nat.div_add_mod t m
  · rw [if_neg ht, if_neg ht]
    split
    · rename_i h; subst h; rw [if_neg ht]
    · rfl
theorem ck_app {m n k : Nat} (f g : Nat → Nat → Value) : ck m n f ++ ck m k g = ck m (n + k) (fun a b => if a < n then f a b else g (a - n) b) := by
  apply List.ext_getElem?
  intro t
  rw [List.getElem?_append, ck_len, ck_get, ck_get, ck_get, Nat.add_mul]
  by_cases h : t < n * m
  · have hm : 0 < m := by
      rcases Nat.eq_zero_or_pos m with h0 | h0
      · subst h0; omega
      · exact h0
    rw [if_pos h, if_pos h, if_pos (by omega), if_pos (Nat.div_lt_of_lt_mul (by rw [Nat.mul_comm]; exact h))]
  · rw [if_neg h]
    by_cases h2 : t - n * m < k * m
    · have hm : 0 < m := by
        rcases Nat.eq_zero_or_pos m with h0 | h0
        · subst h0; omega
        · exact h0
      have e1 : t / m = (t - n * m) / m + n := by
        conv => lhs; rw [show t = (t - n * m) + n * m by omega]
        rw [Nat.add_mul_div_right _ _ hm]
      have e2 : t % m = (t - n * m) % m := by
        conv => lhs; rw [show t = (t - n * m) + n * m by omega]
        rw [Nat.add_mul_mod_self_right]
      rw [if_pos h2, if_pos (by omega), e1, if_neg (Nat.not_lt.2 (Nat.le_add_left _ _)), e2, Nat.add_sub_cancel]
    · rw [if_neg h2, if_neg (by omega)]
theorem ck_take {m n k : Nat} (f : Nat → Nat → Value) (h : k ≤ n) : (ck m n f).take (k * m) = ck m k f := by
  apply List.ext_getElem?
  intro t
  have : k * m ≤ n * m := Nat.mul_le_mul_right m h
  rw [List.getElem?_take, ck_get, ck_get]
  by_cases h1 : t < k * m
  · rw [if_pos h1, if_pos h1, if_pos (by omega)]
  · rw [if_neg h1, if_neg h1]
def vu (X : List Int) : List Value := X.map (.int .u64)
def ge (X : List Int) (j : Nat) : Int := X[j]?.getD 0
theorem vu_at (X : List Int) (j : Nat) (h : j < X.length) : (vu X)[j]? = some (.int .u64 (ge X j)) := by
  simp [vu, ge, List.getElem?_eq_getElem h]
theorem vu_set (X : List Int) (j : Nat) (x : Int) : (vu X).set j (.int .u64 x) = vu (X.set j x) := by simp [vu, List.map_set]
theorem one_vu (X : List Int) : ∀ u ∈ vu X, u.oneCell' = true := by
  intro u hu
  obtain ⟨x, _, rfl⟩ := List.mem_map.1 hu
  rfl
def Row (w : World) (g cap : Nat) (X : List Int) : Prop := w.ownsRow 0 22 1 (.slice (some ⟨g, 0, none⟩) X.length cap) X.length (vu X)
theorem Row.lt {w : World} {g cap : Nat} {X : List Int} (h : Row w g cap X) : g < w.heap.size := own_lt h
theorem Row.at {w : World} {g cap : Nat} {X : List Int} (h : Row w g cap X) (j : Nat) (hj : j < X.length) : w.cell? ⟨g, j, none⟩ = some (.int .u64 (ge X j)) := by
  rw [World.ownsRow.cellAt h j (by omega), vu_at X j hj]
theorem Row.frozen {w : World} {g cap : Nat} {X : List Int} (h : Row w g cap X) (j : Nat) : w.frozen? ⟨g, j, none⟩ = false := World.ownsRow.frozenAt h j
theorem Row.set {w : World} {g cap : Nat} {X : List Int} (h : Row w g cap X) (j : Nat) (x : Int) : Row (w.setCell ⟨g, j, none⟩ (.int .u64 x)) g cap (X.set j x) := by
  have h1 := (World.ownsRow.stored h j (.int .u64 x)).1
  unfold Row
  rw [List.length_set, ← vu_set]
  exact h1
theorem Row.gr {w w' : World} {g cap : Nat} {X : List Int} {S : List Nat} (h : Row w g cap X) (hg : Gr S w w') (hne : g ∉ S) : Row w' g cap X :=
  own_gr h hg (fun k hk => by cases hk; exact hne)
structure Un where
  now : List Int
  dur : List Int
  mis : Bool
structure Wr where
  d : Nat
  at' : Nat
  v : Int
structure Dk where
  U : List Un
  bad : Int → Int → Bool
  F : List Wr
  fuse : Int
  down : Bool
  wr : Int
structure UB where
  n : Nat
  cn : Nat
  d : Nat
  cd : Nat
structure Co where
  ua : Option Addr
  uc : Nat
  fa : Option Addr
  fc : Nat
  mb : Nat
  mn : Nat
  bs : List UB
def gu (U : List Un) (i : Nat) : Un := U[i]?.getD ⟨[], [], false⟩
def gb (bs : List UB) (i : Nat) : UB := bs[i]?.getD ⟨0, 0, 0, 0⟩
def gf (F : List Wr) (i : Nat) : Wr := F[i]?.getD ⟨0, 0, 0⟩
def oblk : Option Addr → List Nat
  | none => []
  | some a => [a.block]
def fp (A : Nat) (c : Co) : List Nat := A :: c.mb :: (oblk c.ua ++ (oblk c.fa ++ c.bs.flatMap fun b => [b.n, b.d]))
theorem fp_n {A : Nat} {c : Co} {i : Nat} (h : i < c.bs.length) : (gb c.bs i).n ∈ fp A c := by
  unfold fp gb
  rw [List.getElem?_eq_getElem h]
  simp only [List.mem_cons, List.mem_append, List.mem_flatMap]
  exact .inr (.inr (.inr (.inr ⟨c.bs[i], List.getElem_mem h, by simp⟩)))
theorem fp_d {A : Nat} {c : Co} {i : Nat} (h : i < c.bs.length) : (gb c.bs i).d ∈ fp A c := by
  unfold fp gb
  rw [List.getElem?_eq_getElem h]
  simp only [List.mem_cons, List.mem_append, List.mem_flatMap]
  exact .inr (.inr (.inr (.inr ⟨c.bs[i], List.getElem_mem h, by simp⟩)))
theorem fp_A {A : Nat} {c : Co} : A ∈ fp A c := by simp [fp]
theorem fp_m {A : Nat} {c : Co} : c.mb ∈ fp A c := by simp [fp]
theorem fp_u {A g : Nat} {c : Co} (h : g ∈ oblk c.ua) : g ∈ fp A c := by simp [fp, h]
theorem fp_f {A g : Nat} {c : Co} (h : g ∈ oblk c.fa) : g ∈ fp A c := by simp [fp, h]
theorem fp_cases {A x : Nat} {c : Co} (h : x ∈ fp A c) : x = A ∨ x = c.mb ∨ x ∈ oblk c.ua ∨ x ∈ oblk c.fa ∨ ∃ i, i < c.bs.length ∧ (x = (gb c.bs i).n ∨ x = (gb c.bs i).d) := by
  unfold fp at h
  simp only [List.mem_cons, List.mem_append, List.mem_flatMap] at h
  rcases h with h | h | h | h | ⟨b, hb, h⟩
  · exact .inl h
  · exact .inr (.inl h)
  · exact .inr (.inr (.inl h))
  · exact .inr (.inr (.inr (.inl h)))
  · obtain ⟨i, hi, rfl⟩ := List.getElem_of_mem hb
    refine .inr (.inr (.inr (.inr ⟨i, hi, ?_⟩)))
    unfold gb
    rw [List.getElem?_eq_getElem hi]
    simpa using h
def uf (bs : List UB) (U : List Un) (i j : Nat) : Value :=
  if j = 0 then .slice (some ⟨(gb bs i).n, 0, none⟩) (gu U i).now.length (gb bs i).cn else if j = 1 then .slice (some ⟨(gb bs i).d, 0, none⟩) (gu U i).now.length (gb bs i).cd else .bool (gu U i).mis
def ff (F : List Wr) (i j : Nat) : Value :=
  if j = 0 then .int .i64 ((gf F i).d : Int) else if j = 1 then .int .i64 ((gf F i).at' : Int) else .int .u64 (gf F i).v
structure Sep (A : Nat) (c : Co) : Prop where
  am : A ≠ c.mb
  au : A ∉ oblk c.ua
  af : A ∉ oblk c.fa
  mu : c.mb ∉ oblk c.ua
  mf : c.mb ∉ oblk c.fa
  uf : ∀ g, g ∈ oblk c.ua → g ∉ oblk c.fa
  n1 : ∀ i, i < c.bs.length → (gb c.bs i).n ≠ A ∧ (gb c.bs i).n ≠ c.mb ∧ (gb c.bs i).n ∉ oblk c.ua ∧ (gb c.bs i).n ∉ oblk c.fa
  d1 : ∀ i, i < c.bs.length → (gb c.bs i).d ≠ A ∧ (gb c.bs i).d ≠ c.mb ∧ (gb c.bs i).d ∉ oblk c.ua ∧ (gb c.bs i).d ∉ oblk c.fa
  nd : ∀ i j, i < c.bs.length → j < c.bs.length → (gb c.bs i).n ≠ (gb c.bs j).d
  nn : ∀ i j, i < c.bs.length → j < c.bs.length → i ≠ j → (gb c.bs i).n ≠ (gb c.bs j).n ∧ (gb c.bs i).d ≠ (gb c.bs j).d
theorem laidOut : laidOutB Try.prog = true := by kernel_rfl
theorem law : Go.Maps.Keyed Try.prog 120 := Go.Maps.Keyed.of_law (deep_law_laid (m := 3) laidOut (by omega) (by decide +kernel) (by kernel_rfl) (by rw [Try.underlying120]))
theorem cells83 : Try.prog.cellsOf 120 = 2 := by kernel_rfl
theorem cells3 : Try.prog.cellsOf 3 = 1 := by kernel_rfl
def pk (d t : Int) : Lit := .string (keyBytes [.int .i64 d, .int .i64 t])
theorem key_pk (d t : Int) (hd : (Lit.int .i64 d).wf = true) (ht : (Lit.int .i64 t).wf = true) : keyOf Try.prog 120 (.agg #[.int .i64 d, .int .i64 t]) = some (pk d t) := by
  unfold keyOf
  rw [Try.underlying120]
  have hf : Value.formed Try.prog 120 (.agg #[.int .i64 d, .int .i64 t]) = true := by
    simp only [Value.formed, Try.underlying120, cells83]
    rfl
  simp only [hf, if_true]
  obtain ⟨s, hs⟩ : ∃ s, Try.prog.types.size + 1 = s + 2 := ⟨Try.prog.types.size - 1, by
    have : 1 ≤ Try.prog.types.size := by decide +kernel
    omega⟩
  rw [hs]
  have hk : Try.prog.keyType 120 = true := by kernel_rfl
  simp [Program.keyLits, Try.underlying120, Try.underlying3, Value.cells, cells83, cells3, hd, ht, pk, hk]
theorem pk_inj {d t d' t' : Int} (hd : (Lit.int .i64 d).wf = true) (ht : (Lit.int .i64 t).wf = true) (hd' : (Lit.int .i64 d').wf = true) (ht' : (Lit.int .i64 t').wf = true) (h : pk d t = pk d' t') : d = d' ∧ t = t' := by
  have h1 := key_pk d t hd ht
  have h2 := key_pk d' t' hd' ht'
  rw [← h] at h2
  have := law.inj h1 h2
  simpa using this
def BM (W : World) (b n : Nat) (bad : Int → Int → Bool) : Prop := ∃ D : DataW Unit, W.ownsMap Try.prog 120 (unitElem (H := Unit)) b n D ∧ ∀ d t, (Lit.int .i64 d).wf = true → (Lit.int .i64 t).wf = true → Go.Maps.has D (pk d t) = bad d t
theorem BM.lt {W : World} {b n : Nat} {bad : Int → Int → Bool} (h : BM W b n bad) : b < W.heap.size := by obtain ⟨D, h1, _⟩ := h; exact h1.lt
theorem BM.gr {W W' : World} {b n : Nat} {bad : Int → Int → Bool} {S : List Nat} (h : BM W b n bad) (hg : Gr S W W') (hn : b ∉ S) : BM W' b n bad := by
  obtain ⟨D, h1, h2⟩ := h; exact ⟨D, map_gr h1 hg hn, h2⟩
structure DA (W : World) (A : Nat) (c : Co) (k : Dk) : Prop where
  blk : W.ownsRow 0 118 6 (.slice (some ⟨A, 0, none⟩) 1 1) 1 [.slice c.ua k.U.length c.uc, .map (some c.mb), .slice c.fa k.F.length c.fc, .int .i64 k.fuse, .bool k.down, .int .i64 k.wr]
  ru : W.ownsRow 0 113 3 (.slice c.ua k.U.length c.uc) k.U.length (ck 3 k.U.length (uf c.bs k.U))
  rf : W.ownsRow 0 122 3 (.slice c.fa k.F.length c.fc) k.F.length (ck 3 k.F.length (ff k.F))
  mp : BM W c.mb c.mn k.bad
  rn : ∀ i, i < k.U.length → Row W (gb c.bs i).n (gb c.bs i).cn (gu k.U i).now
  rd : ∀ i, i < k.U.length → Row W (gb c.bs i).d (gb c.bs i).cd (gu k.U i).dur
  lb : c.bs.length = k.U.length
  ld : ∀ i, i < k.U.length → (gu k.U i).dur.length = (gu k.U i).now.length
  b8 : k.U.length ≤ 8
  bn : ∀ i, i < k.U.length → 1 ≤ (gu k.U i).now.length ∧ (gu k.U i).now.length ≤ 65536
  fi : ∀ i, i < k.F.length → (gf k.F i).d < k.U.length ∧ (gf k.F i).at' < (gu k.U (gf k.F i).d).now.length
  sep : Sep A c
theorem Co.ua_cases (c : Co) : c.ua = none ∨ ∃ a, c.ua = some a := by cases c.ua <;> simp
theorem Co.fa_cases (c : Co) : c.fa = none ∨ ∃ a, c.fa = some a := by cases c.fa <;> simp
theorem DA.gr {W W' : World} {A : Nat} {c : Co} {k : Dk} {S : List Nat} (h : DA W A c k) (hg : Gr S W W') (hn : ∀ x ∈ fp A c, x ∉ S) : DA W' A c k where
  blk := own_gr h.blk hg (fun g hg => by cases hg; exact hn _ fp_A)
  ru := own_gr h.ru hg (fun g hg => hn _ (fp_u (by rcases c.ua_cases with e | ⟨a, e⟩ <;> simp [e, Value.ownBlock, oblk] at hg ⊢; exact hg.symm)))
  rf := own_gr h.rf hg (fun g hg => hn _ (fp_f (by rcases c.fa_cases with e | ⟨a, e⟩ <;> simp [e, Value.ownBlock, oblk] at hg ⊢; exact hg.symm)))
  mp := h.mp.gr hg (hn _ fp_m)
  rn i hi := (h.rn i hi).gr hg (hn _ (fp_n (by rw [h.lb]; exact hi)))
  rd i hi := (h.rd i hi).gr hg (hn _ (fp_d (by rw [h.lb]; exact hi)))
  lb := h.lb
  ld := h.ld
  b8 := h.b8
  bn := h.bn
  fi := h.fi
  sep := h.sep
theorem DA.below {W W' : World} {A : Nat} {c : Co} {k : Dk} (h : DA W A c k) (hb : Below W.heap.size W W') : DA W' A c k := h.gr (Gr.of_below hb []) (fun _ _ => by simp)
end Go.Proofs.Ytbgbjgedjmhcaaa.OldD
namespace Go.Proofs.Ytbgbjgedjmhcaaa.OldD
open Go.ChangeShapes Go.WideShapes Go.ChangeAt Go.RowKit
section
variable {W : World} {A : Nat} {c : Co} {k : Dk}
theorem DA.c0 (h : DA W A c k) : W.cell? ⟨A, 0, none⟩ = some (.slice c.ua k.U.length c.uc) := World.ownsRow.cellAt h.blk 0 (by omega)
theorem DA.c1 (h : DA W A c k) : W.cell? ⟨A, 1, none⟩ = some (.map (some c.mb)) := World.ownsRow.cellAt h.blk 1 (by omega)
theorem DA.c2 (h : DA W A c k) : W.cell? ⟨A, 2, none⟩ = some (.slice c.fa k.F.length c.fc) := World.ownsRow.cellAt h.blk 2 (by omega)
theorem DA.c3 (h : DA W A c k) : W.cell? ⟨A, 3, none⟩ = some (.int .i64 k.fuse) := World.ownsRow.cellAt h.blk 3 (by omega)
theorem DA.c4 (h : DA W A c k) : W.cell? ⟨A, 4, none⟩ = some (.bool k.down) := World.ownsRow.cellAt h.blk 4 (by omega)
theorem DA.c5 (h : DA W A c k) : W.cell? ⟨A, 5, none⟩ = some (.int .i64 k.wr) := World.ownsRow.cellAt h.blk 5 (by omega)
theorem DA.fz (h : DA W A c k) (j : Nat) : W.frozen? ⟨A, j, none⟩ = false := World.ownsRow.frozenAt h.blk j
theorem DA.lt (h : DA W A c k) : A < W.heap.size := own_lt h.blk
theorem DA.unit (h : DA W A c k) {d : Nat} (hd : d < k.U.length) : ∃ ub, c.ua = some ⟨ub, 0, none⟩ ∧ ub < W.heap.size ∧
    W.cell? ⟨ub, d * 3, none⟩ = some (.slice (some ⟨(gb c.bs d).n, 0, none⟩) (gu k.U d).now.length (gb c.bs d).cn) ∧
    W.cell? ⟨ub, d * 3 + 1, none⟩ = some (.slice (some ⟨(gb c.bs d).d, 0, none⟩) (gu k.U d).now.length (gb c.bs d).cd) ∧
    W.cell? ⟨ub, d * 3 + 2, none⟩ = some (.bool (gu k.U d).mis) ∧ ∀ j, W.frozen? ⟨ub, j, none⟩ = false := by
  obtain ⟨ub, hub⟩ := own_pos h.ru (by omega)
  have h1 := h.ru
  rw [hub] at h1
  refine ⟨ub, hub, own_lt h1, ?_, ?_, ?_, fun j => World.ownsRow.frozenAt h1 j⟩
  · show W.cell? ⟨ub, d * 3 + 0, none⟩ = _
    rw [World.ownsRow.cellAt h1 _ (lt_mul (j := 0) hd (by omega)), ck_at (j := 0) _ hd (by omega)]; rfl
  · rw [World.ownsRow.cellAt h1 _ (lt_mul (j := 1) hd (by omega)), ck_at (j := 1) _ hd (by omega)]; rfl
  · rw [World.ownsRow.cellAt h1 _ (lt_mul (j := 2) hd (by omega)), ck_at (j := 2) _ hd (by omega)]; rfl
end
def hd (k : Dk) (d : Int) : Bool := decide (0 ≤ d) && decide (d < (k.U.length : Int))
def hs (k : Dk) (d t : Int) : Bool := hd k d && (decide (0 ≤ t) && decide (t < ((gu k.U d.toNat).now.length : Int)))
theorem has_ok {W : World} {A : Nat} {c : Co} {k : Dk} (h : DA W A c k) (d : Int) :
    Calls Try.prog 69 #[.pointer (some ⟨A, 0, none⟩), .int .i64 d] W fun e W' => e = .returned (.bool (hd k d)) ∧ W' = W := by
  have c0 := h.c0
  have hb := h.b8
  have HH := hid (show hd k d = (decide (0 ≤ d) && decide (d < (k.U.length : Int))) from rfl)
  clear h
  generalize hd k d = res at *
  by_cases h0 : 0 ≤ d
  · by_cases h1 : d < (k.U.length : Int)
    · rw [decide_eq_true h0, decide_eq_true h1] at HH
      go_enter Try.func69, Try.ntmps69
      go_wp2_with fail
      go_ret
      exact ⟨by rw [HH.out]; rfl, rfl⟩
    · rw [decide_eq_true h0, decide_eq_false h1] at HH
      go_enter Try.func69, Try.ntmps69
      go_wp2_with fail
      go_ret
      exact ⟨by rw [HH.out]; rfl, rfl⟩
  · rw [decide_eq_false h0] at HH
    go_enter Try.func69, Try.ntmps69
    go_wp2_with fail
    go_ret
    exact ⟨by rw [HH.out]; rfl, rfl⟩
theorem count_ok {W : World} {A : Nat} {c : Co} {k : Dk} (h : DA W A c k) :
    Calls Try.prog 59 #[.pointer (some ⟨A, 0, none⟩)] W fun e W' => e = .returned (.int .i64 (k.U.length : Int)) ∧ W' = W := by
  have c0 := h.c0
  clear h
  go_enter Try.func59, Try.ntmps59
  go_wp2_with fail
  go_ret
  exact ⟨rfl, rfl⟩
theorem power_ok {W : World} {A : Nat} {c : Co} {k : Dk} (h : DA W A c k) (d t : Int) :
    Calls Try.prog 157 #[.pointer (some ⟨A, 0, none⟩), .agg #[.int .i64 d, .int .i64 t]] W fun e W' => e = .returned (.int .i64 (if k.down then 5 else 0)) ∧ Below W.heap.size W W' := by
  have c0 := h.c4
  have HL := h.lt
  clear h
  generalize k.down = b at *
  cases b with
  | true =>
    go_enter Try.func157, Try.ntmps157
    go_wp2_with fail
    go_ret
    exact ⟨rfl, (Below.refl _ _).alloc (Nat.le_refl _) _⟩
  | false =>
    go_enter Try.func157, Try.ntmps157
    go_wp2_with fail
    go_ret
    exact ⟨rfl, (Below.refl _ _).alloc (Nat.le_refl _) _⟩
theorem missing_ok {W : World} {A : Nat} {c : Co} {k : Dk} (h : DA W A c k) (d : Nat) (hd : d < k.U.length) (t : Int) :
    Calls Try.prog 159 #[.pointer (some ⟨A, 0, none⟩), .agg #[.int .i64 (d : Int), .int .i64 t]] W fun e W' => e = .returned (.int .i64 (if (gu k.U d).mis then 6 else 0)) ∧ Below W.heap.size W W' := by
  have c0 := h.c0
  have HL := h.lt
  obtain ⟨ub, hub, hul, -, -, c1, -⟩ := h.unit hd
  rw [hub] at c0
  have h8 := h.b8
  clear h hub
  generalize (gu k.U d).mis = b at *
  cases b with
  | true =>
    go_enter Try.func159, Try.ntmps159
    go_wp2_with fail
    go_quiet (fail)
    go_wp2_with fail
    go_ret
    exact ⟨rfl, ((Below.refl _ _).alloc (Nat.le_refl _) _).trans (bdn _ _ _)⟩
  | false =>
    go_enter Try.func159, Try.ntmps159
    go_wp2_with fail
    go_quiet (fail)
    go_wp2_with fail
    go_ret
    exact ⟨rfl, ((Below.refl _ _).alloc (Nat.le_refl _) _).trans (bdn _ _ _)⟩
end Go.Proofs.Ytbgbjgedjmhcaaa.OldD
namespace Go.Proofs.Ytbgbjgedjmhcaaa.OldD
open Go.ChangeShapes Go.WideShapes Go.ChangeAt Go.RowKit
theorem hd_iff {k : Dk} {d : Int} : hd k d = true ↔ ∃ n : Nat, d = n ∧ n < k.U.length := by
  unfold hd
  rw [Bool.and_eq_true, decide_eq_true_eq, decide_eq_true_eq]
  constructor
  · rintro ⟨h1, h2⟩; exact ⟨d.toNat, by omega, by omega⟩
  · rintro ⟨n, rfl, h⟩; exact ⟨by omega, by omega⟩
theorem hasS_ok {W : World} {A : Nat} {c : Co} {k : Dk} (h : DA W A c k) (d t : Int) :
    Calls Try.prog 162 #[.pointer (some ⟨A, 0, none⟩), .agg #[.int .i64 d, .int .i64 t]] W fun e W' => e = .returned (.bool (hs k d t)) ∧ Below W.heap.size W W' := by
  have H := hid h
  have h8 := h.b8
  have c0 := h.c0
  have HL := h.lt
  have HS := hid (show hs k d t = (hd k d && (decide (0 ≤ t) && decide (t < ((gu k.U d.toNat).now.length : Int)))) from rfl)
  have HH := hid (fun (W1 : World) (hb : Below W.heap.size W W1) => has_ok (h.below hb) d)
  cases hb : hd k d with
  | false =>
    rw [hb] at HH HS
    clear h hb
    generalize hs k d t = res at *
    go_enter Try.func162, Try.ntmps162
    go_wp2_with fail
    go_quiet ((go_at_call 69; exact Calls.quiet_of_same (HH.out _ (((Below.refl _ _).alloc (Nat.le_refl _) _).trans (bdn _ _ _)))))
    go_wp2_with fail
    go_ret
    exact ⟨by rw [HS.out]; rfl, ((Below.refl _ _).alloc (Nat.le_refl _) _).trans (bdn _ _ _)⟩
  | true =>
    obtain ⟨n, rfl, hn⟩ := hd_iff.1 hb
    rw [hb] at HH HS
    rw [show ((n : Int)).toNat = n from rfl] at HS
    by_cases h0 : 0 ≤ t
    · obtain ⟨ub, hub, hul, c1, -, -, -⟩ := h.unit hn
      rw [hub] at c0
      have hbn := h.bn n hn
      clear h hb hub
      by_cases h1 : t < ((gu k.U n).now.length : Int)
      · rw [decide_eq_true h0, decide_eq_true h1] at HS
        generalize hs k (n : Int) t = res at *
        generalize (gu k.U n).now.length = len at *
        go_enter Try.func162, Try.ntmps162
        go_wp2_with fail
        go_quiet ((go_at_call 69; exact Calls.quiet_of_same (HH.out _ (((Below.refl _ _).alloc (Nat.le_refl _) _).trans (bdn _ _ _)))))
        go_wp2_with fail
        go_ret
        exact ⟨by rw [HS.out]; rfl, ((Below.refl _ _).alloc (Nat.le_refl _) _).trans (bdn _ _ _)⟩
      · rw [decide_eq_true h0, decide_eq_false h1] at HS
        generalize hs k (n : Int) t = res at *
        generalize (gu k.U n).now.length = len at *
        have g1 : decide (t < (len : Int)) = false := decide_eq_false h1
        clear h1
        go_enter Try.func162, Try.ntmps162
        go_wp2_with fail
        go_quiet ((go_at_call 69; exact Calls.quiet_of_same (HH.out _ (((Below.refl _ _).alloc (Nat.le_refl _) _).trans (bdn _ _ _)))))
        go_wp2_with fail
        go_ret
        exact ⟨by rw [HS.out]; rfl, ((Below.refl _ _).alloc (Nat.le_refl _) _).trans (bdn _ _ _)⟩
    · rw [decide_eq_false h0] at HS
      clear h hb
      have g0 : decide (0 ≤ t) = false := decide_eq_false h0
      clear h0
      generalize hs k (n : Int) t = res at *
      go_enter Try.func162, Try.ntmps162
      go_wp2_with fail
      go_quiet ((go_at_call 69; exact Calls.quiet_of_same (HH.out _ (((Below.refl _ _).alloc (Nat.le_refl _) _).trans (bdn _ _ _)))))
      go_wp2_with fail
      go_ret
      exact ⟨by rw [HS.out]; rfl, ((Below.refl _ _).alloc (Nat.le_refl _) _).trans (bdn _ _ _)⟩
theorem sector_ok {W : World} {A : Nat} {c : Co} {k : Dk} (h : DA W A c k) (d t : Int) :
    Calls Try.prog 158 #[.pointer (some ⟨A, 0, none⟩), .agg #[.int .i64 d, .int .i64 t]] W fun e W' => e = .returned (.int .i64 (if hs k d t then 0 else 1)) ∧ Below W.heap.size W W' := by
  have HH := hid (fun (W1 : World) (hb : Below W.heap.size W W1) => hasS_ok (h.below hb) d t)
  clear h
  generalize hs k d t = b at *
  cases b with
  | true =>
    go_enter Try.func158, Try.ntmps158
    go_wp2_with fail
    refine (HH.out _ ((Below.refl _ _).alloc (Nat.le_refl _) _)).mono ?_
    rintro e w1 ⟨rfl, hb1⟩
    have HB := hid (((Below.refl W.heap.size W).alloc (Nat.le_refl _) (.cells #[.int .i64 d, .int .i64 t] 120)).trans (hb1.mono (by simp)))
    clear hb1
    go_wp2_with fail
    go_ret
    exact ⟨rfl, HB.out⟩
  | false =>
    go_enter Try.func158, Try.ntmps158
    go_wp2_with fail
    refine (HH.out _ ((Below.refl _ _).alloc (Nat.le_refl _) _)).mono ?_
    rintro e w1 ⟨rfl, hb1⟩
    have HB := hid (((Below.refl W.heap.size W).alloc (Nat.le_refl _) (.cells #[.int .i64 d, .int .i64 t] 120)).trans (hb1.mono (by simp)))
    clear hb1
    go_wp2_with fail
    go_ret
    exact ⟨rfl, HB.out⟩
end Go.Proofs.Ytbgbjgedjmhcaaa.OldD
namespace Go.Proofs.Ytbgbjgedjmhcaaa.OldD
open Go.RowKit
def plainOp (o : Oper) : Bool := match o.op with
  | .defer _ => false
  | _ => true
theorem plainOp_spec {o : Oper} (h : plainOp o = true) (c) : o.op ≠ .defer c := by
  intro e
  unfold plainOp at h
  rw [e] at h
  cases h
def wideR (ro : Option Nat) : Fence := { Fence.wide with round := ro }
def maskF (l : List Oper) : Nat → Nat → Nat
  | 0, _ => 0
  | f + 1, i => match l[i]? with
    | none => 0
    | some o => o.after.toList.foldl (fun m e => if Region.binds .any e then (m ||| 2 ^ e.on) ||| maskF l f e.on else m) 0
theorem fold_bit {α : Type} (p : α → Bool) (g h : α → Nat) (j : Nat) : ∀ (es : List α) (m : Nat), (es.foldl (fun m e => if p e then (m ||| 2 ^ g e) ||| h e else m) m).testBit j = true → m.testBit j = true ∨ ∃ e ∈ es, p e = true ∧ (g e = j ∨ (h e).testBit j = true)
  | [], m, H => .inl H
  | e :: es, m, H => by
    rw [List.foldl_cons] at H
    rcases fold_bit p g h j es _ H with h1 | ⟨e', h1, h2⟩
    · by_cases hp : p e = true
      · rw [if_pos hp, Nat.testBit_or, Nat.testBit_or, Nat.testBit_two_pow] at h1
        simp only [Bool.or_eq_true, decide_eq_true_eq] at h1
        rcases h1 with (h1 | h1) | h1
        · exact .inl h1
        · exact .inr ⟨e, List.mem_cons_self .., hp, .inl h1⟩
        · exact .inr ⟨e, List.mem_cons_self .., hp, .inr h1⟩
      · rw [if_neg hp] at h1; exact .inl h1
    · exact .inr ⟨e', List.mem_cons_of_mem _ h1, h2⟩
def Clo (l : List Oper) (L : Array Bool) : Prop := ∀ i o, l[i]? = some o → L.getD i false = true → ∀ e ∈ o.after, Region.binds .any e = true → L.getD e.on false = true
theorem mask_on {l : List Oper} {L : Array Bool} (hc : Clo l L) : ∀ (f i j : Nat), (maskF l f i).testBit j = true → (∀ o, l[i]? = some o → ∀ e ∈ o.after, Region.binds .any e = true → L.getD e.on false = true) → L.getD j false = true
  | 0, i, j, h, _ => by simp [maskF] at h
  | f + 1, i, j, h, hi => by
    unfold maskF at h
    cases ho : l[i]? with
    | none => rw [ho] at h; simp at h
    | some o =>
      rw [ho] at h
      rcases fold_bit _ _ _ j _ _ h with h1 | ⟨e, he, hb, h1⟩
      · simp at h1
      · have hl := hi o ho e (by simpa using he) hb
        rcases h1 with h1 | h1
        · rw [← h1]; exact hl
        · exact mask_on hc f e.on j h1 (fun o' ho' => hc e.on o' ho' hl)
theorem mask_up {l : List Oper} {L : Array Bool} (hc : Clo l L) (f i j : Nat) (h : (maskF l f i).testBit j = true) (hi : L.getD i false = true) : L.getD j false = true :=
  mask_on hc f i j h (fun o ho => hc i o ho hi)
def putAll : List Oper → List Value → Act → Act
  | o :: os, v :: vs, a => putAll os vs (a.put o.dst v)
  | _, _, a => a
theorem put_size (a : Act) (d : Option Tmp) (v : Value) : (a.put d v).tmps.size = a.tmps.size := by cases d <;> simp [Act.put]
theorem put_defers (a : Act) (d : Option Tmp) (v : Value) : (a.put d v).defers = a.defers := by cases d <;> rfl
theorem put_off (a : Act) (d : Option Tmp) (v : Value) (s : Nat) (h : d ≠ some s) : (a.put d v).tmps[s]? = a.tmps[s]? := by
  cases d with
  | none => rfl
  | some d =>
    have : d ≠ s := fun e => h (by rw [e])
    simp [Act.put, Array.getElem?_setIfInBounds, this]
theorem put_at (a : Act) (s : Nat) (v : Value) (h : s < a.tmps.size) : (a.put (some s) v).tmps[s]? = some v := by
  simp [Act.put, Array.getElem?_setIfInBounds, h]
theorem putAll_keeps : ∀ (l : List Oper) (vs : List Value) (a : Act), (putAll l vs a).tmps.size = a.tmps.size ∧ (putAll l vs a).defers = a.defers ∧ ∀ s, (∀ o ∈ l, o.dst ≠ some s) → (putAll l vs a).tmps[s]? = a.tmps[s]?
  | [], _, a => by unfold putAll; exact ⟨rfl, rfl, fun _ _ => rfl⟩
  | o :: os, [], a => by unfold putAll; exact ⟨rfl, rfl, fun _ _ => rfl⟩
  | o :: os, v :: vs, a => by
    unfold putAll
    obtain ⟨h1, h2, h3⟩ := putAll_keeps os vs (a.put o.dst v)
    exact ⟨h1.trans (put_size _ _ _), h2.trans (put_defers _ _ _), fun s hs => (h3 s fun o' ho' => hs o' (List.mem_cons_of_mem _ ho')).trans (put_off _ _ _ _ (hs o (List.mem_cons_self ..)))⟩
def valsOf (l : List Oper) (aF : Act) : List Value := l.map fun o => match o.dst with
  | some d => aF.tmps.getD d undef
  | none => undef
def StepP (P : Program) (ops : Array Oper) (aF : Act) (o : Oper) (w w' : World) : Prop :=
  if Region.wanted o (yielded ops aF.tmps) = true then o.wp P aF w (fun a' w'' => a' = aF ∧ w'' = w') (fun _ _ _ => False) else (aF.put o.dst undef = aF ∧ w = w')
def StepE (P : Program) (ops : Array Oper) (a0 aF : Act) (o : Oper) (w w' : World) : Prop :=
  Region.wanted o (yielded ops a0.tmps) = true ∧ ∃ v, (execOp a0.eval o).run P w = .ok (.value v) w' ∧ aF.put o.dst v = aF
def StepK (P : Program) (ops : Array Oper) (a0 aF : Act) (early : Bool) (o : Oper) (w w' : World) : Prop :=
  if early then StepE P ops a0 aF o w w' else StepP P ops aF o w w'
def phase (sp : List Nat) (L : Array Bool) : Nat := (sp.filter fun i => L.getD i false).length
def planB (l : List Oper) (size : Nat) (er : List Nat) (sp : List Nat) (ph : List (List (Nat × Nat))) : Bool :=
  (l.all plainOp && Region.noSelect l.toArray) &&
  ((l.all fun o => match o.dst with | some d => decide (d < size) | none => true) &&
  (((List.range l.length).all fun i => match l[i]? with
    | none => true
    | some o => (o.after.toList.all fun e => !Region.binds .any e || decide (e.on < i)) && (o.looksAt l.toArray).all fun s => (List.range l.length).all fun j => (match l[j]? with | some oj => oj.dst != some s | none => true) || (if er.contains i then (maskF l l.length j).testBit i else (maskF l l.length i).testBit j)) &&
  (((List.range (sp.length - 1)).all fun k => (maskF l l.length (sp[k + 1]?.getD 0)).testBit (sp[k]?.getD 0)) &&
  (((List.range sp.length).all fun m => (List.range m).all fun k => sp[k]? != sp[m]?) &&
  ((List.range l.length).all fun i =>
    ((List.range sp.length).all fun k => sp[k]? != some i || (ph[i]?.getD []).contains (k, k + 1)) &&
    (sp.contains i || (List.range (sp.length + 1)).all fun k => decide (k < (sp.filter fun t => (maskF l l.length i).testBit t).length) || decide (sp.length < k + (sp.filter fun t => (maskF l l.length t).testBit i).length) || (ph[i]?.getD []).contains (k, k)))))))
theorem act_ext {a b : Act} (h1 : a.tmps.size = b.tmps.size) (h2 : a.defers = b.defers) (h3 : ∀ s : Nat, a.tmps[s]? = b.tmps[s]?) : a = b := by
  obtain ⟨ta, da⟩ := a
  obtain ⟨tb, db⟩ := b
  simp only at h1 h2 h3
  subst h2
  rw [Array.ext_getElem? h3]
structure OnWay (l : List Oper) (a0 aF : Act) (L : Array Bool) (a : Act) : Prop where
  old : ∀ s : Nat, (∀ (j : Nat) (o : Oper), l[j]? = some o → o.dst = some s → L.getD j false = false) → a.tmps[s]? = a0.tmps[s]?
  size : a.tmps.size = aF.tmps.size
  defers : a.defers = aF.defers
  off : ∀ s, (∀ o ∈ l, o.dst ≠ some s) → a.tmps[s]? = aF.tmps[s]?
  on : ∀ s j o, l[j]? = some o → o.dst = some s → L.getD j false = true → a.tmps[s]? = aF.tmps[s]?
theorem getD_set_self {L : Array Bool} {i : Nat} (hi : i < L.size) (b : Bool) : (L.setIfInBounds i true).getD i b = true := by
  simp [Array.getD_eq_getD_getElem?, Array.getElem?_setIfInBounds, hi]
theorem getD_set_other {L : Array Bool} {i j : Nat} (h : i ≠ j) (b : Bool) : (L.setIfInBounds i true).getD j b = L.getD j b := by
  simp [Array.getD_eq_getD_getElem?, Array.getElem?_setIfInBounds, h]
theorem OnWay.step {l : List Oper} {a0 aF : Act} {L : Array Bool} {a : Act} {i : Nat} {o : Oper} {v : Value} (h : OnWay l a0 aF L a) (hL : L.size = l.length) (ho : l[i]? = some o) (hd : ∀ d, o.dst = some d → d < aF.tmps.size) (hv : aF.put o.dst v = aF) : OnWay l a0 aF (L.setIfInBounds i true) (a.put o.dst v) := by
  have hi : i < L.size := by rw [hL]; exact (List.getElem?_eq_some_iff.1 ho).1
  refine ⟨fun s hs => ?_, (put_size _ _ _).trans h.size, (put_defers _ _ _).trans h.defers, fun s hs => ?_, fun s j o' hj hs hl => ?_⟩
  · have e : o.dst ≠ some s := fun e => by
      have := hs i o ho e
      rw [getD_set_self hi] at this
      cases this
    rw [put_off _ _ _ _ e]
    refine h.old s fun j o' hj hd => ?_
    have := hs j o' hj hd
    by_cases e2 : i = j
    · subst e2; rw [getD_set_self hi] at this; cases this
    · rwa [getD_set_other e2] at this
  · rw [put_off _ _ _ _ (hs o (List.mem_of_getElem? ho))]; exact h.off s hs
  · by_cases e : o.dst = some s
    · have h1 := put_at a s v (by rw [h.size]; exact hd s e)
      have h2 := put_at aF s v (hd s e)
      rw [e] at hv ⊢
      rw [h1, ← h2, hv]
    · rw [put_off _ _ _ _ e]
      have hji : i ≠ j := fun hh => by
        subst hh
        rw [ho] at hj
        obtain rfl := Option.some.inj hj
        exact e hs
      rw [getD_set_other hji] at hl
      exact h.on s j o' hj hs hl
theorem tmps_getD {a b : Act} {s : Nat} (h : a.tmps[s]? = b.tmps[s]?) : a.eval (.tmp s) = b.eval (.tmp s) := by
  show a.tmps.getD s undef = b.tmps.getD s undef
  simp only [Array.getD_eq_getD_getElem?, h]
theorem same_exec {P : Program} {ops : Array Oper} {o : Oper} {a aF : Act} (hs : ∀ cs b, o.op ≠ .select cs b) (h : ∀ s ∈ o.looksAt ops, a.tmps[s]? = aF.tmps[s]?) : execOp a.eval o = execOp aF.eval o :=
  execOp_congr o hs fun x hx => by
    cases x with
    | tmp s => exact tmps_getD (h s (List.mem_append_left _ (List.mem_filterMap.2 ⟨.tmp s, by simpa using hx, rfl⟩)))
    | _ => rfl
theorem same_wanted {ops : Array Oper} {o : Oper} {a aF : Act} (h : ∀ s ∈ o.looksAt ops, a.tmps[s]? = aF.tmps[s]?) : Region.wanted o (yielded ops a.tmps) = Region.wanted o (yielded ops aF.tmps) := by
  unfold Region.wanted
  cases hg : o.guard with
  | none => rfl
  | some g =>
    obtain ⟨g, b⟩ := g
    have e : yielded ops a.tmps g = yielded ops aF.tmps g := by
      unfold yielded
      cases hd : (ops[g]?).bind (·.dst) with
      | none => rfl
      | some d =>
        have := h d (List.mem_append_right _ (by rw [hg]; simp [hd]))
        simp only [Option.bind_some, this]
    simp only [e]
theorem step_in {P : Program} {ops : Array Oper} {ro : Option Nat} {n : Nat} {Q : Exit → Act → World → Prop} {i : Nat} {o : Oper} {a aF : Act} {w w' : World} {K : Act → World → Prop} (hd : plainOp o = true) (hs : ∀ cs b, o.op ≠ .select cs b) (ho : ops[i]? = some o) (hl : ∀ s ∈ o.looksAt ops, a.tmps[s]? = aF.tmps[s]?)
    (h : StepP P ops aF o w w') (hK : ∀ v, aF.put o.dst v = aF → K (a.put o.dst v) w') : wpOpIn (wideR ro) n P ops Q i K a w := by
  unfold StepP at h
  unfold wpOpIn
  simp only [ho]
  rw [same_wanted hl]
  split
  · rename_i hw
    rw [if_pos hw] at h
    unfold Oper.wp at h
    refine ⟨fun _ _ => trivial, ?_⟩
    rw [Oper.semAt_eq _ _ _ (plainOp_spec hd), same_exec (P := P) hs hl]
    generalize (execOp aF.eval o).run P w = r at *
    cases r with
    | ok x w1 =>
      cases x <;> simp only [Oper.upon] at h <;> simp only [Oper.uponIn]
      case value v => obtain ⟨h1, rfl⟩ := h; exact hK v h1
      case skip => obtain ⟨h1, rfl⟩ := h; exact hK _ h1
      case defer d =>
        have := congrArg (fun x => x.defers.length) h.1
        simp [put_defers] at this
      case enter f args =>
        refine ⟨fun hh => (by cases hh), ?_⟩
        have hc : CallsIn Fence.wide (n - 1) P f args w1 _ := callsIn_wide.2 h
        refine CallsIn.mono (F := wideR ro) hc fun e w2 he => ?_
        cases e with
        | returned v => obtain ⟨h1, rfl⟩ := he; exact hK v h1
        | panicked c => exact he.elim
        | outgrown => obtain ⟨_, _, hh⟩ := he; exact hh.elim
      case row row args =>
        refine ⟨fun hh => (by cases hh), ?_⟩
        intro c cs _
        obtain ⟨v, w2, ⟨h1, rfl⟩, s⟩ := h c cs
        exact ⟨v, _, hK v h1, stepsIn_wide.2 s⟩
    | halt x w1 => cases x <;> simp only [Oper.upon] at h
  · rename_i hw
    rw [if_neg hw] at h
    obtain ⟨h1, rfl⟩ := h
    exact ⟨fun _ _ => trivial, hK _ h1⟩
def left (L : Array Bool) : Nat := L.toList.count false
theorem count_set (l : List Bool) : ∀ i, l[i]? = some false → (l.set i true).count false + 1 = l.count false := by
  induction l with
  | nil => intro i h; simp at h
  | cons b l ih =>
    intro i h
    cases i with
    | zero => simp at h; subst h; simp
    | succ i =>
      have := ih i (by simpa using h)
      rw [List.set_cons_succ, List.count_cons, List.count_cons]
      omega
theorem left_set {L : Array Bool} {i : Nat} (h : L.getD i true = false) : left (L.setIfInBounds i true) + 1 = left L := by
  unfold left
  have h1 : L.toList[i]? = some false := by
    rw [Array.getD_eq_getD_getElem?] at h
    cases e : L[i]? with
    | none => rw [e] at h; simp at h
    | some b => rw [e] at h; simp at h; subst h; simpa using e
  have := count_set L.toList i h1
  rwa [← Array.toList_setIfInBounds] at this
theorem left_zero {L : Array Bool} (h : left L = 0) (i : Nat) : L.getD i true = true := by
  unfold left at h
  rw [Array.getD_eq_getD_getElem?]
  cases e : L[i]? with
  | none => rfl
  | some b =>
    cases b with
    | true => rfl
    | false =>
      have h1 : L.toList[i]? = some false := by simpa using e
      have := count_set L.toList i h1
      omega
theorem filter_first (p : Nat → Bool) : ∀ (sp : List Nat) (k : Nat), k ≤ sp.length → (∀ m t, sp[m]? = some t → (p t = true ↔ m < k)) → (sp.filter p).length = k
  | [], k, hk, _ => by simp at hk; simp [hk]
  | t :: sp, k, hk, h => by
    cases k with
    | zero =>
      have : (t :: sp).filter p = [] := by
        rw [List.filter_eq_nil_iff]
        intro x hx hp
        obtain ⟨m, hm⟩ := List.getElem?_of_mem hx
        have := (h m x hm).1 hp
        omega
      rw [this]; rfl
    | succ k =>
      have h0 : p t = true := (h 0 t rfl).2 (by omega)
      rw [List.filter_cons_of_pos h0, List.length_cons, filter_first p sp k (by simpa using hk) (fun m t' hm => by rw [h (m + 1) t' (by simpa using hm)]; omega)]
theorem filter_apart (p q : Nat → Bool) : ∀ (sp : List Nat), (∀ t ∈ sp, p t = true → q t = true → False) → (sp.filter p).length + (sp.filter q).length ≤ sp.length
  | [], _ => by simp
  | t :: sp, h => by
    have ih := filter_apart p q sp (fun t' ht' => h t' (List.mem_cons_of_mem _ ht'))
    by_cases hp : p t = true
    · have hq : ¬ q t = true := fun hq => h t (List.mem_cons_self ..) hp hq
      rw [List.filter_cons_of_pos hp, List.filter_cons_of_neg hq, List.length_cons, List.length_cons]; omega
    · rw [List.filter_cons_of_neg hp]
      by_cases hq : q t = true
      · rw [List.filter_cons_of_pos hq, List.length_cons, List.length_cons]; omega
      · rw [List.filter_cons_of_neg hq, List.length_cons]; omega
theorem filter_le (p q : Nat → Bool) : ∀ (sp : List Nat), (∀ t ∈ sp, p t = true → q t = true) → (sp.filter p).length ≤ (sp.filter q).length
  | [], _ => by simp
  | t :: sp, h => by
    have ih := filter_le p q sp (fun t' ht' => h t' (List.mem_cons_of_mem _ ht'))
    by_cases hp : p t = true
    · rw [List.filter_cons_of_pos hp, List.filter_cons_of_pos (h t (List.mem_cons_self ..) hp), List.length_cons, List.length_cons]; omega
    · rw [List.filter_cons_of_neg hp]
      by_cases hq : q t = true
      · rw [List.filter_cons_of_pos hq, List.length_cons]; omega
      · rw [List.filter_cons_of_neg hq]; exact ih
theorem getD_fb {L : Array Bool} {i : Nat} (h : L.getD i true = false) : L.getD i false = false := by
  rw [Array.getD_eq_getD_getElem?] at h ⊢
  cases e : L[i]? with
  | none => rfl
  | some b => rw [e] at h; simpa using h
theorem getD_bf {L : Array Bool} {i : Nat} (hi : i < L.size) (h : L.getD i true = true) : L.getD i false = true := by
  rw [Array.getD_eq_getD_getElem?] at h ⊢
  rw [Array.getElem?_eq_getElem hi] at h ⊢
  simpa using h
structure PlanOK (l : List Oper) (size : Nat) (er : List Nat) (sp : List Nat) (ph : List (List (Nat × Nat))) : Prop where
  plain : ∀ (i : Nat) (o : Oper), l[i]? = some o → plainOp o = true
  sel : Region.noSelect l.toArray = true
  dst : ∀ (i : Nat) (o : Oper) (d : Nat), l[i]? = some o → o.dst = some d → d < size
  low : ∀ (i : Nat) (o : Oper), l[i]? = some o → ∀ e ∈ o.after, Region.binds .any e = true → e.on < i
  look : ∀ (i : Nat) (o : Oper) (s j : Nat) (oj : Oper), l[i]? = some o → s ∈ o.looksAt l.toArray → l[j]? = some oj → oj.dst = some s → (if er.contains i then (maskF l l.length j).testBit i else (maskF l l.length i).testBit j) = true
  chain : ∀ (k t u : Nat), sp[k]? = some t → sp[k + 1]? = some u → (maskF l l.length u).testBit t = true
  nodup : ∀ (k m t : Nat), k < m → sp[k]? = some t → sp[m]? ≠ some t
  spine : ∀ (i k : Nat), i < l.length → sp[k]? = some i → (k, k + 1) ∈ ph[i]?.getD []
  rest : ∀ (i k : Nat), i < l.length → i ∉ sp → k ≤ sp.length → (sp.filter fun t => (maskF l l.length i).testBit t).length ≤ k → k + (sp.filter fun t => (maskF l l.length t).testBit i).length ≤ sp.length → (k, k) ∈ ph[i]?.getD []
theorem planB_ok {l : List Oper} {size : Nat} {er : List Nat} {sp : List Nat} {ph : List (List (Nat × Nat))} (h : planB l size er sp ph = true) : PlanOK l size er sp ph := by
  unfold planB at h
  simp only [Bool.and_eq_true, List.all_eq_true, List.mem_range] at h
  obtain ⟨⟨h1, h2⟩, h3, h4, h5, h6, h7⟩ := h
  refine ⟨fun i o ho => h1 o (List.mem_of_getElem? ho), h2, fun i o d ho hd => ?_, fun i o ho e he hb => ?_, fun i o s j oj ho hs hj hd => ?_, fun k t u ht hu => ?_, fun k m t hkm hk hm => ?_, fun i k hi hk => ?_, fun i k hi hn hk hlo hhi => ?_⟩
  · have := h3 o (List.mem_of_getElem? ho)
    rw [hd] at this
    simpa using this
  · have := h4 i (List.getElem?_eq_some_iff.1 ho).1
    rw [ho] at this
    simp only [Bool.and_eq_true, List.all_eq_true] at this
    have := this.1 e (by simpa using he)
    simpa [hb] using this
  · have := h4 i (List.getElem?_eq_some_iff.1 ho).1
    rw [ho] at this
    simp only [Bool.and_eq_true, List.all_eq_true, List.mem_range] at this
    have := this.2 s hs j (List.getElem?_eq_some_iff.1 hj).1
    rw [hj] at this
    simpa [hd] using this
  · have hk := (List.getElem?_eq_some_iff.1 hu).1
    have := h5 k (by omega)
    rw [ht, hu] at this
    simpa using this
  · have := h6 m (List.getElem?_eq_some_iff.1 hm).1 k hkm
    rw [hk, hm] at this
    simp at this
  · have := (h7 i hi).1 k (List.getElem?_eq_some_iff.1 hk).1
    rw [hk] at this
    simpa using this
  · have := (h7 i hi).2
    rw [Bool.or_eq_true] at this
    rcases this with h | h
    · exact absurd (by simpa using h) hn
    · rw [List.all_eq_true] at h
      have := h k (List.mem_range.2 (by omega))
      simp only [Bool.or_eq_true, decide_eq_true_eq] at this
      rcases this with (h | h) | h
      · omega
      · omega
      · simpa using h
def StepsP (P : Program) (ops : Array Oper) (a0 aF : Act) (er : List Nat) (Ws : Nat → World) : Nat → List Oper → List (List (Nat × Nat)) → Prop
  | k, o :: os, p :: ps => (∀ q ∈ p, StepK P ops a0 aF (er.contains k) o (Ws q.1) (Ws q.2)) ∧ StepsP P ops a0 aF er Ws (k + 1) os ps
  | _, _, _ => True
theorem steps_at {P : Program} {ops : Array Oper} {a0 aF : Act} {er : List Nat} {Ws : Nat → World} : ∀ {k : Nat} {l : List Oper} {ph : List (List (Nat × Nat))}, StepsP P ops a0 aF er Ws k l ph → ∀ (i : Nat) (o : Oper) (p : Nat × Nat), l[i]? = some o → p ∈ ph[i]?.getD [] → StepK P ops a0 aF (er.contains (k + i)) o (Ws p.1) (Ws p.2)
  | _, [], _, _, i, o, p, ho, _ => by simp at ho
  | _, _ :: _, [], _, i, o, p, _, hp => by simp at hp
  | k, o' :: os, q :: ps, h, i, o, p, ho, hp => by
    cases i with
    | zero => simp at ho hp; subst ho; exact h.1 p hp
    | succ i =>
      have := steps_at h.2 i o p (by simpa using ho) (by simpa using hp)
      rwa [show k + 1 + i = k + (i + 1) by omega] at this
section main
variable {P : Program} {l : List Oper} {er sp : List Nat} {ph : List (List (Nat × Nat))} {a0 aF : Act} {Ws : Nat → World} {ro : Option Nat} {n : Nat} {Q : Exit → Act → World → Prop}
theorem clo_set {L : Array Bool} {i : Nat} (hL : L.size = l.length) (hc : Clo l L) (hi : i < l.length) (hr : ∀ (o : Oper), l[i]? = some o → ∀ e ∈ o.after, Region.binds .any e = true → L.getD e.on false = true) : Clo l (L.setIfInBounds i true) := by
  have up : ∀ j, L.getD j false = true → (L.setIfInBounds i true).getD j false = true := fun j hj => by
    by_cases e : i = j
    · subst e; exact getD_set_self (by omega) _
    · rw [getD_set_other e]; exact hj
  intro j o hj hl e he hb
  by_cases hij : i = j
  · subst hij; exact up _ (hr o hj e he hb)
  · rw [getD_set_other hij] at hl; exact up _ (hc j o hj hl e he hb)
theorem plan_done (hok : PlanOK l aF.tmps.size er sp ph) (hsp : ∀ t ∈ sp, t < l.length) {L : Array Bool} {a : Act} (hL : L.size = l.length) (hw : OnWay l a0 aF L a) (hall : ∀ i, i < l.length → L.getD i false = true) (hQ : Q .normal aF (Ws sp.length)) : Q .normal a (Ws (phase sp L)) := by
  have e1 : a = aF := act_ext hw.size hw.defers fun s => by
    by_cases h : ∀ o ∈ l, o.dst ≠ some s
    · exact hw.off s h
    · obtain ⟨o, ho, hd⟩ : ∃ o, o ∈ l ∧ o.dst = some s := by
        refine Decidable.byContradiction fun hh => h fun o ho hd => hh ⟨o, ho, hd⟩
      obtain ⟨j, hj⟩ := List.getElem?_of_mem ho
      exact hw.on s j o hj hd (hall j (List.getElem?_eq_some_iff.1 hj).1)
  have e2 : phase sp L = sp.length := by
    unfold phase
    rw [List.filter_eq_self.2 (fun t ht => hall t (hsp t ht))]
  rw [e1, e2]
  exact hQ
theorem plan_any (hok : PlanOK l aF.tmps.size er sp ph) (hsp : ∀ t ∈ sp, t < l.length) (hstep : ∀ (i : Nat) (o : Oper) (p : Nat × Nat), l[i]? = some o → p ∈ ph[i]?.getD [] → StepK P l.toArray a0 aF (er.contains i) o (Ws p.1) (Ws p.2)) (hQ : Q .normal aF (Ws sp.length)) :
    ∀ (fuel : Nat) (L : Array Bool) (a : Act), left L ≤ fuel → L.size = l.length → Clo l L → OnWay l a0 aF L a → wpAnyIn (wideR ro) n P .any l.toArray Q fuel L a (Ws (phase sp L))
  | 0, L, a, hf, hL, hc, hw => by
    have h0 := left_zero (show left L = 0 by omega)
    refine ⟨List.filter_eq_nil_iff.2 fun i hi => ?_, plan_done hok hsp hL hw (fun i hi => getD_bf (by omega) (h0 i)) hQ⟩
    simp [h0 i]
  | fuel + 1, L, a, hf, hL, hc, hw => by
    refine ⟨fun hr => ?_, fun i hi => ?_⟩
    · refine plan_done hok hsp hL hw (fun i => ?_) hQ
      induction i using Nat.strongRecOn with
      | ind i ih =>
        intro hi
        refine Decidable.byContradiction fun hn => ?_
        have hmem : i ∈ Region.ready .any l.toArray L := by
          rw [mem_ready]
          refine ⟨?_, l[i], by simp [hi], fun e he hb => ih e.on (hok.low i l[i] (by simp [hi]) e he hb) (Nat.lt_trans (hok.low i l[i] (by simp [hi]) e he hb) hi)⟩
          cases hg : L.getD i true with
          | true => exact absurd (getD_bf (by omega) hg) hn
          | false => rfl
        rw [hr] at hmem
        cases hmem
    · obtain ⟨hun, o, ho', hdeps⟩ := mem_ready.1 hi
      have ho : l[i]? = some o := by simpa using ho'
      have hi2 : i < l.length := (List.getElem?_eq_some_iff.1 ho).1
      have hunf := getD_fb hun
      have hdep : ∀ o', l[i]? = some o' → ∀ e ∈ o'.after, Region.binds .any e = true → L.getD e.on false = true := fun o' h' => by
        rw [ho] at h'
        obtain rfl := Option.some.inj h'
        exact hdeps
      have hin : ∀ t, (maskF l l.length i).testBit t = true → L.getD t false = true := fun t ht => mask_on hc _ i t ht hdep
      have hph : (phase sp L, phase sp (L.setIfInBounds i true)) ∈ ph[i]?.getD [] := by
        by_cases hs : i ∈ sp
        · obtain ⟨k, hk⟩ := List.getElem?_of_mem hs
          have hkl := (List.getElem?_eq_some_iff.1 hk).1
          have down : ∀ (m d t u : Nat), sp[m]? = some t → sp[m + d]? = some u → L.getD u false = true → L.getD t false = true := by
            intro m d
            induction d with
            | zero => intro t u h1 h2 h3; rw [Nat.add_zero, h1] at h2; obtain rfl := Option.some.inj h2; exact h3
            | succ d ih =>
              intro t u h1 h2 h3
              have hlt : m + d < sp.length := by have := (List.getElem?_eq_some_iff.1 h2).1; omega
              have h4 : sp[m + d]? = some sp[m + d] := List.getElem?_eq_getElem hlt
              exact ih t _ h1 h4 (mask_up hc _ _ _ (hok.chain (m + d) _ u h4 (by rw [← h2]; rfl)) h3)
          have hiff : ∀ (m t : Nat), sp[m]? = some t → (L.getD t false = true ↔ m < k) := by
            intro m t hm
            constructor
            · intro hl
              refine Decidable.byContradiction fun hge => ?_
              obtain ⟨d, hd⟩ : ∃ d, m = k + d := ⟨m - k, by omega⟩
              subst hd
              have := down k d i t hk hm hl
              rw [hunf] at this
              cases this
            · intro hlt
              have hlt' : k - 1 < sp.length := by omega
              have h4 : sp[k - 1]? = some sp[k - 1] := List.getElem?_eq_getElem hlt'
              have h5 : L.getD sp[k - 1] false = true := hin _ (hok.chain (k - 1) _ i h4 (by rw [show k - 1 + 1 = k by omega]; exact hk))
              obtain ⟨d, hd⟩ : ∃ d, k - 1 = m + d := ⟨k - 1 - m, by omega⟩
              exact down m d t _ hm (by rw [← hd]; exact h4) h5
          have e1 : phase sp L = k := filter_first _ sp k (by omega) hiff
          have e2 : phase sp (L.setIfInBounds i true) = k + 1 := filter_first _ sp (k + 1) (by omega) fun m t hm => by
            by_cases e : i = t
            · subst e
              have hmk : m = k := by
                rcases Nat.lt_trichotomy m k with h | h | h
                · exact absurd hk (hok.nodup m k i h hm)
                · exact h
                · exact absurd hm (hok.nodup k m i h hk)
              simp only [getD_set_self (show i < L.size by omega), true_iff]
              omega
            · rw [getD_set_other e, hiff m t hm]
              have hmk : m ≠ k := fun h => by
                subst h
                rw [hm] at hk
                exact e (Option.some.inj hk).symm
              omega
          rw [e1, e2]
          exact hok.spine i k hi2 hk
        · have e : phase sp (L.setIfInBounds i true) = phase sp L := by
            unfold phase
            congr 1
            refine List.filter_congr fun t ht => ?_
            rw [getD_set_other (fun h => hs (by rw [h]; exact ht))]
          rw [e]
          refine hok.rest i _ hi2 hs (List.length_filter_le _ _) (filter_le _ _ sp fun t _ ht => hin t ht) (filter_apart _ _ sp fun t _ h1 h2 => ?_)
          have := mask_up hc _ t i h2 h1
          rw [hunf] at this
          cases this
      have hgo : ∀ v, aF.put o.dst v = aF → wpAnyIn (wideR ro) n P .any l.toArray Q fuel (L.setIfInBounds i true) (a.put o.dst v) (Ws (phase sp (L.setIfInBounds i true))) := fun v hv =>
        plan_any hok hsp hstep hQ fuel _ _ (by have := left_set hun; omega) (by simpa using hL) (clo_set hL hc hi2 hdep) (hw.step hL ho (fun d hd => hok.dst i o d ho hd) hv)
      have hst := hstep i o _ ho hph
      unfold StepK at hst
      by_cases her : er.contains i = true
      · rw [if_pos her] at hst
        have hlook : ∀ s ∈ o.looksAt l.toArray, a.tmps[s]? = a0.tmps[s]? := fun s hs => hw.old s fun j oj hj hd => by
          have h1 := hok.look i o s j oj ho hs hj hd
          rw [if_pos her] at h1
          cases hg : L.getD j false with
          | false => rfl
          | true =>
            have := mask_up hc _ j i h1 hg
            rw [hunf] at this
            cases this
        obtain ⟨hwant, v, hrun, hput⟩ := hst
        unfold wpOpIn
        simp only [ho']
        rw [same_wanted hlook, if_pos hwant]
        refine ⟨fun _ _ => trivial, ?_⟩
        rw [Oper.semAt_eq _ _ _ (plainOp_spec (hok.plain i o ho)), same_exec (P := P) (Region.noSelect_spec hok.sel i o · · ho') hlook, hrun]
        exact hgo v hput
      · rw [if_neg her] at hst
        have hlook : ∀ s ∈ o.looksAt l.toArray, a.tmps[s]? = aF.tmps[s]? := fun s hs => by
          by_cases h : ∀ o ∈ l, o.dst ≠ some s
          · exact hw.off s h
          · obtain ⟨oj, hoj, hd⟩ : ∃ o, o ∈ l ∧ o.dst = some s := by
              refine Decidable.byContradiction fun hh => h fun o ho hd => hh ⟨o, ho, hd⟩
            obtain ⟨j, hj⟩ := List.getElem?_of_mem hoj
            have h1 := hok.look i o s j oj ho hs hj hd
            rw [if_neg her] at h1
            exact hw.on s j oj hj hd (hin j h1)
        exact step_in (hok.plain i o ho) (Region.noSelect_spec hok.sel i o · · ho') ho' hlook hst hgo
theorem wpIn_region_plan {id : Nat} {a : Act} {w : World} (aF : Act) (er sp : List Nat) (ph : List (List (Nat × Nat))) (Ws : Nat → World) (N : Nat) (hN : a.tmps.size = N) (hm : P.follows .mixedOrders = true) (hB : planB l N er sp ph = true) (hsp : (sp.all fun t => decide (t < l.length)) = true) (haF : putAll l (valsOf l aF) a = aF) (hw0 : Ws 0 = { w with drawn := w.drawn + 1 })
    (hsteps : StepsP P l.toArray a aF er Ws 0 l ph) (hQ : Q .normal aF (Ws sp.length)) : (Code.region id l.toArray true).wpIn (wideR ro) n P Q a w := by
  obtain ⟨k1, k2, k3⟩ := putAll_keeps l (valsOf l aF) a
  rw [haF] at k1 k2 k3
  have hok : PlanOK l aF.tmps.size er sp ph := by rw [k1, hN]; exact planB_ok hB
  have hsp' : ∀ t ∈ sp, t < l.length := fun t ht => by simpa using List.all_eq_true.1 hsp t ht
  refine wpIn_region_any hm ?_
  have hz : ∀ (m i : Nat), (Array.replicate m false).getD i false = false := fun m i => by
    rw [Array.getD_eq_getD_getElem?, Array.getElem?_replicate]; split <;> rfl
  have h0 : phase sp (Array.replicate l.toArray.size false) = 0 := by
    unfold phase
    rw [List.length_eq_zero_iff, List.filter_eq_nil_iff]
    intro t _
    rw [hz]; simp
  have hst := steps_at hsteps
  simp only [Nat.zero_add] at hst
  have := plan_any (Q := Q) (ro := ro) (n := n) (P := P) (a0 := a) hok hsp' hst hQ l.toArray.size (Array.replicate l.toArray.size false) a (by unfold left; simp) (by simp) (fun i o _ hl => by rw [hz] at hl; cases hl)
    ⟨fun _ _ => rfl, k1.symm, k2.symm, fun s hs => (k3 s hs).symm, fun s j o _ _ hl => by rw [hz] at hl; cases hl⟩
  rw [h0, hw0] at this
  exact this
end main
theorem StepP.of {P : Program} {ops : Array Oper} {aF : Act} {o : Oper} {w w' : World} (hg : o.guard = none) (h : o.wp P aF w (fun a' w'' => a' = aF ∧ w'' = w') (fun _ _ _ => False)) : StepP P ops aF o w w' := by
  unfold StepP
  have : Region.wanted o (yielded ops aF.tmps) = true := by simp [Region.wanted, hg]
  rw [if_pos this]
  exact h
theorem StepsP.nil {P : Program} {ops : Array Oper} {a0 aF : Act} {er : List Nat} {Ws : Nat → World} {k : Nat} {ph : List (List (Nat × Nat))} : StepsP P ops a0 aF er Ws k [] ph := trivial
theorem StepsP.cons {P : Program} {ops : Array Oper} {a0 aF : Act} {er : List Nat} {Ws : Nat → World} {k : Nat} {o : Oper} {os : List Oper} {p : List (Nat × Nat)} {ps : List (List (Nat × Nat))} (he : er.contains k = false) (h : ∀ q ∈ p, StepP P ops aF o (Ws q.1) (Ws q.2)) (t : StepsP P ops a0 aF er Ws (k + 1) os ps) : StepsP P ops a0 aF er Ws k (o :: os) (p :: ps) :=
  ⟨fun q hq => by unfold StepK; rw [he]; exact h q hq, t⟩
theorem StepsP.early {P : Program} {ops : Array Oper} {a0 aF : Act} {er : List Nat} {Ws : Nat → World} {k : Nat} {o : Oper} {os : List Oper} {m : Nat} {ps : List (List (Nat × Nat))} (he : er.contains k = true) (hg : o.guard = none) (x : Operand) (ho : o.op = .move x) (hv : aF.put o.dst (a0.eval x) = aF) (t : StepsP P ops a0 aF er Ws (k + 1) os ps) : StepsP P ops a0 aF er Ws k (o :: os) (((List.range m).map fun j => (j, j)) :: ps) :=
  ⟨fun q hq => by
    obtain ⟨j, _, rfl⟩ := List.mem_map.1 hq
    unfold StepK
    rw [he]
    exact ⟨by simp [Region.wanted, hg], a0.eval x, by simp only [execOp, ho]; rfl, hv⟩, t⟩
theorem step1 {P : Program} {ops : Array Oper} {aF : Act} {Ws : Nat → World} {o : Oper} {a b : Nat} (h : StepP P ops aF o (Ws a) (Ws b)) : ∀ q ∈ [(a, b)], StepP P ops aF o (Ws q.1) (Ws q.2) := fun q hq => by
  obtain rfl := List.mem_singleton.1 hq
  exact h
theorem step2 {P : Program} {ops : Array Oper} {aF : Act} {Ws : Nat → World} {o : Oper} {a b c d : Nat} (h : StepP P ops aF o (Ws a) (Ws b)) (k : StepP P ops aF o (Ws c) (Ws d)) : ∀ q ∈ [(a, b), (c, d)], StepP P ops aF o (Ws q.1) (Ws q.2) := fun q hq => by
  rcases List.mem_cons.1 hq with rfl | hq
  · exact h
  · exact step1 k q hq
theorem StepP.append {P : Program} {ops : Array Oper} {aF : Act} {o : Oper} {w w' : World} {v' : Value} (hg : o.guard = none) (s x : Operand) (t : TypeId) (ho : o.op = .call { callee := .builtin .append, args := #[s, x], argTypes := #[t, t] }) (v vx : Value) (hs : aF.eval s = v) (hx : aF.eval x = vx)
    (hrun : (Builtin.append_ #[t, t] o.type #[v, vx]).run P w = .ok v' w') (hput : aF.put o.dst v' = aF) : StepP P ops aF o w w' := by
  refine StepP.of hg ?_
  unfold Oper.wp
  simp [execOp, ho, resolve, invoke, builtin, hs, hx, hrun, Result.andThen, Oper.upon, hput]
end Go.Proofs.Ytbgbjgedjmhcaaa.OldD
namespace Go.Proofs.Ytbgbjgedjmhcaaa.OldD
open Go.RowKit
section
variable {P : Program} {l : List Oper} {ro : Option Nat} {n : Nat} {Q : Exit → Act → World → Prop}
theorem wpIn_region_plan_v {id : Nat} {a : Act} {w : World} {aF : Act} (vals : List Value) (hE : putAll l vals a = aF) (er sp : List Nat) (ph : List (List (Nat × Nat))) (Ws : Nat → World) (N : Nat) (hN : a.tmps.size = N) (hm : P.follows .mixedOrders = true) (hB : planB l N er sp ph = true) (hsp : (sp.all fun t => decide (t < l.length)) = true) (haF : putAll l (valsOf l aF) a = aF) (hw0 : Ws 0 = { w with drawn := w.drawn + 1 })
    (hsteps : StepsP P l.toArray a aF er Ws 0 l ph) (hQ : Q .normal aF (Ws sp.length)) : (Code.region id l.toArray true).wpIn (wideR ro) n P Q a w :=
  wpIn_region_plan aF er sp ph Ws N hN hm hB hsp haF hw0 hsteps hQ
end
theorem any_steps {P : Program} {ops : Array Oper} {aF : Act} {Ws : Nat → World} {o : Oper} {p : List (Nat × Nat)} (hp : (p.all fun q => q.1 == q.2) = true) (h : ∀ w, StepP P ops aF o w w) : ∀ q ∈ p, StepP P ops aF o (Ws q.1) (Ws q.2) := fun q hq => by
  have := List.all_eq_true.1 hp q hq
  have e : q.1 = q.2 := by simpa using this
  rw [← e]
  exact h _
theorem StepP.want {P : Program} {ops : Array Oper} {aF : Act} {o : Oper} {w w' : World} (hw : Region.wanted o (yielded ops aF.tmps) = true) (h : o.wp P aF w (fun a' w'' => a' = aF ∧ w'' = w') (fun _ _ _ => False)) : StepP P ops aF o w w' := by
  unfold StepP
  rw [if_pos hw]
  exact h
theorem StepP.skip {P : Program} {ops : Array Oper} {aF : Act} {o : Oper} {w : World} (hw : Region.wanted o (yielded ops aF.tmps) = false) (h : aF.put o.dst undef = aF) : StepP P ops aF o w w := by
  unfold StepP
  rw [if_neg (by rw [hw]; simp)]
  exact ⟨h, rfl⟩
end Go.Proofs.Ytbgbjgedjmhcaaa.OldD
namespace Go.Proofs.Ytbgbjgedjmhcaaa.OldD
open Go.ChangeShapes Go.WideShapes Go.ChangeAt Go.RowKit
attribute [local go_sem] Oper.semAt_some putAll
theorem zero99 (w : World) : (zeroValue 166).run Try.prog w = .ok (.agg #[]) w := by kernel_rfl
theorem wf_nat (n : Nat) (h : n ≤ 65536) : (Lit.int .i64 (n : Int)).wf = true := WalkArith.wf_i64 (by omega)
theorem BM.look {W : World} {b n : Nat} {bad : Int → Int → Bool} (h : BM W b n bad) {d t : Int} (hd : (Lit.int .i64 d).wf = true) (ht : (Lit.int .i64 t).wf = true) :
    (Instr.lookup 115 (.map (some b)) (.agg #[.int .i64 d, .int .i64 t]) true).run Try.prog W = .ok (.tuple #[.agg #[], .bool (bad d t)]) W := by
  obtain ⟨D, h1, h2⟩ := h
  obtain ⟨v, ps, hrun, hv⟩ := h1.look_ok law Try.underlying115 (zero99 W) unitElem_mk (key_pk d t hd ht)
  obtain ⟨rfl, _⟩ := unitElem_inv hv
  rw [hrun, h2 d t hd ht]
set_option maxRecDepth 100000 in
theorem bad_ok {W : World} {A : Nat} {c : Co} {k : Dk} (h : DA W A c k) (d t : Int) (hd : (Lit.int .i64 d).wf = true) (ht : (Lit.int .i64 t).wf = true) :
    Calls Try.prog 161 #[.pointer (some ⟨A, 0, none⟩), .agg #[.int .i64 d, .int .i64 t]] W fun e W' => e = .returned (.int .i64 (if k.bad d t then 7 else 0)) ∧ Below W.heap.size W W' := by
  have c1 := h.c1
  have HL := h.lt
  have hmx : Try.prog.follows .mixedOrders = true := by kernel_rfl
  obtain ⟨V0, hV0⟩ : ∃ V0, V0 = (W.alloc (.cells #[.int .i64 d, .int .i64 t] 120)).drew := ⟨_, rfl⟩
  have hB0 : Below W.heap.size W V0 := by rw [hV0]; exact ((Below.refl _ _).alloc (Nat.le_refl _) _).drew
  have hp0 : V0.cell? ⟨W.heap.size, 0, none⟩ = some (.int .i64 d) := by rw [hV0]; go_simp
  have hp1 : V0.cell? ⟨W.heap.size, 1, none⟩ = some (.int .i64 t) := by rw [hV0]; go_simp
  have hs0 : V0.heap.size = W.heap.size + 1 := by rw [hV0]; simp
  have hA0 : V0.cell? ⟨A, 1, none⟩ = some (.map (some c.mb)) := (hB0.cell (p := ⟨A, 1, none⟩) HL).trans c1
  have hL0 := ((h.below hB0).mp).look hd ht
  have hL1 := (((h.below hB0).mp).gr (Gr.of_below ((Below.refl _ V0).alloc (Nat.le_refl _) (.cells #[] 166)) []) (by simp)).look hd ht
  have HA0 := hid hA0; have HP0 := hid hp0; have HP1 := hid hp1; have HL0 := hid hL0; have HL1 := hid hL1; have HB0 := hid hB0; have HV0 := hid hV0; have HS0 := hid hs0
  have HC1 := hid c1
  have HB := hid (show k.bad d t = k.bad d t from rfl)
  clear hA0 hp0 hp1 hL0 hL1 hB0 hV0 c1 h hs0
  generalize hbb : k.bad d t = b at *
  clear hbb HB
  go_enter Try.func161, Try.ntmps161
  go_wp2_with fail
  obtain ⟨Ws, w0, w1, w2⟩ : ∃ Ws : Nat → World, Ws 0 = V0 ∧ Ws 1 = V0.alloc (.cells #[] 166) ∧ Ws 2 = V0.alloc (.cells #[] 166) := ⟨fun q => match q with | 0 => V0 | 1 => V0.alloc (.cells #[] 166) | _ => V0.alloc (.cells #[] 166), rfl, rfl, rfl⟩
  refine (wpIn_wide (n := 5)).1 ?_
  refine wpIn_region_plan_v (ro := none) (aF := ?aF) [.pointer (some ⟨A, 0, none⟩), .pointer (some ⟨A, 0, none⟩), .pointer (some ⟨A, 1, none⟩), .map (some c.mb), .agg #[.int .i64 d, .int .i64 t], .tuple #[.agg #[], .bool b], .tuple #[.agg #[], .bool b], .agg #[], .bool b, .pointer (some ⟨V0.heap.size, 0, none⟩), undef, .bool b] ?hE [] [9, 10] [[(0, 0), (1, 1)], [(0, 0), (1, 1)], [(0, 0), (1, 1)], [(0, 0), (1, 1)], [(0, 0), (1, 1)], [(0, 0), (1, 1)], [(0, 0), (1, 1)], [(0, 0), (1, 1)], [(0, 0), (1, 1), (2, 2)], [(0, 1)], [(1, 2)], [(2, 2)]] Ws 17 ?hN hmx (by kernel_rfl) (by kernel_rfl) ?haF (w0.trans HV0.out) ?st ?fin
  case hE =>
    go_simp
    rfl
  case hN => kernel_rfl
  case haF => kernel_rfl
  case st =>
   refine StepsP.cons rfl (any_steps (by kernel_rfl) ?s0) (StepsP.cons rfl (any_steps (by kernel_rfl) ?s1) (StepsP.cons rfl (any_steps (by kernel_rfl) ?s2) (StepsP.cons rfl (step2 ?s3_0 ?s3_1) (StepsP.cons rfl (step2 ?s4_0 ?s4_1) (StepsP.cons rfl (step2 ?s5_0 ?s5_1) (StepsP.cons rfl (any_steps (by kernel_rfl) ?s6) (StepsP.cons rfl (any_steps (by kernel_rfl) ?s7) (StepsP.cons rfl (any_steps (by kernel_rfl) ?s8) (StepsP.cons rfl (step1 ?s9_0) (StepsP.cons rfl (step1 ?s10_0) (StepsP.cons rfl (any_steps (by kernel_rfl) ?s11) StepsP.nil)))))))))))
   case s0 =>
    intro _
    refine StepP.want (by kernel_rfl) ?_
    go_simp
   case s1 =>
    intro _
    refine StepP.want (by kernel_rfl) ?_
    go_simp
   case s2 =>
    intro _
    refine StepP.want (by kernel_rfl) ?_
    go_simp
   case s3_0 =>
    rw [w0]
    refine StepP.want (by kernel_rfl) ?_
    have c := HA0.out
    go_simp
   case s3_1 =>
    rw [w1]
    refine StepP.want (by kernel_rfl) ?_
    have c1 := HA0.out
    have c3 : A < V0.heap.size := by have := HS0.out; omega
    go_simp
   case s4_0 =>
    rw [w0]
    refine StepP.want (by kernel_rfl) ?_
    have c := HP0.out
    have c2 := HP1.out
    go_simp
   case s4_1 =>
    rw [w1]
    refine StepP.want (by kernel_rfl) ?_
    have c := HP0.out
    have c2 := HP1.out
    have c3 := HS0.out
    go_simp
   case s5_0 =>
    rw [w0]
    refine StepP.want (by kernel_rfl) ?_
    have c := HL0.out
    go_simp
   case s5_1 =>
    rw [w1]
    refine StepP.want (by kernel_rfl) ?_
    have c := HL1.out
    go_simp
   case s6 =>
    intro _
    refine StepP.want (by kernel_rfl) ?_
    go_simp
   case s7 =>
    intro _
    refine StepP.want (by kernel_rfl) ?_
    go_simp
   case s8 =>
    intro _
    refine StepP.want (by kernel_rfl) ?_
    go_simp
   case s9_0 =>
    rw [w0, w1]
    refine StepP.want (by kernel_rfl) ?_
    go_simp
   case s10_0 =>
    rw [w1, w2]
    refine StepP.want (by kernel_rfl) ?_
    go_simp
   case s11 =>
    intro _
    refine StepP.want (by kernel_rfl) ?_
    go_simp
  case fin =>
    have e9 : Ws ([9, 10] : List Nat).length = V0.alloc (.cells #[] 166) := w2
    rw [e9]
    clear e9 w0 w1 w2
    cases b with
    | true =>
      go_wp2_with fail
      go_ret
      exact ⟨rfl, HB0.out.alloc HB0.out.size _⟩
    | false =>
      go_wp2_with fail
      go_ret
      exact ⟨rfl, HB0.out.alloc HB0.out.size _⟩
set_option maxRecDepth 100000 in
theorem first_any (A : Addr) (d t : Int) (n : Nat) (hn8 : n ≤ 8) (fs : Nat → Nat) (ej : Nat → Int) (r : Int) (W : World) (fb : Nat) (hfb : fb < W.heap.size)
    (hcells : ∀ j, j < n → W.cell? ⟨fb, j, none⟩ = some (.func (.func (fs j)) #[.pointer (some A)] #[]))
    (hcall : ∀ j, j < n → (∀ i, i < j → ej i = 0) → ∀ W', Below W.heap.size W W' → Calls Try.prog (fs j) #[.pointer (some A), .agg #[.int .i64 d, .int .i64 t]] W' fun e w' => e = .returned (.int .i64 (ej j)) ∧ Below W'.heap.size W' w')
    (hent : ∀ j, j < n → ∀ args w, (callFunc (fs j) args).run Try.prog w = .ok (.enter (fs j) args) w)
    (h1 : ∀ j, j < n → (∀ i, i < j → ej i = 0) → ej j ≠ 0 → r = ej j) (h2 : (∀ i, i < n → ej i = 0) → r = 0) :
    Calls Try.prog 156 #[.agg #[.int .i64 d, .int .i64 t], .slice (some ⟨fb, 0, none⟩) n n] W fun e w' => e = .returned (.int .i64 r) ∧ Below W.heap.size W w' := by
  have HC := hid hcells
  have HK := hid hcall
  have HE := hid hent
  have H1 := hid h1
  have H2 := hid h2
  clear hcells hcall hent h1 h2
  go_enter Try.func156, Try.ntmps156
  go_wp2_with fail
  have HB0 := hid ((Below.refl W.heap.size W).alloc (Nat.le_refl _) (.cells #[.int .i64 d, .int .i64 t] 120))
  have HP0 := hid (show (W.alloc (.cells #[.int .i64 d, .int .i64 t] 120)).cell? ⟨W.heap.size, 0, none⟩ = some (.int .i64 d) ∧ (W.alloc (.cells #[.int .i64 d, .int .i64 t] 120)).cell? ⟨W.heap.size, 1, none⟩ = some (.int .i64 t) ∧ W.heap.size < (W.alloc (.cells #[.int .i64 d, .int .i64 t] 120)).heap.size from ⟨by go_simp, by go_simp, by simp⟩)
  generalize W.alloc (.cells #[.int .i64 d, .int .i64 t] 120) = WB at *
  go_loopw [10] (fun iv wr => ∃ k : Nat, k ≤ n ∧ iv = .int .i64 (k : Int) ∧ Hid (∀ i, i < k → ej i = 0) ∧ Hid (Below WB.heap.size WB wr)) (fun iv _ => n - (intOf iv).toNat)
  case atStart => exact ⟨0, by omega, rfl, hid (fun i hi => by omega), hid (Below.refl _ _)⟩
  case round =>
    obtain ⟨k, hk, rfl, HZ, HB⟩ := hrel
    have HBW := hid (HB0.out.trans (HB.out.mono HB0.out.size))
    by_cases hlt : k < n
    · have hlt' : (k : Int) < (n : Int) := by omega
      have c0 := (HBW.out.cell (p := ⟨fb, k, none⟩) hfb).trans (HC.out k hlt)
      have c1 := (HB.out.cell (p := ⟨W.heap.size, 0, none⟩) HP0.out.2.2).trans HP0.out.1
      have c2 := (HB.out.cell (p := ⟨W.heap.size, 1, none⟩) HP0.out.2.2).trans HP0.out.2.1
      have ee := HE.out k hlt
      have HCa := hid (HK.out k hlt HZ.out wr HBW.out)
      have HR := hid (H1.out k hlt HZ.out)
      by_cases hz : ej k = 0
      · have HZ2 := hid (show ∀ i, i < k + 1 → ej i = 0 from fun i hi => by
          by_cases e : i = k
          · rw [e]; exact hz
          · exact HZ.out i (by omega))
        rw [hz] at HCa
        clear hz HR
        go_wp2_with fail
        refine HCa.out.mono ?_
        rintro e w1 ⟨rfl, hb1⟩
        have HB1 := hid (HB.out.trans (hb1.mono HB.out.size))
        clear hb1
        go_wp2_with fail
        go_roundw
        case rel => exact ⟨k + 1, by omega, by go_num, HZ2, HB1⟩
        case measure => simp [intOf]; omega
      · have HR2 := hid (HR.out hz)
        have hzb : (ej k != 0) = true := by simpa using hz
        generalize ej k = x at *
        clear HR
        go_wp2_with fail
        refine HCa.out.mono ?_
        rintro e w1 ⟨rfl, hb1⟩
        have HB1 := hid (HB.out.trans (hb1.mono HB.out.size))
        clear hb1
        go_wp2_with fail
        go_ret
        exact ⟨by rw [HR2.out]; rfl, HB0.out.trans (HB1.out.mono HB0.out.size)⟩
    · obtain rfl : k = n := by omega
      have hlt' : ¬ (k : Int) < (k : Int) := by omega
      have HR := hid (H2.out HZ.out)
      go_wp2_with fail
      go_ret
      exact ⟨by rw [HR.out]; rfl, HBW.out⟩
def fnOf : Nat → Nat
  | 0 => 157
  | 1 => 158
  | 2 => 159
  | _ => 161
def ej (k : Dk) (d t : Int) : Nat → Int
  | 0 => if k.down then 5 else 0
  | 1 => if hs k d t then 0 else 1
  | 2 => if (gu k.U d.toNat).mis then 6 else 0
  | _ => if k.bad d t then 7 else 0
def chk3 (k : Dk) (d t : Int) : Int := if k.down then 5 else if hs k d t = false then 1 else if (gu k.U d.toNat).mis then 6 else 0
def chk4 (k : Dk) (d t : Int) : Int := if k.down then 5 else if hs k d t = false then 1 else if (gu k.U d.toNat).mis then 6 else if k.bad d t then 7 else 0
theorem enters4 (j : Nat) (args : Array Value) (w : World) : (callFunc (fnOf j) args).run Try.prog w = .ok (.enter (fnOf j) args) w := by
  match j with
  | 0 => exact enters_of Try.func157 (by kernel_rfl) rfl _ _
  | 1 => exact enters_of Try.func158 (by kernel_rfl) rfl _ _
  | 2 => exact enters_of Try.func159 (by kernel_rfl) rfl _ _
  | j + 3 => exact enters_of Try.func161 (by kernel_rfl) rfl _ _
theorem hs_iff {k : Dk} {d t : Int} : hs k d t = true ↔ ∃ n m : Nat, d = n ∧ t = m ∧ n < k.U.length ∧ m < (gu k.U n).now.length := by
  unfold hs
  rw [Bool.and_eq_true, Bool.and_eq_true, hd_iff, decide_eq_true_eq, decide_eq_true_eq]
  constructor
  · rintro ⟨⟨n, rfl, h⟩, h1, h2⟩; exact ⟨n, t.toNat, rfl, by omega, h, by rw [show ((n : Int)).toNat = n from rfl] at h2; omega⟩
  · rintro ⟨n, m, rfl, rfl, h1, h2⟩; exact ⟨⟨n, rfl, h1⟩, by omega, by rw [show ((n : Int)).toNat = n from rfl]; omega⟩
theorem check_call {W : World} {A : Nat} {c : Co} {k : Dk} (h : DA W A c k) (d t : Int) (j : Nat) (hz : ∀ i, i < j → ej k d t i = 0) (W' : World) (hb : Below W.heap.size W W') :
    Calls Try.prog (fnOf j) #[.pointer (some ⟨A, 0, none⟩), .agg #[.int .i64 d, .int .i64 t]] W' fun e w' => e = .returned (.int .i64 (ej k d t j)) ∧ Below W'.heap.size W' w' := by
  have h' := h.below hb
  have hr : 2 ≤ j → ∃ n m : Nat, d = n ∧ t = m ∧ n < k.U.length ∧ m < (gu k.U n).now.length := fun h2 => by
    have := hz 1 (by omega)
    unfold ej at this
    cases hh : hs k d t with
    | true => exact hs_iff.1 hh
    | false => rw [hh] at this; cases this
  match j with
  | 0 => exact power_ok h' d t
  | 1 => exact sector_ok h' d t
  | 2 =>
    obtain ⟨n, m, rfl, rfl, h1, h2⟩ := hr (by omega)
    exact missing_ok h' n h1 _
  | j + 3 =>
    obtain ⟨n, m, rfl, rfl, h1, h2⟩ := hr (by omega)
    have := h.b8
    have := h.bn n h1
    exact bad_ok h' _ _ (wf_nat _ (by omega)) (wf_nat _ (by omega))
theorem ej3_first {k : Dk} {d t : Int} : (∀ j, j < 3 → (∀ i, i < j → ej k d t i = 0) → ej k d t j ≠ 0 → chk3 k d t = ej k d t j) ∧ ((∀ i, i < 3 → ej k d t i = 0) → chk3 k d t = 0) := by
  constructor
  · intro j hj hz hn
    have h0 := fun h => hz 0 h
    have h1 := fun h => hz 1 h
    obtain rfl | rfl | rfl : j = 0 ∨ j = 1 ∨ j = 2 := by omega
    · unfold chk3 ej at *; cases hd : k.down <;> simp_all
    · have h0 := h0 (by omega); unfold chk3 ej at *; cases hd : k.down <;> cases he : hs k d t <;> simp_all
    · have h0 := h0 (by omega); have h1 := h1 (by omega); unfold chk3 ej at *; cases hd : k.down <;> cases he : hs k d t <;> cases hf : (gu k.U d.toNat).mis <;> simp_all
  · intro hz
    have h0 := hz 0 (by omega); have h1 := hz 1 (by omega); have h2 := hz 2 (by omega)
    unfold chk3 ej at *; cases hd : k.down <;> cases he : hs k d t <;> cases hf : (gu k.U d.toNat).mis <;> simp_all
theorem ej4_first {k : Dk} {d t : Int} : (∀ j, j < 4 → (∀ i, i < j → ej k d t i = 0) → ej k d t j ≠ 0 → chk4 k d t = ej k d t j) ∧ ((∀ i, i < 4 → ej k d t i = 0) → chk4 k d t = 0) := by
  constructor
  · intro j hj hz hn
    have h0 := fun h => hz 0 h
    have h1 := fun h => hz 1 h
    have h2 := fun h => hz 2 h
    obtain rfl | rfl | rfl | rfl : j = 0 ∨ j = 1 ∨ j = 2 ∨ j = 3 := by omega
    · unfold chk4 ej at *; cases hd : k.down <;> simp_all
    · have h0 := h0 (by omega); unfold chk4 ej at *; cases hd : k.down <;> cases he : hs k d t <;> simp_all
    · have h0 := h0 (by omega); have h1 := h1 (by omega); unfold chk4 ej at *; cases hd : k.down <;> cases he : hs k d t <;> cases hf : (gu k.U d.toNat).mis <;> simp_all
    · have h0 := h0 (by omega); have h1 := h1 (by omega); have h2 := h2 (by omega); unfold chk4 ej at *; cases hd : k.down <;> cases he : hs k d t <;> cases hf : (gu k.U d.toNat).mis <;> cases hg : k.bad d t <;> simp_all
  · intro hz
    have h0 := hz 0 (by omega); have h1 := hz 1 (by omega); have h2 := hz 2 (by omega); have h3 := hz 3 (by omega)
    unfold chk4 ej at *; cases hd : k.down <;> cases he : hs k d t <;> cases hf : (gu k.U d.toNat).mis <;> cases hg : k.bad d t <;> simp_all
theorem first3_ok {W : World} {A : Nat} {c : Co} {k : Dk} (h : DA W A c k) (d t : Int) (fb : Nat) (hfb : fb < W.heap.size) (hcells : ∀ j, j < 3 → W.cell? ⟨fb, j, none⟩ = some (.func (.func (fnOf j)) #[.pointer (some ⟨A, 0, none⟩)] #[])) :
    Calls Try.prog 156 #[.agg #[.int .i64 d, .int .i64 t], .slice (some ⟨fb, 0, none⟩) 3 3] W fun e w' => e = .returned (.int .i64 (chk3 k d t)) ∧ Below W.heap.size W w' :=
  first_any ⟨A, 0, none⟩ d t 3 (by omega) fnOf (ej k d t) _ W fb hfb hcells (fun j _ hz W' hb => check_call h d t j hz W' hb) (fun j _ => enters4 j) ej3_first.1 ej3_first.2
theorem first4_ok {W : World} {A : Nat} {c : Co} {k : Dk} (h : DA W A c k) (d t : Int) (fb : Nat) (hfb : fb < W.heap.size) (hcells : ∀ j, j < 4 → W.cell? ⟨fb, j, none⟩ = some (.func (.func (fnOf j)) #[.pointer (some ⟨A, 0, none⟩)] #[])) :
    Calls Try.prog 156 #[.agg #[.int .i64 d, .int .i64 t], .slice (some ⟨fb, 0, none⟩) 4 4] W fun e w' => e = .returned (.int .i64 (chk4 k d t)) ∧ Below W.heap.size W w' :=
  first_any ⟨A, 0, none⟩ d t 4 (by omega) fnOf (ej k d t) _ W fb hfb hcells (fun j _ hz W' hb => check_call h d t j hz W' hb) (fun j _ => enters4 j) ej4_first.1 ej4_first.2
end Go.Proofs.Ytbgbjgedjmhcaaa.OldD
namespace Go.Proofs.Ytbgbjgedjmhcaaa.OldD
open Go.ChangeShapes Go.WideShapes Go.ChangeAt Go.RowKit
theorem gu_set (U : List Un) (d i : Nat) (x : Un) : gu (U.set d x) i = if i = d ∧ d < U.length then x else gu U i := by
  unfold gu
  rw [List.getElem?_set]
  by_cases h : d = i
  · subst h
    by_cases h2 : d < U.length
    · simp [h2]
    · simp [h2, List.getElem?_eq_none (Nat.not_lt.1 h2)]
  · rw [if_neg h, if_neg (by omega)]
theorem oblk_of {a : Option Addr} {n c g : Nat} (h : (Value.slice a n c).ownBlock = some g) : g ∈ oblk a := by
  cases a with
  | none => simp [Value.ownBlock] at h
  | some a => simp [Value.ownBlock] at h; simp [oblk, h]
section
variable {W W' : World} {A : Nat} {c : Co} {k : Dk} {S : List Nat}
theorem DA.setA (h : DA W A c k) (hg : Gr [A] W W') (fuse : Int) (down : Bool) (wr : Int) (hb : W'.ownsRow 0 118 6 (.slice (some ⟨A, 0, none⟩) 1 1) 1 [.slice c.ua k.U.length c.uc, .map (some c.mb), .slice c.fa k.F.length c.fc, .int .i64 fuse, .bool down, .int .i64 wr]) :
    DA W' A c { k with fuse := fuse, down := down, wr := wr } where
  blk := hb
  ru := own_gr h.ru hg (fun g hx => by have := oblk_of hx; intro e; obtain rfl := List.mem_singleton.1 e; exact h.sep.au this)
  rf := own_gr h.rf hg (fun g hx => by have := oblk_of hx; intro e; obtain rfl := List.mem_singleton.1 e; exact h.sep.af this)
  mp := h.mp.gr hg (by intro e; exact h.sep.am (List.mem_singleton.1 e).symm)
  rn i hi := (h.rn i hi).gr hg (by intro e; exact (h.sep.n1 i (by rw [h.lb]; exact hi)).1 (List.mem_singleton.1 e))
  rd i hi := (h.rd i hi).gr hg (by intro e; exact (h.sep.d1 i (by rw [h.lb]; exact hi)).1 (List.mem_singleton.1 e))
  lb := h.lb
  ld := h.ld
  b8 := h.b8
  bn := h.bn
  fi := h.fi
  sep := h.sep
theorem DA.setF (h : DA W A c k) (fa : Option Addr) (fc : Nat) (F : List Wr) (hg : Gr (A :: oblk c.fa) W W')
    (hb : W'.ownsRow 0 118 6 (.slice (some ⟨A, 0, none⟩) 1 1) 1 [.slice c.ua k.U.length c.uc, .map (some c.mb), .slice fa F.length fc, .int .i64 k.fuse, .bool k.down, .int .i64 k.wr])
    (hf : W'.ownsRow 0 122 3 (.slice fa F.length fc) F.length (ck 3 F.length (ff F))) (hn : ∀ g ∈ oblk fa, g ∈ oblk c.fa ∨ W.heap.size ≤ g)
    (fi : ∀ i, i < F.length → (gf F i).d < k.U.length ∧ (gf F i).at' < (gu k.U (gf F i).d).now.length) :
    DA W' A { c with fa := fa, fc := fc } { k with F := F } := by
  have key : ∀ x, x ≠ A → x ∉ oblk c.fa → x ∉ A :: oblk c.fa := fun x h1 h2 h3 => by
    rcases List.mem_cons.1 h3 with h3 | h3
    · exact h1 h3
    · exact h2 h3
  have nw : ∀ x, x < W.heap.size → x ∉ oblk c.fa → x ∉ oblk fa := fun x h1 h2 h3 => by
    rcases hn x h3 with h4 | h4
    · exact h2 h4
    · omega
  have ua_lt : ∀ x, x ∈ oblk c.ua → x < W.heap.size := fun x hx => by
    have h1 := h.ru
    rcases own_blk h1 with ⟨e, _⟩ | ⟨g, e⟩
    · rw [e] at hx; cases hx
    · rw [e] at hx h1
      obtain rfl := List.mem_singleton.1 hx
      exact own_lt h1
  exact {
    blk := hb
    ru := own_gr h.ru hg (fun g hx => by have := oblk_of hx; exact key _ (fun e => h.sep.au (e ▸ this)) (h.sep.uf _ this))
    rf := hf
    mp := h.mp.gr hg (key _ (Ne.symm h.sep.am) h.sep.mf)
    rn := fun i hi => (h.rn i hi).gr hg (key _ (h.sep.n1 i (by rw [h.lb]; exact hi)).1 (h.sep.n1 i (by rw [h.lb]; exact hi)).2.2.2)
    rd := fun i hi => (h.rd i hi).gr hg (key _ (h.sep.d1 i (by rw [h.lb]; exact hi)).1 (h.sep.d1 i (by rw [h.lb]; exact hi)).2.2.2)
    lb := h.lb
    ld := h.ld
    b8 := h.b8
    bn := h.bn
    fi := fi
    sep := { h.sep with
      af := nw _ h.lt h.sep.af
      mf := nw _ h.mp.lt h.sep.mf
      uf := fun g hx => nw _ (ua_lt g hx) (h.sep.uf g hx)
      n1 := fun i hi => have hi' : i < c.bs.length := hi; ⟨(h.sep.n1 i hi').1, (h.sep.n1 i hi').2.1, (h.sep.n1 i hi').2.2.1, nw _ (h.rn i (by rw [← h.lb]; exact hi')).lt (h.sep.n1 i hi').2.2.2⟩
      d1 := fun i hi => have hi' : i < c.bs.length := hi; ⟨(h.sep.d1 i hi').1, (h.sep.d1 i hi').2.1, (h.sep.d1 i hi').2.2.1, nw _ (h.rd i (by rw [← h.lb]; exact hi')).lt (h.sep.d1 i hi').2.2.2⟩ } }
theorem DA.setU (h : DA W A c k) (U : List Un) (hl : U.length = k.U.length) (hg : Gr S W W') (hS : ∀ x ∈ S, x ≠ A ∧ x ≠ c.mb ∧ x ∉ oblk c.ua ∧ x ∉ oblk c.fa)
    (hu : ∀ i, i < U.length → (gu U i).now.length = (gu k.U i).now.length ∧ (gu U i).mis = (gu k.U i).mis ∧ (gu U i).dur.length = (gu U i).now.length)
    (rn : ∀ i, i < U.length → Row W' (gb c.bs i).n (gb c.bs i).cn (gu U i).now) (rd : ∀ i, i < U.length → Row W' (gb c.bs i).d (gb c.bs i).cd (gu U i).dur) :
    DA W' A c { k with U := U } where
  blk := by
    show W'.ownsRow 0 118 6 _ 1 [.slice c.ua U.length c.uc, _, _, _, _, _]
    rw [hl]
    exact own_gr h.blk hg (fun g hx => by cases hx; exact fun e => (hS _ e).1 rfl)
  ru := by
    show W'.ownsRow 0 113 3 (.slice c.ua U.length c.uc) U.length (ck 3 U.length (uf c.bs U))
    rw [hl, ck_congr (g := uf c.bs k.U) (fun i j hi hj => by unfold uf; rw [(hu i (by omega)).1, (hu i (by omega)).2.1])]
    exact own_gr h.ru hg (fun g hx => by have := oblk_of hx; exact fun e => (hS _ e).2.2.1 this)
  rf := own_gr h.rf hg (fun g hx => by have := oblk_of hx; exact fun e => (hS _ e).2.2.2 this)
  mp := h.mp.gr hg (fun e => (hS _ e).2.1 rfl)
  rn := rn
  rd := rd
  lb := by rw [hl]; exact h.lb
  ld i hi := (hu i hi).2.2
  b8 := by rw [hl]; exact h.b8
  bn i hi := by rw [(hu i hi).1]; exact h.bn i (by rw [← hl]; exact hi)
  fi i hi := by
    have h1 := h.fi i hi
    refine ⟨by rw [hl]; exact h1.1, ?_⟩
    rw [(hu _ (by rw [hl]; exact h1.1)).1]
    exact h1.2
  sep := h.sep
theorem DA.setNow (h : DA W A c k) {d t : Nat} (hd : d < k.U.length) (ht : t < (gu k.U d).now.length) (v : Int) :
    DA (W.setCell ⟨(gb c.bs d).n, t, none⟩ (.int .u64 v)) A c { k with U := k.U.set d { gu k.U d with now := (gu k.U d).now.set t v } } := by
  have hg := set_gr W (gb c.bs d).n t (.int .u64 v)
  have hd' : d < c.bs.length := by rw [h.lb]; exact hd
  refine h.setU _ (by simp) hg (fun x hx => by obtain rfl := List.mem_singleton.1 hx; exact h.sep.n1 d hd') (fun i hi => ?_) (fun i hi => ?_) (fun i hi => ?_)
  · have hi' : i < k.U.length := by simpa using hi
    rw [gu_set]
    by_cases e : i = d
    · subst e; rw [if_pos ⟨rfl, hi'⟩]; exact ⟨by simp, rfl, by simpa using h.ld i hi'⟩
    · rw [if_neg (by omega)]; exact ⟨rfl, rfl, h.ld i hi'⟩
  · have hi' : i < k.U.length := by simpa using hi
    rw [gu_set]
    by_cases e : i = d
    · subst e; rw [if_pos ⟨rfl, hi'⟩]; exact (h.rn i hi').set t v
    · rw [if_neg (by omega)]
      exact (h.rn i hi').gr hg (fun x => (h.sep.nn i d (by rw [h.lb]; exact hi') hd' e).1 (List.mem_singleton.1 x))
  · have hi' : i < k.U.length := by simpa using hi
    have e2 : (gu (k.U.set d { gu k.U d with now := (gu k.U d).now.set t v }) i).dur = (gu k.U i).dur := by
      rw [gu_set]
      by_cases e : i = d
      · subst e; rw [if_pos ⟨rfl, hi'⟩]
      · rw [if_neg (by omega)]
    rw [e2]
    exact (h.rd i hi').gr hg (fun x => h.sep.nd d i hd' (by rw [h.lb]; exact hi') (List.mem_singleton.1 x).symm)
theorem DA.setDur (h : DA W A c k) {d t : Nat} (hd : d < k.U.length) (v : Int) :
    DA (W.setCell ⟨(gb c.bs d).d, t, none⟩ (.int .u64 v)) A c { k with U := k.U.set d { gu k.U d with dur := (gu k.U d).dur.set t v } } := by
  have hg := set_gr W (gb c.bs d).d t (.int .u64 v)
  have hd' : d < c.bs.length := by rw [h.lb]; exact hd
  refine h.setU _ (by simp) hg (fun x hx => by obtain rfl := List.mem_singleton.1 hx; exact h.sep.d1 d hd') (fun i hi => ?_) (fun i hi => ?_) (fun i hi => ?_)
  · have hi' : i < k.U.length := by simpa using hi
    rw [gu_set]
    by_cases e : i = d
    · subst e; rw [if_pos ⟨rfl, hi'⟩]; exact ⟨rfl, rfl, by simpa using h.ld i hi'⟩
    · rw [if_neg (by omega)]; exact ⟨rfl, rfl, h.ld i hi'⟩
  · have hi' : i < k.U.length := by simpa using hi
    have e2 : (gu (k.U.set d { gu k.U d with dur := (gu k.U d).dur.set t v }) i).now = (gu k.U i).now := by
      rw [gu_set]
      by_cases e : i = d
      · subst e; rw [if_pos ⟨rfl, hi'⟩]
      · rw [if_neg (by omega)]
    rw [e2]
    exact (h.rn i hi').gr hg (fun x => h.sep.nd i d (by rw [h.lb]; exact hi') hd' (List.mem_singleton.1 x))
  · have hi' : i < k.U.length := by simpa using hi
    rw [gu_set]
    by_cases e : i = d
    · subst e; rw [if_pos ⟨rfl, hi'⟩]; exact (h.rd i hi').set t v
    · rw [if_neg (by omega)]
      exact (h.rd i hi').gr hg (fun x => (h.sep.nn i d (by rw [h.lb]; exact hi') hd' e).2 (List.mem_singleton.1 x))
theorem DA.setMis (h : DA W A c k) {d ub : Nat} (hd : d < k.U.length) (hub : c.ua = some ⟨ub, 0, none⟩) (b : Bool) :
    DA (W.setCell ⟨ub, d * 3 + 2, none⟩ (.bool b)) A c { k with U := k.U.set d { gu k.U d with mis := b } } := by
  have hg := set_gr W ub (d * 3 + 2) (.bool b)
  have ho : oblk c.ua = [ub] := by rw [hub]; rfl
  have hnx : ∀ x, x ∉ oblk c.ua → x ∉ [ub] := fun x hx => by rw [ho] at hx; exact hx
  have e1 : ∀ i, (gu (k.U.set d { gu k.U d with mis := b }) i).now = (gu k.U i).now ∧ (gu (k.U.set d { gu k.U d with mis := b }) i).dur = (gu k.U i).dur := fun i => by
    rw [gu_set]
    split
    · rename_i e; rw [e.1]; exact ⟨rfl, rfl⟩
    · exact ⟨rfl, rfl⟩
  have hru := h.ru
  rw [hub] at hru
  have h2 := (World.ownsRow.stored hru (d * 3 + 2) (.bool b)).1
  rw [ck_set _ (by omega)] at h2
  exact {
    blk := by
      show World.ownsRow _ 0 118 6 _ 1 [.slice c.ua (k.U.set d _).length c.uc, _, _, _, _, _]
      rw [List.length_set]
      exact own_gr h.blk hg (fun g hx => by cases hx; exact hnx _ h.sep.au)
    ru := by
      show World.ownsRow _ 0 113 3 (.slice c.ua (k.U.set d _).length c.uc) (k.U.set d _).length (ck 3 (k.U.set d _).length (uf c.bs (k.U.set d _)))
      rw [List.length_set, hub]
      rw [ck_congr (g := fun a b' => if a = d ∧ b' = 2 then .bool b else uf c.bs k.U a b') (fun i j hi hj => ?_)]
      · exact h2
      · unfold uf
        rw [(e1 i).1]
        by_cases e : i = d ∧ j = 2
        · obtain ⟨rfl, rfl⟩ := e
          rw [gu_set]
          simp [hi]
        · rw [if_neg e]
          by_cases e0 : j = 0
          · simp [e0]
          · by_cases e3 : j = 1
            · simp [e3]
            · rw [if_neg e0, if_neg e3, if_neg e0, if_neg e3, gu_set, if_neg (by omega)]
    rf := own_gr h.rf hg (fun g hx => by have := oblk_of hx; rw [List.mem_singleton]; rintro rfl; exact h.sep.uf g (by rw [ho]; simp) this)
    mp := h.mp.gr hg (hnx _ h.sep.mu)
    rn := fun i hi => by rw [(e1 i).1]; exact (h.rn i (by simpa using hi)).gr hg (hnx _ (h.sep.n1 i (by rw [h.lb]; simpa using hi)).2.2.1)
    rd := fun i hi => by rw [(e1 i).2]; exact (h.rd i (by simpa using hi)).gr hg (hnx _ (h.sep.d1 i (by rw [h.lb]; simpa using hi)).2.2.1)
    lb := by simpa using h.lb
    ld := fun i hi => by rw [(e1 i).1, (e1 i).2]; exact h.ld i (by simpa using hi)
    b8 := by simpa using h.b8
    bn := fun i hi => by rw [(e1 i).1]; exact h.bn i (by simpa using hi)
    fi := fun i hi => by rw [(e1 _).1]; simpa using h.fi i hi
    sep := h.sep }
theorem DA.setB (h : DA W A c k) (hg : Gr [c.mb] W W') (mn : Nat) (bad : Int → Int → Bool) (hm : BM W' c.mb mn bad) : DA W' A { c with mn := mn } { k with bad := bad } where
  blk := own_gr h.blk hg (fun g hx => by cases hx; rw [List.mem_singleton]; exact h.sep.am)
  ru := own_gr h.ru hg (fun g hx => by have := oblk_of hx; rw [List.mem_singleton]; rintro rfl; exact h.sep.mu this)
  rf := own_gr h.rf hg (fun g hx => by have := oblk_of hx; rw [List.mem_singleton]; rintro rfl; exact h.sep.mf this)
  mp := hm
  rn i hi := (h.rn i hi).gr hg (by rw [List.mem_singleton]; exact (h.sep.n1 i (by rw [h.lb]; exact hi)).2.1)
  rd i hi := (h.rd i hi).gr hg (by rw [List.mem_singleton]; exact (h.sep.d1 i (by rw [h.lb]; exact hi)).2.1)
  lb := h.lb
  ld := h.ld
  b8 := h.b8
  bn := h.bn
  fi := h.fi
  sep := ⟨h.sep.am, h.sep.au, h.sep.af, h.sep.mu, h.sep.mf, h.sep.uf, h.sep.n1, h.sep.d1, h.sep.nd, h.sep.nn⟩
end
end Go.Proofs.Ytbgbjgedjmhcaaa.OldD
namespace Go.Proofs.Ytbgbjgedjmhcaaa.OldD
open Go.ChangeShapes Go.WideShapes Go.ChangeAt Go.RowKit
attribute [local go_sem] Oper.semAt_some putAll
def rdV (k : Dk) (d t : Int) : Int := if chk4 k d t = 0 then ge (gu k.U d.toNat).now t.toNat else 0
theorem chk4_ok {k : Dk} {d t : Int} (h : chk4 k d t = 0) : k.down = false ∧ hs k d t = true ∧ (gu k.U d.toNat).mis = false ∧ k.bad d t = false := by
  unfold chk4 at h
  cases h1 : k.down <;> cases h2 : hs k d t <;> cases h3 : (gu k.U d.toNat).mis <;> cases h4 : k.bad d t <;> simp_all
theorem chk3_ok {k : Dk} {d t : Int} (h : chk3 k d t = 0) : k.down = false ∧ hs k d t = true ∧ (gu k.U d.toNat).mis = false := by
  unfold chk3 at h
  cases h1 : k.down <;> cases h2 : hs k d t <;> cases h3 : (gu k.U d.toNat).mis <;> simp_all
theorem first4_at {W : World} {A : Nat} {c : Co} {k : Dk} (h : DA W A c k) (d t : Int) :
    Calls Try.prog 156 #[.agg #[.int .i64 d, .int .i64 t], .slice (some ⟨W.heap.size + 1, 0, none⟩) 4 4] ((W.alloc (.cells #[.int .i64 d, .int .i64 t] 120)).alloc (.cells #[.func (.func 157) #[.pointer (some ⟨A, 0, none⟩)] #[], .func (.func 158) #[.pointer (some ⟨A, 0, none⟩)] #[], .func (.func 159) #[.pointer (some ⟨A, 0, none⟩)] #[], .func (.func 161) #[.pointer (some ⟨A, 0, none⟩)] #[]] 226)) fun e w' => e = .returned (.int .i64 (chk4 k d t)) ∧ Hid (Below W.heap.size W w' ∧ w'.cell? ⟨W.heap.size, 0, none⟩ = some (.int .i64 d) ∧ w'.cell? ⟨W.heap.size, 1, none⟩ = some (.int .i64 t) ∧ W.heap.size < w'.heap.size) := by
  obtain ⟨W1, hW1⟩ : ∃ W1, W1 = (W.alloc (.cells #[.int .i64 d, .int .i64 t] 120)).alloc (.cells #[.func (.func 157) #[.pointer (some ⟨A, 0, none⟩)] #[], .func (.func 158) #[.pointer (some ⟨A, 0, none⟩)] #[], .func (.func 159) #[.pointer (some ⟨A, 0, none⟩)] #[], .func (.func 161) #[.pointer (some ⟨A, 0, none⟩)] #[]] 226) := ⟨_, rfl⟩
  rw [← hW1]
  have hb : Below W.heap.size W W1 := by rw [hW1]; exact ((Below.refl _ _).alloc (Nat.le_refl _) _).alloc (by simp) _
  have hsz : W1.heap.size = W.heap.size + 1 + 1 := by rw [hW1]; simp
  have c1 : W1.cell? ⟨W.heap.size, 0, none⟩ = some (.int .i64 d) := by rw [hW1]; go_simp
  have c2 : W1.cell? ⟨W.heap.size, 1, none⟩ = some (.int .i64 t) := by rw [hW1]; go_simp
  refine (first4_ok (h.below hb) d t (W.heap.size + 1) (by omega) (fun j hj => ?_)).mono ?_
  · rw [hW1]
    obtain rfl | rfl | rfl | rfl : j = 0 ∨ j = 1 ∨ j = 2 ∨ j = 3 := by omega
    · go_simp; rfl
    · go_simp; rfl
    · go_simp; rfl
    · go_simp; rfl
  · rintro e w' ⟨rfl, hb'⟩
    exact ⟨rfl, hid ⟨bt hb hb', (hb'.cell (p := ⟨W.heap.size, 0, none⟩) (by show W.heap.size < _; omega)).trans c1, (hb'.cell (p := ⟨W.heap.size, 1, none⟩) (by show W.heap.size < _; omega)).trans c2, by have := hb'.size; omega⟩⟩
theorem first3_at {W : World} {A : Nat} {c : Co} {k : Dk} (h : DA W A c k) (d t : Int) :
    Calls Try.prog 156 #[.agg #[.int .i64 d, .int .i64 t], .slice (some ⟨W.heap.size + 1, 0, none⟩) 3 3] ((W.alloc (.cells #[.int .i64 d, .int .i64 t] 120)).alloc (.cells #[.func (.func 157) #[.pointer (some ⟨A, 0, none⟩)] #[], .func (.func 158) #[.pointer (some ⟨A, 0, none⟩)] #[], .func (.func 159) #[.pointer (some ⟨A, 0, none⟩)] #[]] 226)) fun e w' => e = .returned (.int .i64 (chk3 k d t)) ∧ Hid (Below W.heap.size W w' ∧ w'.cell? ⟨W.heap.size, 0, none⟩ = some (.int .i64 d) ∧ w'.cell? ⟨W.heap.size, 1, none⟩ = some (.int .i64 t) ∧ W.heap.size < w'.heap.size) := by
  obtain ⟨W1, hW1⟩ : ∃ W1, W1 = (W.alloc (.cells #[.int .i64 d, .int .i64 t] 120)).alloc (.cells #[.func (.func 157) #[.pointer (some ⟨A, 0, none⟩)] #[], .func (.func 158) #[.pointer (some ⟨A, 0, none⟩)] #[], .func (.func 159) #[.pointer (some ⟨A, 0, none⟩)] #[]] 226) := ⟨_, rfl⟩
  rw [← hW1]
  have hb : Below W.heap.size W W1 := by rw [hW1]; exact ((Below.refl _ _).alloc (Nat.le_refl _) _).alloc (by simp) _
  have hsz : W1.heap.size = W.heap.size + 1 + 1 := by rw [hW1]; simp
  have c1 : W1.cell? ⟨W.heap.size, 0, none⟩ = some (.int .i64 d) := by rw [hW1]; go_simp
  have c2 : W1.cell? ⟨W.heap.size, 1, none⟩ = some (.int .i64 t) := by rw [hW1]; go_simp
  refine (first3_ok (h.below hb) d t (W.heap.size + 1) (by omega) (fun j hj => ?_)).mono ?_
  · rw [hW1]
    obtain rfl | rfl | rfl : j = 0 ∨ j = 1 ∨ j = 2 := by omega
    · go_simp; rfl
    · go_simp; rfl
    · go_simp; rfl
  · rintro e w' ⟨rfl, hb'⟩
    exact ⟨rfl, hid ⟨bt hb hb', (hb'.cell (p := ⟨W.heap.size, 0, none⟩) (by show W.heap.size < _; omega)).trans c1, (hb'.cell (p := ⟨W.heap.size, 1, none⟩) (by show W.heap.size < _; omega)).trans c2, by have := hb'.size; omega⟩⟩
theorem first3_in {W : World} {A : Nat} {c : Co} {k : Dk} (h : DA W A c k) (d t : Int) :
    Calls Try.prog 156 #[.agg #[.int .i64 d, .int .i64 t], .slice (some ⟨W.heap.size, 0, none⟩) 3 3] (W.alloc (.cells #[.func (.func 157) #[.pointer (some ⟨A, 0, none⟩)] #[], .func (.func 158) #[.pointer (some ⟨A, 0, none⟩)] #[], .func (.func 159) #[.pointer (some ⟨A, 0, none⟩)] #[]] 226)) fun e w' => e = .returned (.int .i64 (chk3 k d t)) ∧ Hid (Below W.heap.size W w') := by
  obtain ⟨W1, hW1⟩ : ∃ W1, W1 = W.alloc (.cells #[.func (.func 157) #[.pointer (some ⟨A, 0, none⟩)] #[], .func (.func 158) #[.pointer (some ⟨A, 0, none⟩)] #[], .func (.func 159) #[.pointer (some ⟨A, 0, none⟩)] #[]] 226) := ⟨_, rfl⟩
  rw [← hW1]
  have hb : Below W.heap.size W W1 := by rw [hW1]; exact (Below.refl _ _).alloc (Nat.le_refl _) _
  have hsz : W1.heap.size = W.heap.size + 1 := by rw [hW1]; simp
  refine (first3_ok (h.below hb) d t (W.heap.size) (by omega) (fun j hj => ?_)).mono ?_
  · rw [hW1]
    obtain rfl | rfl | rfl : j = 0 ∨ j = 1 ∨ j = 2 := by omega
    · go_simp; rfl
    · go_simp; rfl
    · go_simp; rfl
  · rintro e w' ⟨rfl, hb'⟩
    exact ⟨rfl, hid (bt hb hb')⟩
set_option maxRecDepth 100000 in
theorem read_ok {W : World} {A : Nat} {c : Co} {k : Dk} (h : DA W A c k) (d t : Int) :
    Calls Try.prog 154 #[.pointer (some ⟨A, 0, none⟩), .int .i64 d, .int .i64 t] W fun e W' => e = .returned (.tuple #[.int .u64 (rdV k d t), .int .i64 (chk4 k d t)]) ∧ Below W.heap.size W W' := by
  have H := hid h
  clear h
  have HR := hid (show rdV k d t = if chk4 k d t = 0 then ge (gu k.U d.toNat).now t.toNat else 0 from rfl)
  have HF := hid (first4_at H.out d t)
  by_cases hz : chk4 k d t = 0
  · rw [if_pos hz] at HR
    obtain ⟨k1, k2, k3, k4⟩ := chk4_ok hz
    obtain ⟨n, m, rfl, rfl, hn, hm⟩ := hs_iff.1 k2
    rw [hz] at HF ⊢
    rw [show ((n : Int)).toNat = n from rfl, show ((m : Int)).toNat = m from rfl] at HR
    generalize rdV k (n : Int) (m : Int) = r at *
    have hb8 := H.out.b8
    have hbn := H.out.bn n hn
    clear k1 k2 k3 k4 hz
    go_enter Try.func154, Try.ntmps154
    go_wp2_with fail
    refine HF.out.mono ?_
    rintro e w1 ⟨rfl, HB⟩
    have H1 := H.out.below HB.out.1
    have c0 := H1.c0
    obtain ⟨ub, hub, hul, c1, -, -, -⟩ := H1.unit hn
    rw [hub] at c0
    have c2 := (H1.rn n hn).at m hm
    have HB1 := hid HB.out.1
    clear H1 hub HF
    rw [← HR.out] at c2
    go_wp2_with fail
    go_ret2
    exact ⟨rfl, HB1.out⟩
  · rw [if_neg hz] at HR
    rw [HR.out]
    have hzb : (chk4 k d t != 0) = true := by simpa using hz
    generalize chk4 k d t = x at *
    go_enter Try.func154, Try.ntmps154
    go_wp2_with fail
    refine HF.out.mono ?_
    rintro e w1 ⟨rfl, HB⟩
    have HB1 := hid HB.out.1
    go_wp2_with fail
    go_ret2
    exact ⟨rfl, HB1.out⟩
theorem BM.put {W : World} {b n : Nat} {bad : Int → Int → Bool} (h : BM W b n bad) (hn : n < 2 ^ 40) {d t : Int} (hd : (Lit.int .i64 d).wf = true) (ht : (Lit.int .i64 t).wf = true) :
    ∃ W', (Instr.mapUpdate 115 (.map (some b)) (.agg #[.int .i64 d, .int .i64 t]) (.agg #[])).run Try.prog W = .ok () W' ∧ BM W' b (n + 1) (fun x y => if x = d ∧ y = t then true else bad x y) ∧ Gr [b] W W' := by
  obtain ⟨D, h1, h2⟩ := h
  obtain ⟨W', hrun, h3, h4⟩ := h1.store law Try.underlying115 (by unfold maxLen; omega) (key_pk d t hd ht) unitElem_mk
  refine ⟨W', hrun, ⟨_, h3, fun x y hx hy => ?_⟩, Gr.of_grown h4.grown (fun g hg => by cases hg; simp)⟩
  show Go.Maps.has _ _ = if x = d ∧ y = t then true else bad x y
  by_cases e : x = d ∧ y = t
  · obtain ⟨rfl, rfl⟩ := e
    rw [if_pos ⟨rfl, rfl⟩]
    exact Go.Maps.has_put_same h1.isMap (law.key (key_pk x y hx hy)) _
  · rw [if_neg e, ← h2 x y hx hy]
    exact Go.Maps.has_put_other (fun he => e (pk_inj hx hy hd ht he)) _
theorem BM.del {W : World} {b n : Nat} {bad : Int → Int → Bool} (h : BM W b n bad) {d t : Int} (hd : (Lit.int .i64 d).wf = true) (ht : (Lit.int .i64 t).wf = true) (ty : TypeId) :
    ∃ W', (Builtin.delete_ #[115, 120] ty #[.map (some b), .agg #[.int .i64 d, .int .i64 t]]).run Try.prog W = .ok (.tuple #[]) W' ∧ BM W' b n (fun x y => if x = d ∧ y = t then false else bad x y) ∧ Gr [b] W W' := by
  obtain ⟨D, h1, h2⟩ := h
  obtain ⟨W', hrun, h3, h4⟩ := h1.drop law Try.underlying115 (key_pk d t hd ht) ty
  refine ⟨W', hrun, ⟨_, h3, fun x y hx hy => ?_⟩, Gr.of_grown h4.grown (fun g hg => by cases hg; simp)⟩
  show Go.Maps.has _ _ = if x = d ∧ y = t then false else bad x y
  by_cases e : x = d ∧ y = t
  · obtain ⟨rfl, rfl⟩ := e
    rw [if_pos ⟨rfl, rfl⟩]
    exact Go.Maps.has_del_same
  · rw [if_neg e, ← h2 x y hx hy]
    exact Go.Maps.has_del_other (fun he => e (pk_inj hx hy hd ht he))
theorem DA.fp_lt {W : World} {A : Nat} {c : Co} {k : Dk} (h : DA W A c k) : ∀ x ∈ fp A c, x < W.heap.size := by
  intro x hx
  rcases fp_cases hx with rfl | rfl | hx | hx | ⟨i, hi, rfl | rfl⟩
  · exact h.lt
  · exact h.mp.lt
  · have h1 := h.ru
    rcases own_blk h1 with ⟨e, _⟩ | ⟨g, e⟩
    · rw [e] at hx; cases hx
    · rw [e] at hx h1; obtain rfl := List.mem_singleton.1 hx; exact own_lt h1
  · have h1 := h.rf
    rcases own_blk h1 with ⟨e, _⟩ | ⟨g, e⟩
    · rw [e] at hx; cases hx
    · rw [e] at hx h1; obtain rfl := List.mem_singleton.1 hx; exact own_lt h1
  · exact (h.rn i (by rw [← h.lb]; exact hi)).lt
  · exact (h.rd i (by rw [← h.lb]; exact hi)).lt
end Go.Proofs.Ytbgbjgedjmhcaaa.OldD
namespace Go.Proofs.Ytbgbjgedjmhcaaa.OldD
open Go.ChangeShapes Go.WideShapes Go.ChangeAt Go.RowKit
attribute [local go_sem] Oper.semAt_some putAll
theorem Try.info122 : (Try.prog.info? 122).map (fun i => (i.zero, i.size, i.bytes)) = some (some (.agg #[.int .i64 0, .int .i64 0, .int .u64 0]), 3, 24) := by kernel_rfl
def wrote (k : Dk) (n m : Nat) (v : Int) : Dk := { k with U := k.U.set n { gu k.U n with now := (gu k.U n).now.set m v }, bad := fun x y => if x = (n : Int) ∧ y = (m : Int) then false else k.bad x y, F := k.F ++ [⟨n, m, v⟩], wr := k.wr + 1 }
def wrE (k : Dk) (d t : Int) : Int := if chk3 k d t = 0 then (if k.fuse = 1 then 5 else 0) else chk3 k d t
def wrK (k : Dk) (d t : Int) (v : Int) : Dk := if chk3 k d t = 0 then (if k.fuse = 1 then { k with fuse := 0, down := true } else wrote { k with fuse := if 0 < k.fuse then k.fuse - 1 else k.fuse } d.toNat t.toNat v) else k
theorem ff_app (F : List Wr) (x : Wr) : ck 3 F.length (ff F) ++ [.int .i64 (x.d : Int), .int .i64 (x.at' : Int), .int .u64 x.v] = ck 3 (F ++ [x]).length (ff (F ++ [x])) := by
  have e : [Value.int .i64 (x.d : Int), .int .i64 (x.at' : Int), .int .u64 x.v] = ck 3 1 (fun _ j => if j = 0 then .int .i64 (x.d : Int) else if j = 1 then .int .i64 (x.at' : Int) else .int .u64 x.v) := by
    simp [ck, List.range_succ]
  rw [e, ck_app, List.length_append]
  refine ck_congr fun i j hi hj => ?_
  have hi : i < F.length + 1 := hi
  unfold ff gf
  by_cases h : i < F.length
  · rw [if_pos h, List.getElem?_append_left h]
  · rw [if_neg h, List.getElem?_append_right (by omega), show i - F.length = 0 by omega]
    rfl
def Fresh (W : World) (A : Nat) (c c' : Co) : Prop := ∀ x ∈ fp A c', x ∈ fp A c ∨ W.heap.size ≤ x
theorem Fresh.refl (W : World) (A : Nat) (c : Co) : Fresh W A c c := fun x hx => .inl hx
theorem Fresh.setF {W : World} {A : Nat} {c : Co} {fa : Option Addr} {fc : Nat} (hn : ∀ g ∈ oblk fa, g ∈ oblk c.fa ∨ W.heap.size ≤ g) : Fresh W A c { c with fa := fa, fc := fc } := by
  intro x hx
  unfold fp at hx ⊢
  simp only [List.mem_cons, List.mem_append] at hx ⊢
  rcases hx with h | h | h | h | h
  · exact .inl (.inl h)
  · exact .inl (.inr (.inl h))
  · exact .inl (.inr (.inr (.inl h)))
  · rcases hn x h with h | h
    · exact .inl (.inr (.inr (.inr (.inl h))))
    · exact .inr h
  · exact .inl (.inr (.inr (.inr (.inr h))))
theorem DA.app {W : World} {A : Nat} {c : Co} {k : Dk} (h : DA W A c k) (n m : Nat) (v : Int) (hn : n < k.U.length) (hm : m < (gu k.U n).now.length) (hF : k.F.length ≤ 2 ^ 32) (W1 : World) (hW1 : W1 = W.alloc (.cells #[.int .i64 (n : Int), .int .i64 (m : Int), .int .u64 v] 122)) (ty : TypeId) :
    ∃ g fc W2, (Builtin.append_ #[116, 116] ty #[.slice c.fa k.F.length c.fc, .slice (some ⟨W.heap.size, 0, none⟩) 1 1]).run Try.prog W1 = .ok (.slice (some ⟨g, 0, none⟩) (k.F.length + 1) fc) W2 ∧
      W2.cell? ⟨A, 2, none⟩ = some (.slice c.fa k.F.length c.fc) ∧ W2.frozen? ⟨A, 2, none⟩ = false ∧
      DA (W2.setCell ⟨A, 2, none⟩ (.slice (some ⟨g, 0, none⟩) (k.F.length + 1) fc)) A { c with fa := some ⟨g, 0, none⟩, fc := fc } { k with F := k.F ++ [⟨n, m, v⟩] } ∧
      Gr (A :: oblk c.fa) W (W2.setCell ⟨A, 2, none⟩ (.slice (some ⟨g, 0, none⟩) (k.F.length + 1) fc)) ∧ (∀ x ∈ oblk (some ⟨g, 0, none⟩), x ∈ oblk c.fa ∨ W.heap.size ≤ x) ∧ W.heap.size < W2.heap.size := by
  obtain ⟨i0, hi, hz0, hz1, hz2⟩ := info_parts Try.info122
  have hb1 : Below W.heap.size W W1 := by rw [hW1]; exact (Below.refl _ _).alloc (Nat.le_refl _) _
  have h1 := h.below hb1
  have n1 := World.news_of_block (w := W1) (cs := #[.int .i64 (n : Int), .int .i64 (m : Int), .int .u64 v]) (t := 122) (fr := (0, 0)) (B := W.heap.size) (by rw [hW1]; exact heap_alloc_new _ _)
  obtain ⟨g, fc, W2, hrun, r2, g2, hlie, hlt⟩ := run_append_lies (P := Try.prog) (w := W1) 116 ty 0 122 i0 (.agg #[.int .i64 0, .int .i64 0, .int .u64 0]) 3 24 Try.underlying116 hi hz0 hz1 hz2 rfl (by decide) (.slice c.fa k.F.length c.fc) k.F.length (ck 3 k.F.length (ff k.F)) h1.rf ⟨W.heap.size, 0, none⟩ 1 1 [.int .i64 (n : Int), .int .i64 (m : Int), .int .u64 v] rfl n1 (by simp [Value.oneCell']) (by omega) (by unfold maxLen; omega) (by omega) (by omega) _ rfl
  have hsz : W1.heap.size = W.heap.size + 1 := by rw [hW1]; simp
  have hG1 : Gr (A :: oblk c.fa) W W2 := (Gr.of_below hb1 _).trans (Gr.of_grown g2 (fun x hx => List.mem_cons_of_mem _ (oblk_of hx)))
  have hA : W2.ownsRow 0 118 6 (.slice (some ⟨A, 0, none⟩) 1 1) 1 [.slice c.ua k.U.length c.uc, .map (some c.mb), .slice c.fa k.F.length c.fc, .int .i64 k.fuse, .bool k.down, .int .i64 k.wr] :=
    World.ownsRow.kept h1.blk g2 (.inr (by intro e; exact h.sep.af (oblk_of e.symm)))
  have hgA : g ≠ A := by
    rcases hlie with e | e
    · have := oblk_of e; intro e2; rw [e2] at this; exact h.sep.af this
    · have := h.lt; omega
  have hnew : ∀ x ∈ oblk (some (⟨g, 0, none⟩ : Addr)), x ∈ oblk c.fa ∨ W.heap.size ≤ x := by
    intro x hx
    have hx2 : x = g := List.mem_singleton.1 hx
    rw [hx2]
    rcases hlie with e | e
    · exact .inl (oblk_of e)
    · right; omega
  refine ⟨g, fc, W2, hrun, World.ownsRow.cellAt hA 2 (by omega), World.ownsRow.frozenAt hA 2, ?_, hG1.trans ((set_gr W2 A 2 _).mono (fun x hx => by obtain rfl := List.mem_singleton.1 hx; exact List.mem_cons_self ..)), hnew, by have := g2.size; omega⟩
  have hlen : (k.F ++ [(⟨n, m, v⟩ : Wr)]).length = k.F.length + 1 := by simp
  refine h.setF (some ⟨g, 0, none⟩) fc (k.F ++ [⟨n, m, v⟩]) (hG1.trans ((set_gr W2 A 2 _).mono (fun x hx => by obtain rfl := List.mem_singleton.1 hx; exact List.mem_cons_self ..))) ?_ ?_ hnew (fun i hi => ?_)
  · rw [hlen]
    exact (World.ownsRow.stored hA 2 _).1
  · rw [← ff_app k.F ⟨n, m, v⟩, hlen]
    exact own_gr r2 (set_gr W2 A 2 _) (fun x hx => by cases hx; rw [List.mem_singleton]; exact hgA)
  · rw [hlen] at hi
    by_cases h2 : i < k.F.length
    · have e : gf (k.F ++ [⟨n, m, v⟩]) i = gf k.F i := by unfold gf; rw [List.getElem?_append_left h2]
      rw [e]; exact h.fi i h2
    · have e : gf (k.F ++ [⟨n, m, v⟩]) i = ⟨n, m, v⟩ := by unfold gf; rw [List.getElem?_append_right (by omega), show i - k.F.length = 0 by omega]; rfl
      rw [e]; exact ⟨hn, hm⟩
theorem box_kept {W W' : World} {S : List Nat} {p : Nat} {x : Value} {j : Nat} (hc : W.cell? ⟨p, j, none⟩ = some x) (hl : p < W.heap.size) (hg : Gr S W W') (hn : p ∉ S) : W'.cell? ⟨p, j, none⟩ = some x :=
  (hg.cell (p := ⟨p, j, none⟩) hl hn).trans hc
set_option maxRecDepth 100000 in
theorem write_ok {W : World} {A : Nat} {c : Co} {k : Dk} (h : DA W A c k) (d t v : Int) (hfu : 0 ≤ k.fuse) (hfu2 : k.fuse ≤ 9223372036854775807) (hF : k.F.length ≤ 2 ^ 32) (hwr0 : 0 ≤ k.wr) (hwr1 : k.wr ≤ 2 ^ 32) :
    Calls Try.prog 155 #[.pointer (some ⟨A, 0, none⟩), .int .i64 d, .int .i64 t, .int .u64 v] W fun e W' => e = .returned (.int .i64 (wrE k d t)) ∧ Hid (∃ c', DA W' A c' (wrK k d t v) ∧ Gr (fp A c) W W' ∧ Fresh W A c c' ∧ c'.mn = c.mn) := by
  have H := hid h
  have HLt := hid h.fp_lt
  clear h
  have HF := hid (first3_at H.out d t)
  have hmx : Try.prog.follows .mixedOrders = true := by kernel_rfl
  have HE0 := hid (show wrE k d t = if chk3 k d t = 0 then (if k.fuse = 1 then 5 else 0) else chk3 k d t from rfl)
  have HK0 := hid (show wrK k d t v = if chk3 k d t = 0 then (if k.fuse = 1 then { k with fuse := 0, down := true } else wrote { k with fuse := if 0 < k.fuse then k.fuse - 1 else k.fuse } d.toNat t.toNat v) else k from rfl)
  by_cases hz : chk3 k d t = 0
  · rw [if_pos hz] at HE0 HK0
    obtain ⟨k1, k2, k3⟩ := chk3_ok hz
    obtain ⟨n, m, rfl, rfl, hn, hm⟩ := hs_iff.1 k2
    rw [hz] at HF
    rw [show ((n : Int)).toNat = n from rfl, show ((m : Int)).toNat = m from rfl] at HK0
    have hb8 := H.out.b8
    have hbn := H.out.bn n hn
    have HW := hid (show (Lit.int .i64 (n : Int)).wf = true ∧ (Lit.int .i64 (m : Int)).wf = true from ⟨wf_nat _ (by omega), wf_nat _ (by omega)⟩)
    have HN := hid (show n < k.U.length ∧ m < (gu k.U n).now.length from ⟨hn, hm⟩)
    have HLF := hid hF
    have HWR := hid (show 0 ≤ k.wr ∧ k.wr ≤ 2 ^ 32 from ⟨hwr0, hwr1⟩)
    clear k1 k2 k3 hz hn hm hb8 hbn hF hwr0 hwr1
    go_enter Try.func155, Try.ntmps155
    go_wp2_with fail
    refine HF.out.mono ?_
    rintro e w1 ⟨rfl, HB⟩
    have H1 := hid (H.out.below HB.out.1)
    have HGW := hid (Gr.of_below HB.out.1 (fp A c))
    have HD := hid HB.out.2.1
    have HT := hid HB.out.2.2.1
    have HBL := hid HB.out.2.2.2
    have HNF := hid (show W.heap.size ∉ fp A c from fun hx => Nat.lt_irrefl _ (HLt.out _ hx))
    clear HF HB
    have q3 := H1.out.c3
    by_cases h1 : 0 < k.fuse
    · by_cases h2 : k.fuse = 1
      · rw [if_pos h2] at HE0 HK0
        rw [h2] at q3
        have g3 := H1.out.fz 3
        have g4 := H1.out.fz 4
        have q4 := H1.out.c4
        have HS := hid (H1.out.setA (set_gr w1 A 3 (.int .i64 0)) 0 k.down k.wr (World.ownsRow.stored H1.out.blk 3 (.int .i64 0)).1)
        have HS2 := hid (HS.out.setA (set_gr _ A 4 (.bool true)) 0 true k.wr (World.ownsRow.stored HS.out.blk 4 (.bool true)).1)
        have HG2 := hid (HGW.out.trans (((set_gr w1 A 3 (.int .i64 0)).trans (set_gr _ A 4 (.bool true))).mono (T := fp A c) (fun x hx => by obtain rfl := List.mem_singleton.1 hx; exact fp_A)))
        clear HS h1 h2
        go_wp2_with fail
        go_ret
        exact ⟨by rw [HE0.out]; rfl, hid ⟨c, HK0.out ▸ HS2.out, HG2.out, Fresh.refl _ _ _, rfl⟩⟩
      · rw [if_neg h2, if_pos h1] at HK0
        rw [if_neg h2] at HE0
        have hfb : (k.fuse - 1 == 0) = false := by simp; omega
        have g3 := H1.out.fz 3
        have HS := hid (H1.out.setA (set_gr w1 A 3 (.int .i64 (k.fuse - 1))) (k.fuse - 1) k.down k.wr (World.ownsRow.stored H1.out.blk 3 (.int .i64 (k.fuse - 1))).1)
        have G2 := (set_gr w1 A 3 (.int .i64 (k.fuse - 1))).mono (T := fp A c) (fun x hx => by obtain rfl := List.mem_singleton.1 hx; exact fp_A)
        have HD' := hid (box_kept HD.out HBL.out G2 HNF.out)
        have HT' := hid (box_kept HT.out HBL.out G2 HNF.out)
        have HGW' := hid (HGW.out.trans G2)
        have HBL' := hid (Nat.lt_of_lt_of_le HBL.out G2.size)
        clear HD HT HGW HBL G2 H1
        go_upto_region 10 with (fail)
        clear q3 g3
        generalize w1.setCell ⟨A, 3, none⟩ (.int .i64 (k.fuse - 1)) = w2 at *
        obtain ⟨k2, hk2⟩ : ∃ k2 : Dk, k2 = { k with fuse := k.fuse - 1 } := ⟨_, rfl⟩
        have H2 := hid (show DA w2 A c k2 by rw [hk2]; exact HS.out)
        have HD := HD'; have HT := HT'; have HGW := HGW'; have HBL := HBL'
        have HN : Hid (n < k2.U.length ∧ m < (gu k2.U n).now.length) := by rw [hk2]; exact HN
        have HLF : Hid (k2.F.length ≤ 2 ^ 32) := by rw [hk2]; exact HLF
        have HWR : Hid (0 ≤ k2.wr ∧ k2.wr ≤ 2 ^ 32) := by rw [hk2]; exact HWR
        have HK := hid (show wrote k2 n m v = wrK k (n : Int) (m : Int) v by rw [hk2]; exact HK0.out.symm)
        have HE := hid (show Ending.returned (.int .i64 0) = Ending.returned (.int .i64 (wrE k (n : Int) (m : Int))) by rw [HE0.out])
        clear hk2 HS HD' HT' HGW' HBL' HE0 HK0 h1 h2 hfb hfu hfu2
        have hn2 : n < k2.U.length := HN.out.1
        have hm2 : m < (gu k2.U n).now.length := HN.out.2
        have hb8 := H2.out.b8
        have hbn := H2.out.bn n hn2
        have c0 := H2.out.c0
        obtain ⟨ub, hub, hul, c1, -, -, -⟩ := H2.out.unit hn2
        rw [hub] at c0
        have c2 := (H2.out.rn n hn2).at m hm2
        have f2 := (H2.out.rn n hn2).frozen m
        have H3 := hid (H2.out.setNow hn2 hm2 v)
        have hfn : (gb c.bs n).n ∈ fp A c := fp_n (by rw [H2.out.lb]; exact hn2)
        have G3 := (set_gr w2 (gb c.bs n).n m (.int .u64 v)).mono (T := fp A c) (fun x hx => by obtain rfl := List.mem_singleton.1 hx; exact hfn)
        have HD3 := hid (box_kept HD.out HBL.out G3 HNF.out)
        have HT3 := hid (box_kept HT.out HBL.out G3 HNF.out)
        have HG3 := hid (HGW.out.trans G3)
        have HBL3 := hid (Nat.lt_of_lt_of_le HBL.out G3.size)
        clear hub hfn G3 hbn
        go_wp2_with fail
        clear c0 c1 c2 f2
        generalize w2.setCell ⟨(gb c.bs n).n, m, none⟩ (.int .u64 v) = w3 at *
        obtain ⟨V0, hV0⟩ : ∃ V0, V0 = w3.drew := ⟨_, rfl⟩
        have H4 := H3.out.below (W' := V0) (by rw [hV0]; exact (Below.refl _ _).drew)
        have HV0 := hid hV0
        have c1 := hid H4.c1
        have d0 := hid (show V0.cell? ⟨W.heap.size, 0, none⟩ = some (.int .i64 (n : Int)) by rw [hV0]; exact HD3.out)
        have d1 := hid (show V0.cell? ⟨W.heap.size, 1, none⟩ = some (.int .i64 (m : Int)) by rw [hV0]; exact HT3.out)
        have hgV : Gr (fp A c) W V0 := by rw [hV0]; exact HG3.out.trans (Gr.of_below (Below.refl _ _).drew _)
        have hlV : W.heap.size < V0.heap.size := by rw [hV0]; exact HBL3.out
        obtain ⟨V1, hrun, hbm, hg1⟩ := H4.mp.del HW.out.1 HW.out.2 0
        have H5 := hid (H4.setB hg1 c.mn _ hbm)
        have hmf : c.mb ∈ fp A c := fp_m
        have G5 := hg1.mono (T := fp A c) (fun x hx => by obtain rfl := List.mem_singleton.1 hx; exact hmf)
        have HD5 := hid (box_kept d0.out hlV G5 HNF.out)
        have HT5 := hid (box_kept d1.out hlV G5 HNF.out)
        have HG5 := hid (hgV.trans G5)
        have HBL5 := hid (Nat.lt_of_lt_of_le hlV G5.size)
        have HRUN := hid hrun
        clear hV0 H4 hgV hlV hrun hbm hg1 hmf G5 H3 HD3 HT3 HG3 HBL3
        obtain ⟨Ws, w0, w1⟩ : ∃ Ws : Nat → World, Ws 0 = V0 ∧ Ws 1 = V1 := ⟨fun q => match q with | 0 => V0 | _ => V1, rfl, rfl⟩
        refine (wpIn_wide (n := 5)).1 ?_
        refine wpIn_region_plan_v (ro := none) (aF := ?aFd) [.pointer (some ⟨A, 0, none⟩), .pointer (some ⟨A, 0, none⟩), .pointer (some ⟨A, 1, none⟩), .map (some c.mb), .agg #[.int .i64 (n : Int), .int .i64 (m : Int)], undef] ?hEd [] [5] [[(0, 0)], [(0, 0)], [(0, 0)], [(0, 0)], [(0, 0)], [(0, 1)]] Ws 81 ?hNd hmx (by kernel_rfl) (by kernel_rfl) ?haFd (w0.trans HV0.out) ?std ?find
        case hEd =>
          go_simp
          rfl
        case hNd => kernel_rfl
        case haFd => kernel_rfl
        case std =>
         refine StepsP.cons rfl (any_steps (by kernel_rfl) ?sd0) (StepsP.cons rfl (any_steps (by kernel_rfl) ?sd1) (StepsP.cons rfl (any_steps (by kernel_rfl) ?sd2) (StepsP.cons rfl (step1 ?sd3_0) (StepsP.cons rfl (step1 ?sd4_0) (StepsP.cons rfl (step1 ?sd5_0) StepsP.nil)))))
         case sd0 =>
          intro _
          refine StepP.want (by kernel_rfl) ?_
          go_simp
         case sd1 =>
          intro _
          refine StepP.want (by kernel_rfl) ?_
          go_simp
         case sd2 =>
          intro _
          refine StepP.want (by kernel_rfl) ?_
          go_simp
         case sd3_0 =>
          rw [w0]
          refine StepP.want (by kernel_rfl) ?_
          have c := c1.out
          go_simp
         case sd4_0 =>
          rw [w0]
          refine StepP.want (by kernel_rfl) ?_
          have c := d0.out
          have c2 := d1.out
          go_simp
         case sd5_0 =>
          rw [w0, w1]
          refine StepP.want (by kernel_rfl) ?_
          have c := HRUN.out
          go_simp
        case find =>
          have e9 : Ws ([5] : List Nat).length = V1 := w1
          rw [e9]
          clear e9 w0 w1
          clear c1 d0 d1 HRUN HV0
          clear V0
          go_wp2_with fail
          obtain ⟨U0, hU0⟩ : ∃ U0, U0 = V1.drew := ⟨_, rfl⟩
          have H6 := H5.out.below (W' := U0) (by rw [hU0]; exact (Below.refl _ _).drew)
          have HU0 := hid hU0
          have c2 := hid H6.c2
          have hAl := hid H6.lt
          have d0 := hid (show U0.cell? ⟨W.heap.size, 0, none⟩ = some (.int .i64 (n : Int)) by rw [hU0]; exact HD5.out)
          have d1 := hid (show U0.cell? ⟨W.heap.size, 1, none⟩ = some (.int .i64 (m : Int)) by rw [hU0]; exact HT5.out)
          have hgV : Gr (fp A c) W U0 := by rw [hU0]; exact HG5.out.trans (Gr.of_below (Below.refl _ _).drew _)
          have hlV : W.heap.size < U0.heap.size := by rw [hU0]; exact HBL5.out
          obtain ⟨U1, hU1⟩ : ∃ U1, U1 = U0.alloc (.cells #[.int .i64 (n : Int), .int .i64 (m : Int), .int .u64 v] 122) := ⟨_, rfl⟩
          obtain ⟨g, fc, U2, hrun, a2, fz, H7, hg7, hnew, hlt⟩ := H6.app n m v (by simpa using hn2) (by show m < (gu (k2.U.set n _) n).now.length; rw [gu_set, if_pos ⟨rfl, hn2⟩]; simpa using hm2) (HLF.out) U1 hU1 116
          have HRUN := hid hrun; have A2 := hid a2; have FZ := hid fz; have HU1 := hid hU1
          have H7 := hid H7
          have HG7 := hid (hgV.trans (hg7.mono (fun x hx => by rcases List.mem_cons.1 hx with rfl | hx; exact fp_A; exact fp_f hx)))
          have HN7 := hid (show Fresh W A c { c with fa := some ⟨g, 0, none⟩, fc := fc } from Fresh.setF (fun x hx => (hnew x hx).imp id (fun h => by omega)))
          clear hU0 H6 hgV hlV hU1 hrun a2 fz hg7 hnew hlt H5 HD5 HT5 HG5 HBL5
          obtain ⟨Ws, w0, w1, w2, w3⟩ : ∃ Ws : Nat → World, Ws 0 = U0 ∧ Ws 1 = U1 ∧ Ws 2 = U2 ∧ Ws 3 = U2.setCell ⟨A, 2, none⟩ (.slice (some ⟨g, 0, none⟩) (k2.F.length + 1) fc) := ⟨fun q => match q with | 0 => U0 | 1 => U1 | 2 => U2 | _ => U2.setCell ⟨A, 2, none⟩ (.slice (some ⟨g, 0, none⟩) (k2.F.length + 1) fc), rfl, rfl, rfl, rfl⟩
          refine (wpIn_wide (n := 5)).1 ?_
          refine wpIn_region_plan_v (ro := none) (aF := ?aFe) [.pointer (some ⟨A, 0, none⟩), .pointer (some ⟨A, 0, none⟩), .pointer (some ⟨A, 0, none⟩), .pointer (some ⟨A, 2, none⟩), .slice c.fa k2.F.length c.fc, .agg #[.int .i64 (n : Int), .int .i64 (m : Int)], .int .u64 v, .agg #[.int .i64 (n : Int), .int .i64 (m : Int), .int .u64 v], .slice (some ⟨U0.heap.size, 0, none⟩) 1 1, .slice (some ⟨g, 0, none⟩) (k2.F.length + 1) fc, .pointer (some ⟨A, 0, none⟩), .pointer (some ⟨A, 2, none⟩), undef] ?hEe [] [8, 9, 12] [[(0, 0), (1, 1), (2, 2)], [(0, 0), (1, 1)], [(0, 0), (1, 1)], [(0, 0), (1, 1)], [(0, 0), (1, 1)], [(0, 0)], [(0, 0)], [(0, 0)], [(0, 1)], [(1, 2)], [(2, 2)], [(2, 2)], [(2, 3)]] Ws 81 ?hNe hmx (by kernel_rfl) (by kernel_rfl) ?haFe (w0.trans HU0.out) ?ste ?fine
          case hEe =>
            go_simp
            rfl
          case hNe => kernel_rfl
          case haFe => kernel_rfl
          case ste =>
           refine StepsP.cons rfl (any_steps (by kernel_rfl) ?se0) (StepsP.cons rfl (any_steps (by kernel_rfl) ?se1) (StepsP.cons rfl (any_steps (by kernel_rfl) ?se2) (StepsP.cons rfl (any_steps (by kernel_rfl) ?se3) (StepsP.cons rfl (step2 ?se4_0 ?se4_1) (StepsP.cons rfl (step1 ?se5_0) (StepsP.cons rfl (any_steps (by kernel_rfl) ?se6) (StepsP.cons rfl (any_steps (by kernel_rfl) ?se7) (StepsP.cons rfl (step1 ?se8_0) (StepsP.cons rfl (step1 ?se9_0) (StepsP.cons rfl (any_steps (by kernel_rfl) ?se10) (StepsP.cons rfl (any_steps (by kernel_rfl) ?se11) (StepsP.cons rfl (step1 ?se12_0) StepsP.nil))))))))))))
           case se0 =>
            intro _
            refine StepP.want (by kernel_rfl) ?_
            go_simp
           case se1 =>
            intro _
            refine StepP.want (by kernel_rfl) ?_
            go_simp
           case se2 =>
            intro _
            refine StepP.want (by kernel_rfl) ?_
            go_simp
           case se3 =>
            intro _
            refine StepP.want (by kernel_rfl) ?_
            go_simp
           case se4_0 =>
            rw [w0]
            refine StepP.want (by kernel_rfl) ?_
            have c := c2.out
            go_simp
           case se4_1 =>
            rw [w1]
            refine StepP.want (by kernel_rfl) ?_
            have c := c2.out
            have c3 := hAl.out
            have e := HU1.out
            subst e
            go_simp
           case se5_0 =>
            rw [w0]
            refine StepP.want (by kernel_rfl) ?_
            have c := d0.out
            have c3 := d1.out
            go_simp
           case se6 =>
            intro _
            refine StepP.want (by kernel_rfl) ?_
            go_simp
           case se7 =>
            intro _
            refine StepP.want (by kernel_rfl) ?_
            go_simp
           case se8_0 =>
            rw [w0, w1]
            refine StepP.want (by kernel_rfl) ?_
            have e := HU1.out
            subst e
            go_simp
           case se9_0 =>
            rw [w1, w2]
            exact StepP.append rfl (.tmp 66) (.tmp 70) 116 rfl _ _ rfl rfl HRUN.out rfl
           case se10 =>
            intro _
            refine StepP.want (by kernel_rfl) ?_
            go_simp
           case se11 =>
            intro _
            refine StepP.want (by kernel_rfl) ?_
            go_simp
           case se12_0 =>
            rw [w2, w3]
            refine StepP.want (by kernel_rfl) ?_
            have c := A2.out
            have c3 := FZ.out
            go_simp
          case fine =>
            have e9 : Ws ([8, 9, 12] : List Nat).length = U2.setCell ⟨A, 2, none⟩ (.slice (some ⟨g, 0, none⟩) (k2.F.length + 1) fc) := w3
            rw [e9]
            clear e9 w0 w1 w2 w3
            clear c2 hAl d0 d1 HRUN A2 FZ HU0 HU1
            generalize U2.setCell ⟨A, 2, none⟩ (.slice (some ⟨g, 0, none⟩) (k2.F.length + 1) fc) = w5 at *
            have c5 := H7.out.c5
            have f5 := H7.out.fz 5
            have hwr := HWR.out
            have H8 := hid (H7.out.setA (set_gr w5 A 5 (.int .i64 (k2.wr + 1))) k2.fuse k2.down (k2.wr + 1) (World.ownsRow.stored H7.out.blk 5 (.int .i64 (k2.wr + 1))).1)
            have HG8 := hid (HG7.out.trans ((set_gr w5 A 5 (.int .i64 (k2.wr + 1))).mono (T := fp A c) (fun x hx => by obtain rfl := List.mem_singleton.1 hx; exact fp_A)))
            clear H7
            go_wp2_with fail
            go_ret
            exact ⟨HE.out, hid ⟨_, HK.out ▸ H8.out, HG8.out, HN7.out, rfl⟩⟩
    · have h2 : ¬ k.fuse = 1 := by omega
      rw [if_neg h2, if_neg h1] at HK0
      rw [if_neg h2] at HE0
      have HK := hid (show wrote k n m v = wrK k (n : Int) (m : Int) v from HK0.out.symm)
      have HE := hid (show Ending.returned (.int .i64 0) = Ending.returned (.int .i64 (wrE k (n : Int) (m : Int))) by rw [HE0.out])
      have h1' : k.fuse ≤ 0 := by omega
      go_upto_region 10 with (fail)
      clear q3 h1' h1 h2 HE0 HK0 hfu hfu2
      obtain ⟨k2, hk2⟩ : ∃ k2 : Dk, k2 = k := ⟨_, rfl⟩
      have H2 := hid (show DA w1 A c k2 by rw [hk2]; exact H1.out)
      clear H1
      generalize w1 = w2 at *
      have HN : Hid (n < k2.U.length ∧ m < (gu k2.U n).now.length) := by rw [hk2]; exact HN
      have HLF : Hid (k2.F.length ≤ 2 ^ 32) := by rw [hk2]; exact HLF
      have HWR : Hid (0 ≤ k2.wr ∧ k2.wr ≤ 2 ^ 32) := by rw [hk2]; exact HWR
      have HK : Hid (wrote k2 n m v = wrK k (n : Int) (m : Int) v) := by rw [hk2]; exact HK
      clear hk2
      have hn2 : n < k2.U.length := HN.out.1
      have hm2 : m < (gu k2.U n).now.length := HN.out.2
      have hb8 := H2.out.b8
      have hbn := H2.out.bn n hn2
      have c0 := H2.out.c0
      obtain ⟨ub, hub, hul, c1, -, -, -⟩ := H2.out.unit hn2
      rw [hub] at c0
      have c2 := (H2.out.rn n hn2).at m hm2
      have f2 := (H2.out.rn n hn2).frozen m
      have H3 := hid (H2.out.setNow hn2 hm2 v)
      have hfn : (gb c.bs n).n ∈ fp A c := fp_n (by rw [H2.out.lb]; exact hn2)
      have G3 := (set_gr w2 (gb c.bs n).n m (.int .u64 v)).mono (T := fp A c) (fun x hx => by obtain rfl := List.mem_singleton.1 hx; exact hfn)
      have HD3 := hid (box_kept HD.out HBL.out G3 HNF.out)
      have HT3 := hid (box_kept HT.out HBL.out G3 HNF.out)
      have HG3 := hid (HGW.out.trans G3)
      have HBL3 := hid (Nat.lt_of_lt_of_le HBL.out G3.size)
      clear hub hfn G3 hbn
      go_wp2_with fail
      clear c0 c1 c2 f2
      generalize w2.setCell ⟨(gb c.bs n).n, m, none⟩ (.int .u64 v) = w3 at *
      obtain ⟨V0, hV0⟩ : ∃ V0, V0 = w3.drew := ⟨_, rfl⟩
      have H4 := H3.out.below (W' := V0) (by rw [hV0]; exact (Below.refl _ _).drew)
      have HV0 := hid hV0
      have c1 := hid H4.c1
      have d0 := hid (show V0.cell? ⟨W.heap.size, 0, none⟩ = some (.int .i64 (n : Int)) by rw [hV0]; exact HD3.out)
      have d1 := hid (show V0.cell? ⟨W.heap.size, 1, none⟩ = some (.int .i64 (m : Int)) by rw [hV0]; exact HT3.out)
      have hgV : Gr (fp A c) W V0 := by rw [hV0]; exact HG3.out.trans (Gr.of_below (Below.refl _ _).drew _)
      have hlV : W.heap.size < V0.heap.size := by rw [hV0]; exact HBL3.out
      obtain ⟨V1, hrun, hbm, hg1⟩ := H4.mp.del HW.out.1 HW.out.2 0
      have H5 := hid (H4.setB hg1 c.mn _ hbm)
      have hmf : c.mb ∈ fp A c := fp_m
      have G5 := hg1.mono (T := fp A c) (fun x hx => by obtain rfl := List.mem_singleton.1 hx; exact hmf)
      have HD5 := hid (box_kept d0.out hlV G5 HNF.out)
      have HT5 := hid (box_kept d1.out hlV G5 HNF.out)
      have HG5 := hid (hgV.trans G5)
      have HBL5 := hid (Nat.lt_of_lt_of_le hlV G5.size)
      have HRUN := hid hrun
      clear hV0 H4 hgV hlV hrun hbm hg1 hmf G5 H3 HD3 HT3 HG3 HBL3
      obtain ⟨Ws, w0, w1⟩ : ∃ Ws : Nat → World, Ws 0 = V0 ∧ Ws 1 = V1 := ⟨fun q => match q with | 0 => V0 | _ => V1, rfl, rfl⟩
      refine (wpIn_wide (n := 5)).1 ?_
      refine wpIn_region_plan_v (ro := none) (aF := ?aFf) [.pointer (some ⟨A, 0, none⟩), .pointer (some ⟨A, 0, none⟩), .pointer (some ⟨A, 1, none⟩), .map (some c.mb), .agg #[.int .i64 (n : Int), .int .i64 (m : Int)], undef] ?hEf [] [5] [[(0, 0)], [(0, 0)], [(0, 0)], [(0, 0)], [(0, 0)], [(0, 1)]] Ws 81 ?hNf hmx (by kernel_rfl) (by kernel_rfl) ?haFf (w0.trans HV0.out) ?stf ?finf
      case hEf =>
        go_simp
        rfl
      case hNf => kernel_rfl
      case haFf => kernel_rfl
      case stf =>
       refine StepsP.cons rfl (any_steps (by kernel_rfl) ?sf0) (StepsP.cons rfl (any_steps (by kernel_rfl) ?sf1) (StepsP.cons rfl (any_steps (by kernel_rfl) ?sf2) (StepsP.cons rfl (step1 ?sf3_0) (StepsP.cons rfl (step1 ?sf4_0) (StepsP.cons rfl (step1 ?sf5_0) StepsP.nil)))))
       case sf0 =>
        intro _
        refine StepP.want (by kernel_rfl) ?_
        go_simp
       case sf1 =>
        intro _
        refine StepP.want (by kernel_rfl) ?_
        go_simp
       case sf2 =>
        intro _
        refine StepP.want (by kernel_rfl) ?_
        go_simp
       case sf3_0 =>
        rw [w0]
        refine StepP.want (by kernel_rfl) ?_
        have c := c1.out
        go_simp
       case sf4_0 =>
        rw [w0]
        refine StepP.want (by kernel_rfl) ?_
        have c := d0.out
        have c2 := d1.out
        go_simp
       case sf5_0 =>
        rw [w0, w1]
        refine StepP.want (by kernel_rfl) ?_
        have c := HRUN.out
        go_simp
      case finf =>
        have e9 : Ws ([5] : List Nat).length = V1 := w1
        rw [e9]
        clear e9 w0 w1
        clear c1 d0 d1 HRUN HV0
        clear V0
        go_wp2_with fail
        obtain ⟨U0, hU0⟩ : ∃ U0, U0 = V1.drew := ⟨_, rfl⟩
        have H6 := H5.out.below (W' := U0) (by rw [hU0]; exact (Below.refl _ _).drew)
        have HU0 := hid hU0
        have c2 := hid H6.c2
        have hAl := hid H6.lt
        have d0 := hid (show U0.cell? ⟨W.heap.size, 0, none⟩ = some (.int .i64 (n : Int)) by rw [hU0]; exact HD5.out)
        have d1 := hid (show U0.cell? ⟨W.heap.size, 1, none⟩ = some (.int .i64 (m : Int)) by rw [hU0]; exact HT5.out)
        have hgV : Gr (fp A c) W U0 := by rw [hU0]; exact HG5.out.trans (Gr.of_below (Below.refl _ _).drew _)
        have hlV : W.heap.size < U0.heap.size := by rw [hU0]; exact HBL5.out
        obtain ⟨U1, hU1⟩ : ∃ U1, U1 = U0.alloc (.cells #[.int .i64 (n : Int), .int .i64 (m : Int), .int .u64 v] 122) := ⟨_, rfl⟩
        obtain ⟨g, fc, U2, hrun, a2, fz, H7, hg7, hnew, hlt⟩ := H6.app n m v (by simpa using hn2) (by show m < (gu (k2.U.set n _) n).now.length; rw [gu_set, if_pos ⟨rfl, hn2⟩]; simpa using hm2) (HLF.out) U1 hU1 116
        have HRUN := hid hrun; have A2 := hid a2; have FZ := hid fz; have HU1 := hid hU1
        have H7 := hid H7
        have HG7 := hid (hgV.trans (hg7.mono (fun x hx => by rcases List.mem_cons.1 hx with rfl | hx; exact fp_A; exact fp_f hx)))
        have HN7 := hid (show Fresh W A c { c with fa := some ⟨g, 0, none⟩, fc := fc } from Fresh.setF (fun x hx => (hnew x hx).imp id (fun h => by omega)))
        clear hU0 H6 hgV hlV hU1 hrun a2 fz hg7 hnew hlt H5 HD5 HT5 HG5 HBL5
        obtain ⟨Ws, w0, w1, w2, w3⟩ : ∃ Ws : Nat → World, Ws 0 = U0 ∧ Ws 1 = U1 ∧ Ws 2 = U2 ∧ Ws 3 = U2.setCell ⟨A, 2, none⟩ (.slice (some ⟨g, 0, none⟩) (k2.F.length + 1) fc) := ⟨fun q => match q with | 0 => U0 | 1 => U1 | 2 => U2 | _ => U2.setCell ⟨A, 2, none⟩ (.slice (some ⟨g, 0, none⟩) (k2.F.length + 1) fc), rfl, rfl, rfl, rfl⟩
        refine (wpIn_wide (n := 5)).1 ?_
        refine wpIn_region_plan_v (ro := none) (aF := ?aFg) [.pointer (some ⟨A, 0, none⟩), .pointer (some ⟨A, 0, none⟩), .pointer (some ⟨A, 0, none⟩), .pointer (some ⟨A, 2, none⟩), .slice c.fa k2.F.length c.fc, .agg #[.int .i64 (n : Int), .int .i64 (m : Int)], .int .u64 v, .agg #[.int .i64 (n : Int), .int .i64 (m : Int), .int .u64 v], .slice (some ⟨U0.heap.size, 0, none⟩) 1 1, .slice (some ⟨g, 0, none⟩) (k2.F.length + 1) fc, .pointer (some ⟨A, 0, none⟩), .pointer (some ⟨A, 2, none⟩), undef] ?hEg [] [8, 9, 12] [[(0, 0), (1, 1), (2, 2)], [(0, 0), (1, 1)], [(0, 0), (1, 1)], [(0, 0), (1, 1)], [(0, 0), (1, 1)], [(0, 0)], [(0, 0)], [(0, 0)], [(0, 1)], [(1, 2)], [(2, 2)], [(2, 2)], [(2, 3)]] Ws 81 ?hNg hmx (by kernel_rfl) (by kernel_rfl) ?haFg (w0.trans HU0.out) ?stg ?fing
        case hEg =>
          go_simp
          rfl
        case hNg => kernel_rfl
        case haFg => kernel_rfl
        case stg =>
         refine StepsP.cons rfl (any_steps (by kernel_rfl) ?sg0) (StepsP.cons rfl (any_steps (by kernel_rfl) ?sg1) (StepsP.cons rfl (any_steps (by kernel_rfl) ?sg2) (StepsP.cons rfl (any_steps (by kernel_rfl) ?sg3) (StepsP.cons rfl (step2 ?sg4_0 ?sg4_1) (StepsP.cons rfl (step1 ?sg5_0) (StepsP.cons rfl (any_steps (by kernel_rfl) ?sg6) (StepsP.cons rfl (any_steps (by kernel_rfl) ?sg7) (StepsP.cons rfl (step1 ?sg8_0) (StepsP.cons rfl (step1 ?sg9_0) (StepsP.cons rfl (any_steps (by kernel_rfl) ?sg10) (StepsP.cons rfl (any_steps (by kernel_rfl) ?sg11) (StepsP.cons rfl (step1 ?sg12_0) StepsP.nil))))))))))))
         case sg0 =>
          intro _
          refine StepP.want (by kernel_rfl) ?_
          go_simp
         case sg1 =>
          intro _
          refine StepP.want (by kernel_rfl) ?_
          go_simp
         case sg2 =>
          intro _
          refine StepP.want (by kernel_rfl) ?_
          go_simp
         case sg3 =>
          intro _
          refine StepP.want (by kernel_rfl) ?_
          go_simp
         case sg4_0 =>
          rw [w0]
          refine StepP.want (by kernel_rfl) ?_
          have c := c2.out
          go_simp
         case sg4_1 =>
          rw [w1]
          refine StepP.want (by kernel_rfl) ?_
          have c := c2.out
          have c3 := hAl.out
          have e := HU1.out
          subst e
          go_simp
         case sg5_0 =>
          rw [w0]
          refine StepP.want (by kernel_rfl) ?_
          have c := d0.out
          have c3 := d1.out
          go_simp
         case sg6 =>
          intro _
          refine StepP.want (by kernel_rfl) ?_
          go_simp
         case sg7 =>
          intro _
          refine StepP.want (by kernel_rfl) ?_
          go_simp
         case sg8_0 =>
          rw [w0, w1]
          refine StepP.want (by kernel_rfl) ?_
          have e := HU1.out
          subst e
          go_simp
         case sg9_0 =>
          rw [w1, w2]
          exact StepP.append rfl (.tmp 66) (.tmp 70) 116 rfl _ _ rfl rfl HRUN.out rfl
         case sg10 =>
          intro _
          refine StepP.want (by kernel_rfl) ?_
          go_simp
         case sg11 =>
          intro _
          refine StepP.want (by kernel_rfl) ?_
          go_simp
         case sg12_0 =>
          rw [w2, w3]
          refine StepP.want (by kernel_rfl) ?_
          have c := A2.out
          have c3 := FZ.out
          go_simp
        case fing =>
          have e9 : Ws ([8, 9, 12] : List Nat).length = U2.setCell ⟨A, 2, none⟩ (.slice (some ⟨g, 0, none⟩) (k2.F.length + 1) fc) := w3
          rw [e9]
          clear e9 w0 w1 w2 w3
          clear c2 hAl d0 d1 HRUN A2 FZ HU0 HU1
          generalize U2.setCell ⟨A, 2, none⟩ (.slice (some ⟨g, 0, none⟩) (k2.F.length + 1) fc) = w5 at *
          have c5 := H7.out.c5
          have f5 := H7.out.fz 5
          have hwr := HWR.out
          have H8 := hid (H7.out.setA (set_gr w5 A 5 (.int .i64 (k2.wr + 1))) k2.fuse k2.down (k2.wr + 1) (World.ownsRow.stored H7.out.blk 5 (.int .i64 (k2.wr + 1))).1)
          have HG8 := hid (HG7.out.trans ((set_gr w5 A 5 (.int .i64 (k2.wr + 1))).mono (T := fp A c) (fun x hx => by obtain rfl := List.mem_singleton.1 hx; exact fp_A)))
          clear H7
          go_wp2_with fail
          go_ret
          exact ⟨HE.out, hid ⟨_, HK.out ▸ H8.out, HG8.out, HN7.out, rfl⟩⟩
  · rw [if_neg hz] at HE0 HK0
    rw [HE0.out, HK0.out]
    have hzb : (chk3 k d t != 0) = true := by simpa using hz
    generalize chk3 k d t = x at *
    go_enter Try.func155, Try.ntmps155
    go_wp2_with fail
    refine HF.out.mono ?_
    rintro e w1 ⟨rfl, HB⟩
    have H1 := hid (H.out.below HB.out.1)
    have HB1 := hid (Gr.of_below HB.out.1 (fp A c))
    go_wp2_with fail
    go_ret
    exact ⟨rfl, hid ⟨c, H1.out, HB1.out, Fresh.refl _ _ _, rfl⟩⟩
end Go.Proofs.Ytbgbjgedjmhcaaa.OldD
namespace Go.Proofs.Ytbgbjgedjmhcaaa.OldD
open Go.ChangeShapes Go.WideShapes Go.ChangeAt Go.RowKit
attribute [local go_sem] Oper.semAt_some putAll
theorem wpList_append_run {P : Program} (w : World) {ops : Array Oper} {rest : List Oper} {o : Oper} {a : Act} {Q : Exit → Act → World → Prop} (hg : o.guard = none) (s x : Operand) (t : TypeId)
    (ho : o.op = .call { callee := .builtin .append, args := #[s, x], argTypes := #[t, t] }) (v vx v' : Value) (w' : World) (hs : a.eval s = v) (hx : a.eval x = vx)
    (hrun : (Builtin.append_ #[t, t] o.type #[v, vx]).run P w = .ok v' w') (hK : wpList P ops Q rest (a.put o.dst v') w') : wpList P ops Q (o :: rest) a w := by
  refine wpList_plain hg fun K' hK' => ?_
  unfold Oper.wp
  simp [execOp, ho, resolve, invoke, builtin, hs, hx, hrun, Result.andThen, Oper.upon]
  exact hK' _ _ hK
def stF (F : List Wr) (d : Nat) : List Wr := F.filter fun w => decide (w.d ≠ d)
def stU (d : Nat) (b : Bool) (U : List Un) (F : List Wr) : List Un := F.foldl (fun U w => if w.d = d ∧ b = true then U.set d { gu U d with dur := (gu U d).dur.set w.at' w.v } else U) U
theorem stF_take {F : List Wr} {k : Nat} (d : Nat) (h : k < F.length) : stF (F.take (k + 1)) d = if (gf F k).d = d then stF (F.take k) d else stF (F.take k) d ++ [gf F k] := by
  unfold stF gf
  rw [List.take_succ_eq_append_getElem h, List.filter_append, List.getElem?_eq_getElem h]
  by_cases e : F[k].d = d
  · simp [e]
  · simp [e]
theorem stU_take {F : List Wr} {k : Nat} (d : Nat) (b : Bool) (U : List Un) (h : k < F.length) : stU d b U (F.take (k + 1)) = if (gf F k).d = d ∧ b = true then (stU d b U (F.take k)).set d { gu (stU d b U (F.take k)) d with dur := (gu (stU d b U (F.take k)) d).dur.set (gf F k).at' (gf F k).v } else stU d b U (F.take k) := by
  unfold stU gf
  rw [List.take_succ_eq_append_getElem h, List.foldl_append, List.getElem?_eq_getElem h]
  rfl
theorem stF_len (F : List Wr) (d : Nat) : (stF F d).length ≤ F.length := List.length_filter_le _ _
def ov (G F : List Wr) : List Wr := G ++ F.drop G.length
theorem ov_len {G F : List Wr} (h : G.length ≤ F.length) : (ov G F).length = F.length := by unfold ov; rw [List.length_append, List.length_drop]; omega
theorem ov_at {G F : List Wr} {k : Nat} (h : G.length ≤ k) : gf (ov G F) k = gf F k := by
  unfold ov gf
  rw [List.getElem?_append_right h, List.getElem?_drop, show G.length + (k - G.length) = k by omega]
theorem own_fewer {w : World} {base : Nat} {e : TypeId} {size : Nat} {a : Option Addr} {n m c : Nat} {xs : List Value} (h : w.ownsRow base e size (.slice a n c) n xs) (hm : m ≤ n) : w.ownsRow base e size (.slice a m c) m (xs.take (m * size)) := by
  have hms : m * size ≤ n * size := Nat.mul_le_mul_right size hm
  refine ⟨by rw [List.length_take, h.1]; omega, ?_⟩
  rcases h.2 with ⟨h1, h2⟩ | ⟨g, cap, cur, h1, hb, hg, hnc, hcm, hcs, htake⟩
  · simp only [Value.slice.injEq] at h1
    left
    obtain ⟨h3, h4, h5⟩ := h1
    subst h3 h5
    exact ⟨by rw [show m = 0 by omega], by omega⟩
  · simp only [Value.slice.injEq] at h1
    obtain ⟨h3, h4, h5⟩ := h1
    right
    refine ⟨g, cap, cur, by rw [h3, h5], hb, hg, by omega, hcm, hcs, ?_⟩
    rw [← htake, List.take_take, Nat.min_eq_left hms]
theorem own_room {w : World} {e t : TypeId} {i : TypeInfo} {size : Nat} (ht : Try.prog.underlying t = some (.slice e)) (hi : Try.prog.info? e = some i) (hsize : i.size = size) (hsz : 0 < size)
    {g n c l : Nat} {f : Nat → Nat → Value} (h : w.ownsRow 0 e size (.slice (some ⟨g, 0, none⟩) n c) n (ck size n f)) (hl : l < n) (a : Addr) (cc : Nat) (x : Nat → Value) (h1 : ∀ j, (x j).oneCell' = true) (hnews : ∀ j, j < size → w.cell? (a.add j) = some (x j)) (ty : TypeId) :
    ∃ w', (Builtin.append_ #[t, t] ty #[.slice (some ⟨g, 0, none⟩) l c, .slice (some a) 1 cc]).run Try.prog w = .ok (.slice (some ⟨g, 0, none⟩) (l + 1) c) w' ∧ w'.ownsRow 0 e size (.slice (some ⟨g, 0, none⟩) n c) n (ck size n fun p q => if p = l then x q else f p q) ∧ Gr [g] w w' := by
  rcases h.2 with ⟨h2, _⟩ | ⟨g', cap, cur, h2, hb, hg, hnc, hcm, hcs, htake⟩
  · simp at h2
  · simp only [Value.slice.injEq, Option.some.injEq, Addr.mk.injEq, and_true, true_and] at h2
    obtain ⟨rfl, rfl⟩ := h2
    subst hsize
    have hls : l * i.size + i.size ≤ n * i.size := by have := Nat.mul_le_mul_right i.size (show l + 1 ≤ n from hl); rw [Nat.add_mul, Nat.one_mul] at this; exact this
    have hns : n * i.size ≤ c * i.size := Nat.mul_le_mul_right i.size hnc
    have hnl : ((List.range i.size).map x).length = 1 * i.size := by simp
    have hrun := run_append_room (P := Try.prog) w t ty e i ht hi g l c cur hg a 1 cc ((List.range i.size).map x) hnl (fun j u hu => by
        have hj : j < i.size := by
          have := (List.getElem?_eq_some_iff.1 hu).1
          simpa using this
        rw [List.getElem?_map, List.getElem?_range hj] at hu
        simp at hu
        rw [← hu]; exact hnews j hj) (fun u hu => by obtain ⟨j, _, rfl⟩ := List.mem_map.1 hu; exact h1 j) (by omega) (by rw [hnl]; omega)
    refine ⟨_, hrun, ⟨ck_len _ _ _, .inr ⟨g, c, _, rfl, hb, setRow_heap _ _ _ _ _ _ hg, hnc, hcm, ?_, ?_⟩⟩, ?_⟩
    · simp; omega
    · apply List.ext_getElem?
      intro j
      have hcl : (ck i.size n f)[j]? = if j < n * i.size then cur.toList[j]? else none := by rw [← htake, List.getElem?_take]
      rw [ck_get] at hcl
      rw [List.getElem?_take, ck_get]
      by_cases hj : j < n * i.size
      · rw [if_pos hj, if_pos hj]
        rw [if_pos hj, if_pos hj] at hcl
        simp only [List.toList_toArray]
        have hlt : (cur.toList.take (l * i.size)).length = l * i.size := by rw [List.length_take, Array.length_toList]; omega
        by_cases h3 : j < l * i.size
        · rw [List.append_assoc, List.getElem?_append_left (by omega), List.getElem?_take, if_pos h3, ← hcl, if_neg]
          have := Nat.div_lt_of_lt_mul (show j < i.size * l by rw [Nat.mul_comm]; exact h3)
          omega
        · by_cases h4 : j < l * i.size + i.size
          · have ed : j / i.size = l := by
              rw [show j = l * i.size + (j - l * i.size) by omega]; exact div_at (by omega)
            have em : j % i.size = j - l * i.size := by
              conv => lhs; rw [show j = l * i.size + (j - l * i.size) by omega]
              exact mod_at (by omega)
            rw [List.append_assoc, List.getElem?_append_right (by omega), hlt, List.getElem?_append_left (by simp; omega), List.getElem?_map, List.getElem?_range (by omega), if_pos ed, em]
            rfl
          · rw [List.append_assoc, List.getElem?_append_right (by omega), hlt, List.getElem?_append_right (by simp; omega), List.getElem?_drop, show l * i.size + ((List.range i.size).map x).length + (j - l * i.size - ((List.range i.size).map x).length) = j by simp; omega, ← hcl, if_neg]
            · intro ed
              have := Nat.div_add_mod j i.size
              rw [ed] at this
              have h5 := Nat.mod_lt j hsz
              rw [Nat.mul_comm] at this
              omega
      · rw [if_neg hj, if_neg hj]
    · exact ⟨rfl, rfl, rfl, by simp [World.setRow], fun k hk hn => setRow_other _ _ _ _ (by intro e; apply hn; rw [e]; simp)⟩
theorem gf_mem {F : List Wr} {k : Nat} (h : k < F.length) : gf F k ∈ F := by
  unfold gf; rw [List.getElem?_eq_getElem h]; exact List.getElem_mem h
theorem fi_of {U : List Un} {F : List Wr} (h : ∀ i, i < F.length → (gf F i).d < U.length ∧ (gf F i).at' < (gu U (gf F i).d).now.length) : ∀ x ∈ F, x.d < U.length ∧ x.at' < (gu U x.d).now.length := by
  intro x hx
  obtain ⟨i, hi, rfl⟩ := List.getElem_of_mem hx
  have := h i hi
  unfold gf at this
  rw [List.getElem?_eq_getElem hi] at this
  exact this
theorem stU_keep (d : Nat) (b : Bool) (U : List Un) : ∀ F : List Wr, (stU d b U F).length = U.length ∧ ∀ i, (gu (stU d b U F) i).now = (gu U i).now ∧ (gu (stU d b U F) i).mis = (gu U i).mis := by
  have step : ∀ (F : List Wr) (V : List Un), V.length = U.length → (∀ i, (gu V i).now = (gu U i).now ∧ (gu V i).mis = (gu U i).mis) → (stU d b V F).length = U.length ∧ ∀ i, (gu (stU d b V F) i).now = (gu U i).now ∧ (gu (stU d b V F) i).mis = (gu U i).mis := by
    intro F
    induction F with
    | nil => intro V h1 h2; exact ⟨h1, h2⟩
    | cons w F ih =>
      intro V h1 h2
      show (stU d b (if w.d = d ∧ b = true then V.set d { gu V d with dur := (gu V d).dur.set w.at' w.v } else V) F).length = _ ∧ _
      refine ih _ ?_ ?_
      · split
        · rw [List.length_set]; exact h1
        · exact h1
      · intro i
        split
        · rw [gu_set]
          split
          · rename_i e; rw [e.1]; exact h2 d
          · exact h2 i
        · exact h2 i
  exact fun F => step F U rfl (fun i => ⟨rfl, rfl⟩)
theorem DA.room {w : World} {A : Nat} {c : Co} {k : Dk} {G F : List Wr} {x : Wr} {fb : Nat} (h : DA w A c { k with F := ov G F }) (hfa : c.fa = some ⟨fb, 0, none⟩) (hl : G.length < F.length) (hx : x.d < k.U.length ∧ x.at' < (gu k.U x.d).now.length)
    (a : Addr) (hnews : w.cell? (a.add 0) = some (.int .i64 (x.d : Int)) ∧ w.cell? (a.add 1) = some (.int .i64 (x.at' : Int)) ∧ w.cell? (a.add 2) = some (.int .u64 x.v)) (ty : TypeId) :
    ∃ w', (Builtin.append_ #[116, 116] ty #[.slice (some ⟨fb, 0, none⟩) G.length c.fc, .slice (some a) 1 1]).run Try.prog w = .ok (.slice (some ⟨fb, 0, none⟩) (G.length + 1) c.fc) w' ∧ DA w' A c { k with F := ov (G ++ [x]) F } ∧ Gr [fb] w w' := by
  obtain ⟨i0, hi, hz0, hz1, hz2⟩ := info_parts Try.info122
  have hrf := h.rf
  have hol := ov_len (G := G) (F := F) (by omega)
  have hol2 := ov_len (G := G ++ [x]) (F := F) (by rw [List.length_append]; simp; omega)
  have hrf : w.ownsRow 0 122 3 (.slice c.fa (ov G F).length c.fc) (ov G F).length (ck 3 (ov G F).length (ff (ov G F))) := h.rf
  rw [hol, hfa] at hrf
  obtain ⟨w', hrun, hr, hg⟩ := own_room Try.underlying116 hi hz1 (by omega) hrf hl a 1 (fun j => if j = 0 then .int .i64 (x.d : Int) else if j = 1 then .int .i64 (x.at' : Int) else .int .u64 x.v) (fun j => by by_cases e0 : j = 0 <;> by_cases e1 : j = 1 <;> simp [e0, e1, Value.oneCell']) (fun j hj => by
    obtain rfl | rfl | rfl : j = 0 ∨ j = 1 ∨ j = 2 := by omega
    · exact hnews.1
    · exact hnews.2.1
    · exact hnews.2.2) ty
  refine ⟨w', hrun, ?_, hg⟩
  have hfi := fi_of h.fi
  have h0 := h.setF (W' := w') c.fa c.fc (ov (G ++ [x]) F) (hg.mono (fun y hy => by obtain rfl := List.mem_singleton.1 hy; rw [hfa]; simp [oblk])) ?_ ?_ (fun g hgg => .inl hgg) (fun i hi => ?_)
  · exact h0
  · have hb : w.ownsRow 0 118 6 (.slice (some ⟨A, 0, none⟩) 1 1) 1 [.slice c.ua k.U.length c.uc, .map (some c.mb), .slice c.fa (ov G F).length c.fc, .int .i64 k.fuse, .bool k.down, .int .i64 k.wr] := h.blk
    rw [hol] at hb
    rw [hol2]
    exact own_gr hb hg (fun g hgg => by cases hgg; rw [List.mem_singleton]; intro e; apply h.sep.af; rw [hfa]; simp [oblk]; exact e)
  · rw [hol2, hfa]
    rw [ck_congr (g := fun p q => if p = G.length then (fun j => if j = 0 then Value.int .i64 (x.d : Int) else if j = 1 then .int .i64 (x.at' : Int) else .int .u64 x.v) q else ff (ov G F) p q)]
    · exact hr
    · intro p q hp hq
      have e : gf (ov (G ++ [x]) F) p = if p = G.length then x else gf (ov G F) p := by
        unfold ov gf
        by_cases h1 : p < G.length
        · rw [if_neg (by omega), List.append_assoc, List.getElem?_append_left h1, List.getElem?_append_left h1]
        · by_cases h2 : p = G.length
          · rw [if_pos h2, h2, List.append_assoc, List.getElem?_append_right (by omega)]; simp
          · have hgl : (G ++ [x]).length = G.length + 1 := by simp
            rw [if_neg h2, List.getElem?_append_right (show (G ++ [x]).length ≤ p by omega), List.getElem?_append_right (show G.length ≤ p by omega), List.getElem?_drop, List.getElem?_drop, hgl, show G.length + 1 + (p - (G.length + 1)) = G.length + (p - G.length) by omega]
      unfold ff
      rw [e]
      by_cases h2 : p = G.length
      · rw [if_pos h2, if_pos h2]
      · rw [if_neg h2, if_neg h2]
  · have hm := gf_mem hi
    rcases List.mem_append.1 hm with hm | hm
    · rcases List.mem_append.1 hm with hm | hm
      · exact hfi _ (List.mem_append.2 (.inl hm))
      · rw [List.mem_singleton.1 hm]; exact hx
    · refine hfi _ (List.mem_append.2 (.inr ?_))
      rw [List.length_append] at hm
      rw [List.mem_iff_getElem?] at hm ⊢
      obtain ⟨j, hj⟩ := hm
      rw [List.getElem?_drop] at hj
      exact ⟨j + 1, by rw [List.getElem?_drop, ← hj, show G.length + (j + 1) = G.length + [x].length + j by simp; omega]⟩
set_option maxRecDepth 100000 in
theorem settle_ok {W : World} {A : Nat} {c : Co} {k : Dk} (h : DA W A c k) (d : Nat) (hd : d < k.U.length) (hF : k.F.length ≤ 2 ^ 32) (sf : Nat) (b : Bool) (hent : ∀ args w, (callFunc sf args).run Try.prog w = .ok (.enter sf args) w)
    (hsf : ∀ (j : Int) (w : World), Calls Try.prog sf #[.int .i64 j] w fun e w' => e = .returned (.bool b) ∧ w' = w) :
    Calls Try.prog 98 #[.pointer (some ⟨A, 0, none⟩), .int .i64 (d : Int), .func (.func sf) #[] #[]] W fun e W' => e = .returned (.tuple #[]) ∧ Hid (DA W' A c { k with U := stU d b k.U k.F, F := stF k.F d } ∧ Gr (fp A c) W W') := by
  have H := hid h
  have HLt := hid h.fp_lt
  have HSF := hid hsf
  have hb8 := h.b8
  have c2 := h.c2
  have hcap := own_cap h.rf
  unfold maxLen at hcap
  have hmx : Try.prog.follows .mixedOrders = true := by kernel_rfl
  have HFL := hid hF
  have HEN := hid hent
  clear h hsf hent
  go_enter Try.func98, Try.ntmps98
  go_wp2_with fail
  clear c2
  go_loopw [6, 19] (fun lv iv wr => ∃ j : Nat, j ≤ k.F.length ∧ lv = .slice c.fa (stF (k.F.take j) d).length c.fc ∧ iv = .int .i64 (j : Int) ∧ Hid (DA wr A c { k with U := stU d b k.U (k.F.take j), F := ov (stF (k.F.take j) d) k.F }) ∧ Hid (Gr (fp A c) W wr)) (fun _ iv _ => k.F.length - (intOf iv).toNat)
  case atStart =>
    exact ⟨0, by omega, by simp [stF], rfl, hid (by simpa [stU, stF, ov] using H.out), hid (Gr.refl _ _)⟩
  case round =>
    obtain ⟨j, hj, rfl, rfl, HDj, HGj⟩ := hrel
    have hl : (stF (k.F.take j) d).length ≤ j := by have := stF_len (k.F.take j) d; rw [List.length_take] at this; omega
    have hol := ov_len (G := stF (k.F.take j) d) (F := k.F) (by omega)
    by_cases hlt : j < k.F.length
    · have hlt' : (j : Int) < (k.F.length : Int) := by omega
      obtain ⟨fb, hfb⟩ := own_pos HDj.out.rf (by show 0 < (ov _ _).length; omega)
      have hrf : wr.ownsRow 0 122 3 (.slice c.fa (ov (stF (k.F.take j) d) k.F).length c.fc) (ov (stF (k.F.take j) d) k.F).length (ck 3 (ov (stF (k.F.take j) d) k.F).length (ff (ov (stF (k.F.take j) d) k.F))) := HDj.out.rf
      rw [hol, hfb] at hrf
      have hfbl := own_lt hrf
      have hgf := ov_at (G := stF (k.F.take j) d) (F := k.F) hl
      have x0 : wr.cell? ⟨fb, j * 3, none⟩ = some (.int .i64 ((gf k.F j).d : Int)) := by
        show wr.cell? ⟨fb, j * 3 + 0, none⟩ = _
        rw [World.ownsRow.cellAt hrf _ (lt_mul (j := 0) hlt (by omega)), ck_at (j := 0) _ hlt (by omega)]; unfold ff; rw [hgf]; rfl
      have x1 : wr.cell? ⟨fb, j * 3 + 1, none⟩ = some (.int .i64 ((gf k.F j).at' : Int)) := by
        rw [World.ownsRow.cellAt hrf _ (lt_mul (j := 1) hlt (by omega)), ck_at (j := 1) _ hlt (by omega)]; unfold ff; rw [hgf]; rfl
      have x2 : wr.cell? ⟨fb, j * 3 + 2, none⟩ = some (.int .u64 (gf k.F j).v) := by
        rw [World.ownsRow.cellAt hrf _ (lt_mul (j := 2) hlt (by omega)), ck_at (j := 2) _ hlt (by omega)]; unfold ff; rw [hgf]; rfl
      have hfi := H.out.fi j hlt
      have HTF := hid (stF_take d hlt)
      have HTU := hid (stU_take d b k.U hlt)
      have hkU := stU_keep d b k.U (k.F.take j)
      have hb1 := H.out.bn d hd
      have hb2 := H.out.bn _ hfi.1
      generalize hwx : gf k.F j = x at *
      obtain ⟨xd, xa, xv⟩ := x
      have hb8' := H.out.b8
      clear hwx hgf hrf
      have HKU := hid hkU
      have HX0 := hid x0; have HX1 := hid x1; have HX2 := hid x2
      have HL := hid (show (stF (k.F.take j) d).length < k.F.length by omega)
      have HFI := hid (show xd < k.U.length ∧ xa < (gu k.U xd).now.length from hfi)
      have HFB := hid hfb
      clear hol hkU
      rw [hfb]
      by_cases hx : xd = d
      · have hxb : ((xd : Int) != (d : Int)) = false := by simp [hx]
        rw [if_pos hx] at HTF
        cases hb : b with
        | false =>
          subst hb
          have hTU : stU d false k.U (k.F.take (j + 1)) = stU d false k.U (k.F.take j) := by rw [HTU.out, if_neg (by simp)]
          have HR := hid (show DA wr A c { k with U := stU d false k.U (k.F.take (j + 1)), F := ov (stF (k.F.take (j + 1)) d) k.F } by rw [hTU, HTF.out]; exact HDj.out)
          have HTFl := hid (show (stF (k.F.take (j + 1)) d).length = (stF (k.F.take j) d).length by rw [HTF.out])
          have ee := HEN.out
          generalize (stF (k.F.take j) d).length = l at *
          clear hTU HTF HTU HDj hx
          go_wp2_with fail
          refine (HSF.out _ _).mono ?_
          rintro e w1 ⟨rfl, rfl⟩
          have HW1 := hid (Gr.of_below ((Below.refl wr.heap.size wr).alloc (Nat.le_refl _) (.cells #[.int .i64 (xd : Int), .int .i64 (xa : Int), .int .u64 xv] 122)) [])
          generalize wr.alloc (.cells #[.int .i64 (xd : Int), .int .i64 (xa : Int), .int .u64 xv] 122) = w1 at *
          clear ee
          go_wp2_with fail
          go_roundw
          case rel => exact ⟨j + 1, by omega, by rw [HTFl.out], by go_num, hid (HR.out.gr HW1.out (fun _ _ => by simp)), hid (HGj.out.trans (HW1.out.mono (by simp)))⟩
          case measure => simp [intOf]; omega
        | true =>
          subst hb
          have hTU : stU d true k.U (k.F.take (j + 1)) = (stU d true k.U (k.F.take j)).set d { gu (stU d true k.U (k.F.take j)) d with dur := (gu (stU d true k.U (k.F.take j)) d).dur.set xa xv } := by rw [HTU.out, if_pos ⟨hx, rfl⟩]
          have HTFl := hid (show (stF (k.F.take (j + 1)) d).length = (stF (k.F.take j) d).length by rw [HTF.out])
          have HR := hid (fun (w : World) (hw : DA w A c { k with U := (stU d true k.U (k.F.take j)).set d { gu (stU d true k.U (k.F.take j)) d with dur := (gu (stU d true k.U (k.F.take j)) d).dur.set xa xv }, F := ov (stF (k.F.take j) d) k.F }) => show DA w A c { k with U := stU d true k.U (k.F.take (j + 1)), F := ov (stF (k.F.take (j + 1)) d) k.F } by rw [hTU, HTF.out]; exact hw)
          have ee := HEN.out
          subst hx
          have hdU : xd < (stU xd true k.U (k.F.take j)).length := by rw [HKU.out.1]; exact hfi.1
          generalize stU xd true k.U (k.F.take j) = Uj at *
          generalize stF (k.F.take j) xd = Gj at *
          clear hTU HTF HTU
          go_wp2_with fail
          refine (HSF.out _ _).mono ?_
          rintro e w1 ⟨rfl, rfl⟩
          have hW1 := (Below.refl wr.heap.size wr).alloc (Nat.le_refl _) (.cells #[.int .i64 (xd : Int), .int .i64 (xa : Int), .int .u64 xv] 122)
          have y0 : (wr.alloc (.cells #[.int .i64 (xd : Int), .int .i64 (xa : Int), .int .u64 xv] 122)).drew.cell? ⟨wr.heap.size, 1, none⟩ = some (.int .i64 (xa : Int)) := by go_simp
          have y1 : (wr.alloc (.cells #[.int .i64 (xd : Int), .int .i64 (xa : Int), .int .u64 xv] 122)).drew.cell? ⟨wr.heap.size, 2, none⟩ = some (.int .u64 xv) := by go_simp
          have hD0 := HDj.out.below (W' := (wr.alloc (.cells #[.int .i64 (xd : Int), .int .i64 (xa : Int), .int .u64 xv] 122)).drew) hW1.drew
          have hG0 := HGj.out.trans (Gr.of_below hW1.drew (fp A c))
          have hB0 : Below wr.heap.size wr (wr.alloc (.cells #[.int .i64 (xd : Int), .int .i64 (xa : Int), .int .u64 xv] 122)).drew := hW1.drew
          have HV0 := hid (show (wr.alloc (.cells #[.int .i64 (xd : Int), .int .i64 (xa : Int), .int .u64 xv] 122)).drew = (wr.alloc (.cells #[.int .i64 (xd : Int), .int .i64 (xa : Int), .int .u64 xv] 122)).drew from rfl)
          have HZ0 := hid (show (wr.alloc (.cells #[.int .i64 (xd : Int), .int .i64 (xa : Int), .int .u64 xv] 122)).drew = { (wr.alloc (.cells #[.int .i64 (xd : Int), .int .i64 (xa : Int), .int .u64 xv] 122)) with drawn := (wr.alloc (.cells #[.int .i64 (xd : Int), .int .i64 (xa : Int), .int .u64 xv] 122)).drawn + 1 } from rfl)
          generalize hVV : (wr.alloc (.cells #[.int .i64 (xd : Int), .int .i64 (xa : Int), .int .u64 xv] 122)).drew = V0 at hD0 hG0 hB0 y0 y1 HZ0
          clear hVV HV0 hW1
          have z0 := hD0.c0
          obtain ⟨ub, hub, hul, -, z1, -, -⟩ := hD0.unit (d := xd) (by exact hdU)
          have z2 := (hD0.rd xd hdU).at xa (by rw [hD0.ld xd hdU]; show xa < (gu Uj xd).now.length; rw [(HKU.out.2 xd).1]; exact hfi.2)
          have zf := (hD0.rd xd hdU).frozen xa
          have HS := hid (hD0.setDur (t := xa) (d := xd) hdU xv)
          have HSG := hid (hG0.trans ((set_gr V0 (gb c.bs xd).d xa (.int .u64 xv)).mono (T := fp A c) (fun x hx => by obtain rfl := List.mem_singleton.1 hx; exact fp_d (by rw [hD0.lb]; exact hdU))))
          rw [show ({ k with U := Uj, F := ov Gj k.F } : Dk).U = Uj from rfl, hub] at z0
          rw [show ({ k with U := Uj, F := ov Gj k.F } : Dk).U = Uj from rfl, (HKU.out.2 xd).1] at z1
          have Z0 := hid z0; have Z1 := hid z1; have Z2 := hid z2; have ZF := hid zf; have Y0 := hid y0; have Y1 := hid y1
          have HLU := hid (show xd < Uj.length ∧ Uj.length ≤ 8 from ⟨hdU, hD0.b8⟩)
          clear z0 z1 z2 zf y0 y1 hub hD0 hG0 hB0
          clear ee HDj
          go_wp2_with fail
          obtain ⟨Ws, w0, w1⟩ : ∃ Ws : Nat → World, Ws 0 = V0 ∧ Ws 1 = V0.setCell ⟨(gb c.bs xd).d, xa, none⟩ (.int .u64 xv) := ⟨fun q => match q with | 0 => V0 | _ => V0.setCell ⟨(gb c.bs xd).d, xa, none⟩ (.int .u64 xv), rfl, rfl⟩
          refine (wpIn_wide (n := 5)).1 ?_
          refine wpIn_region_plan_v (ro := none) (aF := ?aFh) [.pointer (some ⟨A, 0, none⟩), .pointer (some ⟨A, 0, none⟩), .pointer (some ⟨A, 0, none⟩), .slice (some ⟨ub, 0, none⟩) Uj.length c.uc, .int .i64 (xd : Int), .pointer (some ⟨ub, xd * 3, none⟩), .pointer (some ⟨ub, xd * 3 + 1, none⟩), .slice (some ⟨(gb c.bs xd).d, 0, none⟩) (gu k.U xd).now.length (gb c.bs xd).cd, .pointer (some ⟨wr.heap.size, 0, none⟩), .pointer (some ⟨wr.heap.size, 1, none⟩), .int .i64 (xa : Int), .pointer (some ⟨wr.heap.size, 2, none⟩), .int .u64 xv, .pointer (some ⟨(gb c.bs xd).d, xa, none⟩), undef] ?hEh [] [14] [[(0, 0)], [(0, 0)], [(0, 0)], [(0, 0)], [(0, 0)], [(0, 0)], [(0, 0)], [(0, 0)], [(0, 0)], [(0, 0)], [(0, 0)], [(0, 0)], [(0, 0)], [(0, 0)], [(0, 1)]] Ws 57 ?hNh hmx (by kernel_rfl) (by kernel_rfl) ?haFh (w0.trans HZ0.out) ?sth ?finh
          case hEh =>
            go_simp
            rfl
          case hNh => kernel_rfl
          case haFh => kernel_rfl
          case sth =>
           refine StepsP.cons rfl (any_steps (by kernel_rfl) ?sh0) (StepsP.cons rfl (any_steps (by kernel_rfl) ?sh1) (StepsP.cons rfl (any_steps (by kernel_rfl) ?sh2) (StepsP.cons rfl (step1 ?sh3_0) (StepsP.cons rfl (any_steps (by kernel_rfl) ?sh4) (StepsP.cons rfl (any_steps (by kernel_rfl) ?sh5) (StepsP.cons rfl (any_steps (by kernel_rfl) ?sh6) (StepsP.cons rfl (step1 ?sh7_0) (StepsP.cons rfl (any_steps (by kernel_rfl) ?sh8) (StepsP.cons rfl (any_steps (by kernel_rfl) ?sh9) (StepsP.cons rfl (step1 ?sh10_0) (StepsP.cons rfl (any_steps (by kernel_rfl) ?sh11) (StepsP.cons rfl (step1 ?sh12_0) (StepsP.cons rfl (any_steps (by kernel_rfl) ?sh13) (StepsP.cons rfl (step1 ?sh14_0) StepsP.nil))))))))))))))
           case sh0 =>
            intro _
            refine StepP.want (by kernel_rfl) ?_
            go_simp
           case sh1 =>
            intro _
            refine StepP.want (by kernel_rfl) ?_
            go_simp
           case sh2 =>
            intro _
            refine StepP.want (by kernel_rfl) ?_
            go_simp
           case sh3_0 =>
            rw [w0]
            refine StepP.want (by kernel_rfl) ?_
            have c := Z0.out
            go_simp
           case sh4 =>
            intro _
            refine StepP.want (by kernel_rfl) ?_
            go_simp
           case sh5 =>
            intro _
            refine StepP.want (by kernel_rfl) ?_
            have c := HLU.out.1
            go_simp
           case sh6 =>
            intro _
            refine StepP.want (by kernel_rfl) ?_
            go_simp
           case sh7_0 =>
            rw [w0]
            refine StepP.want (by kernel_rfl) ?_
            have c := Z1.out
            go_simp
           case sh8 =>
            intro _
            refine StepP.want (by kernel_rfl) ?_
            go_simp
           case sh9 =>
            intro _
            refine StepP.want (by kernel_rfl) ?_
            go_simp
           case sh10_0 =>
            rw [w0]
            refine StepP.want (by kernel_rfl) ?_
            have c := Y0.out
            go_simp
           case sh11 =>
            intro _
            refine StepP.want (by kernel_rfl) ?_
            go_simp
           case sh12_0 =>
            rw [w0]
            refine StepP.want (by kernel_rfl) ?_
            have c := Y1.out
            go_simp
           case sh13 =>
            intro _
            refine StepP.want (by kernel_rfl) ?_
            have c := HFI.out.2
            go_simp
           case sh14_0 =>
            rw [w0, w1]
            refine StepP.want (by kernel_rfl) ?_
            have c := Z2.out
            have c2 := ZF.out
            go_simp
          case finh =>
            have e9 : Ws ([14] : List Nat).length = V0.setCell ⟨(gb c.bs xd).d, xa, none⟩ (.int .u64 xv) := w1
            rw [e9]
            clear e9 w0 w1
            clear Z0 Z1 Z2 ZF Y0 Y1 HZ0
            generalize V0.setCell ⟨(gb c.bs xd).d, xa, none⟩ (.int .u64 xv) = w3 at *
            go_wp2_with fail
            go_roundw
            case rel => exact ⟨j + 1, by omega, by rw [HTFl.out], by go_num, hid (HR.out _ HS.out), HSG⟩
            case measure => simp [intOf]; omega
      · have hxb : ((xd : Int) != (d : Int)) = true := by simp; omega
        rw [if_neg hx] at HTF
        have hTU : stU d b k.U (k.F.take (j + 1)) = stU d b k.U (k.F.take j) := by rw [HTU.out, if_neg (by simp [hx])]
        have HTFl := hid (show (stF (k.F.take (j + 1)) d).length = (stF (k.F.take j) d).length + 1 by rw [HTF.out]; simp)
        have HR := hid (fun (w : World) (hw : DA w A c { k with U := stU d b k.U (k.F.take j), F := ov (stF (k.F.take j) d ++ [⟨xd, xa, xv⟩]) k.F }) => show DA w A c { k with U := stU d b k.U (k.F.take (j + 1)), F := ov (stF (k.F.take (j + 1)) d) k.F } by rw [hTU, HTF.out]; exact hw)
        generalize stU d b k.U (k.F.take j) = Uj at *
        generalize stF (k.F.take j) d = Gj at *
        clear hTU HTF HTU hx
        obtain ⟨WB, hWB⟩ : ∃ WB, WB = (wr.alloc (.cells #[.int .i64 (xd : Int), .int .i64 (xa : Int), .int .u64 xv] 122)).alloc (.cells #[.int .i64 (xd : Int), .int .i64 (xa : Int), .int .u64 xv] 122) := ⟨_, rfl⟩
        have hBB : Below wr.heap.size wr WB := by rw [hWB]; exact ((Below.refl _ _).alloc (Nat.le_refl _) _).alloc (by simp) _
        have y0 : WB.cell? ⟨wr.heap.size + 1, 0, none⟩ = some (.int .i64 (xd : Int)) := by rw [hWB]; go_simp
        have y1 : WB.cell? ⟨wr.heap.size + 1, 1, none⟩ = some (.int .i64 (xa : Int)) := by rw [hWB]; go_simp
        have y2 : WB.cell? ⟨wr.heap.size + 1, 2, none⟩ = some (.int .u64 xv) := by rw [hWB]; go_simp
        obtain ⟨w9, hrun, hD9, hg9⟩ := DA.room (k := { k with U := Uj }) (HDj.out.below hBB) (x := ⟨xd, xa, xv⟩) (G := Gj) (F := k.F) hfb HL.out ⟨by show xd < Uj.length; rw [HKU.out.1]; exact hfi.1, by show xa < (gu Uj xd).now.length; rw [(HKU.out.2 xd).1]; exact hfi.2⟩ ⟨wr.heap.size + 1, 0, none⟩ ⟨y0, y1, y2⟩ 116
        rw [hWB] at hrun
        have HRUN := hid hrun
        have HG9 := hid ((HGj.out.trans (Gr.of_below hBB (fp A c))).trans (hg9.mono (T := fp A c) (fun x hx => by obtain rfl := List.mem_singleton.1 hx; exact fp_f (by rw [hfb]; simp [oblk]))))
        have HD9 := hid (HR.out _ hD9)
        clear hWB hBB y0 y1 y2 hrun hD9 hg9 HR HDj
        go_wp2_with (at_builtin; refine wpList_append_run _ rfl (.tmp 30) (.tmp 32) 116 rfl _ _ _ _ rfl rfl HRUN.out ?_)
        clear HRUN
        go_wp2_with fail
        go_roundw
        case rel => exact ⟨j + 1, by omega, by rw [HTFl.out], by go_num, HD9, HG9⟩
        case measure => simp [intOf]; omega
    · have hjl : j = k.F.length := by omega
      have hlt' : ¬ (j : Int) < (k.F.length : Int) := by omega
      rw [hjl, List.take_length] at HDj
      rw [hjl, List.take_length] at hl ⊢
      rw [hjl, List.take_length] at hol
      have f2 := HDj.out.fz 2
      have c2 := HDj.out.c2
      have hblk : wr.ownsRow 0 118 6 (.slice (some ⟨A, 0, none⟩) 1 1) 1 [.slice c.ua (stU d b k.U k.F).length c.uc, .map (some c.mb), .slice c.fa (ov (stF k.F d) k.F).length c.fc, .int .i64 k.fuse, .bool k.down, .int .i64 k.wr] := HDj.out.blk
      have hrf : wr.ownsRow 0 122 3 (.slice c.fa (ov (stF k.F d) k.F).length c.fc) (ov (stF k.F d) k.F).length (ck 3 (ov (stF k.F d) k.F).length (ff (ov (stF k.F d) k.F))) := HDj.out.rf
      have hG := set_gr wr A 2 (.slice c.fa (stF k.F d).length c.fc)
      have hle : (stF k.F d).length ≤ (ov (stF k.F d) k.F).length := by unfold ov; rw [List.length_append]; omega
      have hfi := fi_of HDj.out.fi
      have HS := hid (HDj.out.setF (W' := wr.setCell ⟨A, 2, none⟩ (.slice c.fa (stF k.F d).length c.fc)) c.fa c.fc (stF k.F d) (hG.mono (fun x hx => by obtain rfl := List.mem_singleton.1 hx; exact List.mem_cons_self ..)) (World.ownsRow.stored hblk 2 _).1
        (by
          have h1 := own_gr (own_fewer hrf hle) hG (fun g hx => by have := oblk_of hx; rw [List.mem_singleton]; rintro rfl; exact HDj.out.sep.af this)
          rw [ck_take _ hle] at h1
          rw [ck_congr (g := ff (ov (stF k.F d) k.F)) (fun p q hp hq => by
            have e : gf (ov (stF k.F d) k.F) p = gf (stF k.F d) p := by unfold ov gf; rw [List.getElem?_append_left hp]
            unfold ff; rw [e])]
          exact h1)
        (fun g hg => .inl hg) (fun i hi => hfi _ (List.mem_append.2 (.inl (gf_mem hi)))))
      have HSG := hid (HGj.out.trans (hG.mono (T := fp A c) (fun x hx => by obtain rfl := List.mem_singleton.1 hx; exact fp_A)))
      clear hblk hrf hG hle hfi HDj hol hl
      go_wp2_with fail
      go_end0
      exact ⟨rfl, hid ⟨HS.out, HSG.out⟩⟩
end Go.Proofs.Ytbgbjgedjmhcaaa.OldD
namespace Go.Proofs.Ytbgbjgedjmhcaaa.OldD
open Go.ChangeShapes Go.WideShapes Go.ChangeAt Go.RowKit
attribute [local go_sem] Oper.semAt_some putAll
theorem surv42 (j : Int) (w : World) : Calls Try.prog 160 #[.int .i64 j] w fun e w' => e = .returned (.bool true) ∧ w' = w := by
  go_enter Try.func160, Try.ntmps160
  go_wp2_with fail
  go_ret
  exact ⟨rfl, rfl⟩
theorem surv61 (j : Int) (w : World) : Calls Try.prog 99 #[.int .i64 j] w fun e w' => e = .returned (.bool false) ∧ w' = w := by
  go_enter Try.func99, Try.ntmps99
  go_wp2_with fail
  go_ret
  exact ⟨rfl, rfl⟩
def flK (k : Dk) (d : Int) : Dk := if chk3 k d 0 = 0 then { k with U := stU d.toNat true k.U k.F, F := stF k.F d.toNat } else k
set_option maxRecDepth 100000 in
theorem flush_ok {W : World} {A : Nat} {c : Co} {k : Dk} (h : DA W A c k) (d : Int) (hF : k.F.length ≤ 2 ^ 32) :
    Calls Try.prog 153 #[.pointer (some ⟨A, 0, none⟩), .int .i64 d] W fun e W' => e = .returned (.int .i64 (chk3 k d 0)) ∧ Hid (DA W' A c (flK k d) ∧ Gr (fp A c) W W') := by
  have H := hid h
  have HF := hid (first3_in h d 0)
  have HK0 := hid (show flK k d = if chk3 k d 0 = 0 then { k with U := stU d.toNat true k.U k.F, F := stF k.F d.toNat } else k from rfl)
  clear h
  by_cases hz : chk3 k d 0 = 0
  · rw [if_pos hz] at HK0
    obtain ⟨k1, k2, k3⟩ := chk3_ok hz
    obtain ⟨n, m, rfl, hm, hn, hm2⟩ := hs_iff.1 k2
    rw [hz] at HF ⊢
    rw [show ((n : Int)).toNat = n from rfl] at HK0
    have HN := hid hn
    have HFF := hid hF
    clear k1 k2 k3 hz hm hm2 hn hF
    go_enter Try.func153, Try.ntmps153
    go_wp2_with fail
    refine HF.out.mono ?_
    rintro e w1 ⟨rfl, HB⟩
    have H1 := hid (H.out.below HB.out)
    have HG := hid (Gr.of_below HB.out (fp A c))
    clear HF HB
    go_wp2_with fail
    refine (settle_ok H1.out n HN.out HFF.out 160 true (fun args w => enters_of Try.func160 (by kernel_rfl) rfl args w) surv42).mono ?_
    rintro e w2 ⟨rfl, HS⟩
    go_wp2_with fail
    go_ret
    exact ⟨rfl, hid ⟨by rw [HK0.out]; exact HS.out.1, HG.out.trans HS.out.2⟩⟩
  · rw [if_neg hz] at HK0
    rw [HK0.out]
    have hzb : (chk3 k d 0 != 0) = true := by simpa using hz
    generalize chk3 k d 0 = x at *
    go_enter Try.func153, Try.ntmps153
    go_wp2_with fail
    refine HF.out.mono ?_
    rintro e w1 ⟨rfl, HB⟩
    have H1 := hid (H.out.below HB.out)
    have HG := hid (Gr.of_below HB.out (fp A c))
    go_wp2_with fail
    go_ret
    exact ⟨rfl, hid ⟨H1.out, HG.out⟩⟩
end Go.Proofs.Ytbgbjgedjmhcaaa.OldD
namespace Go.Proofs.Ytbgbjgedjmhcaaa.OldD
open Go.ChangeShapes Go.WideShapes Go.ChangeAt Go.RowKit
attribute [local go_sem] Oper.semAt_some putAll
def rs1 (F : List Wr) (kp : Nat → Bool) (U : List Un) : Nat → List Un
  | 0 => U
  | j + 1 => if kp j = true then (rs1 F kp U j).set (gf F j).d { gu (rs1 F kp U j) (gf F j).d with dur := (gu (rs1 F kp U j) (gf F j).d).dur.set (gf F j).at' (gf F j).v } else rs1 F kp U j
def rs2 (F : List Wr) (U : List Un) : Nat → List Un
  | 0 => U
  | j + 1 => (rs2 F U j).set (gf F j).d { gu (rs2 F U j) (gf F j).d with now := (gu (rs2 F U j) (gf F j).d).now.set (gf F j).at' (ge (gu (rs2 F U j) (gf F j).d).dur (gf F j).at') }
theorem rs1_keep (F : List Wr) (kp : Nat → Bool) (U : List Un) (j : Nat) : (rs1 F kp U j).length = U.length ∧ ∀ i, (gu (rs1 F kp U j) i).now = (gu U i).now ∧ (gu (rs1 F kp U j) i).mis = (gu U i).mis ∧ (gu (rs1 F kp U j) i).dur.length = (gu U i).dur.length := by
  induction j with
  | zero => exact ⟨rfl, fun i => ⟨rfl, rfl, rfl⟩⟩
  | succ j ih =>
    unfold rs1
    split
    · refine ⟨by rw [List.length_set]; exact ih.1, fun i => ?_⟩
      rw [gu_set]
      split
      · rename_i e; rw [e.1]; exact ⟨(ih.2 _).1, (ih.2 _).2.1, by rw [List.length_set]; exact (ih.2 _).2.2⟩
      · exact ih.2 i
    · exact ih
theorem rs2_keep (F : List Wr) (U : List Un) (j : Nat) : (rs2 F U j).length = U.length ∧ ∀ i, (gu (rs2 F U j) i).dur = (gu U i).dur ∧ (gu (rs2 F U j) i).mis = (gu U i).mis ∧ (gu (rs2 F U j) i).now.length = (gu U i).now.length := by
  induction j with
  | zero => exact ⟨rfl, fun i => ⟨rfl, rfl, rfl⟩⟩
  | succ j ih =>
    unfold rs2
    refine ⟨by rw [List.length_set]; exact ih.1, fun i => ?_⟩
    rw [gu_set]
    split
    · rename_i e; rw [e.1]; exact ⟨(ih.2 _).1, (ih.2 _).2.1, by rw [List.length_set]; exact (ih.2 _).2.2⟩
    · exact ih.2 i
def reK (k : Dk) (kp : Nat → Bool) : Dk := { k with U := rs2 k.F (rs1 k.F kp k.U k.F.length) k.F.length, F := [], fuse := 0, down := false }
structure KB (W : World) (S : List Nat) (ka : Option Addr) (kn : Nat) (kp : Nat → Bool) : Prop where
  row : kn = 0 ∨ ∃ b, ka = some ⟨b, 0, none⟩ ∧ b < W.heap.size ∧ b ∉ S ∧ ∀ i, i < kn → W.cell? ⟨b, i, none⟩ = some (.bool (kp i))
  out : ∀ i, kn ≤ i → kp i = false
theorem KB.gr {W W' : World} {S : List Nat} {ka : Option Addr} {kn : Nat} {kp : Nat → Bool} (h : KB W S ka kn kp) (hg : Gr S W W') : KB W' S ka kn kp := by
  refine ⟨?_, h.out⟩
  rcases h.row with h0 | ⟨b, h1, h2, h3, h4⟩
  · exact .inl h0
  · exact .inr ⟨b, h1, Nat.lt_of_lt_of_le h2 hg.size, h3, fun i hi => (hg.cell (p := ⟨b, i, none⟩) h2 h3).trans (h4 i hi)⟩
theorem DA.wr3 {W : World} {A : Nat} {c : Co} {k : Dk} (h : DA W A c k) {j : Nat} (hj : j < k.F.length) : ∃ fb, c.fa = some ⟨fb, 0, none⟩ ∧ fb < W.heap.size ∧ W.cell? ⟨fb, j * 3, none⟩ = some (.int .i64 ((gf k.F j).d : Int)) ∧ W.cell? ⟨fb, j * 3 + 1, none⟩ = some (.int .i64 ((gf k.F j).at' : Int)) ∧ W.cell? ⟨fb, j * 3 + 2, none⟩ = some (.int .u64 (gf k.F j).v) := by
  obtain ⟨fb, hfb⟩ := own_pos h.rf (by omega)
  have hrf := h.rf
  rw [hfb] at hrf
  refine ⟨fb, hfb, own_lt hrf, ?_, ?_, ?_⟩
  · show W.cell? ⟨fb, j * 3 + 0, none⟩ = _
    rw [World.ownsRow.cellAt hrf _ (lt_mul (j := 0) hj (by omega)), ck_at (j := 0) _ hj (by omega)]; rfl
  · rw [World.ownsRow.cellAt hrf _ (lt_mul (j := 1) hj (by omega)), ck_at (j := 1) _ hj (by omega)]; rfl
  · rw [World.ownsRow.cellAt hrf _ (lt_mul (j := 2) hj (by omega)), ck_at (j := 2) _ hj (by omega)]; rfl
set_option maxRecDepth 100000 in
theorem restart_ok {W : World} {A : Nat} {c : Co} {k : Dk} (h : DA W A c k) (ka : Option Addr) (kn kc : Nat) (kp : Nat → Bool) (hK : KB W (fp A c) ka kn kp) (hkn : kn ≤ 2 ^ 32) (hF : k.F.length ≤ 2 ^ 32) :
    Calls Try.prog 31 #[.pointer (some ⟨A, 0, none⟩), .slice ka kn kc] W fun e W' => e = .returned (.tuple #[]) ∧ Hid (DA W' A { c with fa := none, fc := 0 } (reK k kp) ∧ Gr (fp A c) W W') := by
  have H := hid h
  have HK := hid hK
  have hb8 := h.b8
  have c2 := h.c2
  have hmx : Try.prog.follows .mixedOrders = true := by kernel_rfl
  clear h hK
  go_enter Try.func31, Try.ntmps31
  go_wp2_with fail
  clear c2
  go_loopw [16] (fun iv wr => ∃ j : Nat, j ≤ k.F.length ∧ iv = .int .i64 (j : Int) ∧ Hid (DA wr A c { k with U := rs1 k.F kp k.U j }) ∧ Hid (Gr (fp A c) W wr)) (fun iv _ => k.F.length - (intOf iv).toNat)
  case atStart => exact ⟨0, by omega, rfl, H, hid (Gr.refl _ _)⟩
  case round =>
    obtain ⟨j, hj, rfl, HDj, HGj⟩ := hrel
    by_cases hlt : j < k.F.length
    · have hlt' : (j : Int) < (k.F.length : Int) := by omega
      have hw3 : ∃ fb, c.fa = some ⟨fb, 0, none⟩ ∧ fb < wr.heap.size ∧ wr.cell? ⟨fb, j * 3, none⟩ = some (.int .i64 ((gf k.F j).d : Int)) ∧ wr.cell? ⟨fb, j * 3 + 1, none⟩ = some (.int .i64 ((gf k.F j).at' : Int)) ∧ wr.cell? ⟨fb, j * 3 + 2, none⟩ = some (.int .u64 (gf k.F j).v) := HDj.out.wr3 hlt
      obtain ⟨fb, hfb, hfbl, x0, x1, x2⟩ := hw3
      have hfi := H.out.fi j hlt
      have HR1 := hid (show rs1 k.F kp k.U (j + 1) = if kp j = true then (rs1 k.F kp k.U j).set (gf k.F j).d { gu (rs1 k.F kp k.U j) (gf k.F j).d with dur := (gu (rs1 k.F kp k.U j) (gf k.F j).d).dur.set (gf k.F j).at' (gf k.F j).v } else rs1 k.F kp k.U j from rfl)
      have HKU := hid (show (rs1 k.F kp k.U j).length = k.U.length ∧ ∀ i, (gu (rs1 k.F kp k.U j) i).now = (gu k.U i).now ∧ (gu (rs1 k.F kp k.U j) i).mis = (gu k.U i).mis from ⟨(rs1_keep _ _ _ _).1, fun i => ⟨((rs1_keep _ _ _ _).2 i).1, ((rs1_keep _ _ _ _).2 i).2.1⟩⟩)
      generalize hwx : gf k.F j = x at *
      obtain ⟨xd, xa, xv⟩ := x
      have hb2 := H.out.bn _ hfi.1
      have HFI := hid (show xd < k.U.length ∧ xa < (gu k.U xd).now.length from hfi)
      clear hwx
      have hkcase : (kp j = true ∧ j < kn ∧ ∃ b, ka = some ⟨b, 0, none⟩ ∧ b < wr.heap.size ∧ wr.cell? ⟨b, j, none⟩ = some (.bool true)) ∨ (kp j = false ∧ j < kn ∧ ∃ b, ka = some ⟨b, 0, none⟩ ∧ b < wr.heap.size ∧ wr.cell? ⟨b, j, none⟩ = some (.bool false)) ∨ (kp j = false ∧ ¬ j < kn) := by
        have hKr := HK.out.gr HGj.out
        by_cases hjk : j < kn
        · rcases hKr.row with h0 | ⟨b, h1, h2, h3, h4⟩
          · omega
          · have h5 := h4 j hjk
            cases hkp : kp j with
            | true => rw [hkp] at h5; exact .inl ⟨rfl, hjk, b, h1, h2, h5⟩
            | false => rw [hkp] at h5; exact .inr (.inl ⟨rfl, hjk, b, h1, h2, h5⟩)
        · exact .inr (.inr ⟨hKr.out j (by omega), hjk⟩)
      rcases hkcase with ⟨hkp, hjk, b, rfl, hbl, hcb⟩ | ⟨hkp, hjk, b, rfl, hbl, hcb⟩ | ⟨hkp, hjk⟩
      · have HR := hid (fun (w : World) (hw : DA w A c { k with U := (rs1 k.F kp k.U j).set xd { gu (rs1 k.F kp k.U j) xd with dur := (gu (rs1 k.F kp k.U j) xd).dur.set xa xv } }) => show DA w A c { k with U := rs1 k.F kp k.U (j + 1) } by rw [HR1.out, if_pos hkp]; exact hw)
        have hdU : xd < (rs1 k.F kp k.U j).length := by rw [HKU.out.1]; exact hfi.1
        have hjk' : (j : Int) < (kn : Int) := by omega
        generalize rs1 k.F kp k.U j = Uj at *
        clear HR1 hkp
        rw [hfb]
        have hW1 := (Below.refl wr.heap.size wr).alloc (Nat.le_refl _) (.cells #[.int .i64 (xd : Int), .int .i64 (xa : Int), .int .u64 xv] 122)
        have yd : (wr.alloc (.cells #[.int .i64 (xd : Int), .int .i64 (xa : Int), .int .u64 xv] 122)).drew.cell? ⟨wr.heap.size, 0, none⟩ = some (.int .i64 (xd : Int)) := by go_simp
        have y0 : (wr.alloc (.cells #[.int .i64 (xd : Int), .int .i64 (xa : Int), .int .u64 xv] 122)).drew.cell? ⟨wr.heap.size, 1, none⟩ = some (.int .i64 (xa : Int)) := by go_simp
        have y1 : (wr.alloc (.cells #[.int .i64 (xd : Int), .int .i64 (xa : Int), .int .u64 xv] 122)).drew.cell? ⟨wr.heap.size, 2, none⟩ = some (.int .u64 xv) := by go_simp
        have hD0 := HDj.out.below hW1.drew
        have hG0 := HGj.out.trans (Gr.of_below hW1.drew (fp A c))
        obtain ⟨V0, hV0⟩ : ∃ V0, V0 = (wr.alloc (.cells #[.int .i64 (xd : Int), .int .i64 (xa : Int), .int .u64 xv] 122)).drew := ⟨_, rfl⟩
        rw [← hV0] at yd y0 y1 hD0 hG0
        have HZ0 := hid (show V0 = { (wr.alloc (.cells #[.int .i64 (xd : Int), .int .i64 (xa : Int), .int .u64 xv] 122)) with drawn := (wr.alloc (.cells #[.int .i64 (xd : Int), .int .i64 (xa : Int), .int .u64 xv] 122)).drawn + 1 } from hV0)
        have z0 := hD0.c0
        obtain ⟨ub, hub, hul, -, z1, -, -⟩ := hD0.unit (d := xd) (by exact hdU)
        have z2 := (hD0.rd xd hdU).at xa (by rw [hD0.ld xd hdU]; show xa < (gu Uj xd).now.length; rw [(HKU.out.2 xd).1]; exact hfi.2)
        have zf := (hD0.rd xd hdU).frozen xa
        have HS := hid (hD0.setDur (t := xa) (d := xd) hdU xv)
        have HSG := hid (hG0.trans ((set_gr V0 (gb c.bs xd).d xa (.int .u64 xv)).mono (T := fp A c) (fun x hx => by obtain rfl := List.mem_singleton.1 hx; exact fp_d (by rw [hD0.lb]; exact hdU))))
        rw [show ({ k with U := Uj } : Dk).U = Uj from rfl, hub] at z0
        rw [show ({ k with U := Uj } : Dk).U = Uj from rfl, (HKU.out.2 xd).1] at z1
        have Z0 := hid z0; have Z1 := hid z1; have Z2 := hid z2; have ZF := hid zf; have YD := hid yd; have Y0 := hid y0; have Y1 := hid y1
        have HLU := hid (show xd < Uj.length ∧ Uj.length ≤ 8 from ⟨hdU, hD0.b8⟩)
        clear z0 z1 z2 zf yd y0 y1 hub hD0 hG0 hV0 hW1 HDj
        go_wp2_with fail
        obtain ⟨Ws, w0, w1⟩ : ∃ Ws : Nat → World, Ws 0 = V0 ∧ Ws 1 = V0.setCell ⟨(gb c.bs xd).d, xa, none⟩ (.int .u64 xv) := ⟨fun q => match q with | 0 => V0 | _ => V0.setCell ⟨(gb c.bs xd).d, xa, none⟩ (.int .u64 xv), rfl, rfl⟩
        refine (wpIn_wide (n := 5)).1 ?_
        refine wpIn_region_plan_v (ro := none) (aF := ?aFh) [.pointer (some ⟨A, 0, none⟩), .pointer (some ⟨A, 0, none⟩), .pointer (some ⟨A, 0, none⟩), .slice (some ⟨ub, 0, none⟩) Uj.length c.uc, .pointer (some ⟨wr.heap.size, 0, none⟩), .pointer (some ⟨wr.heap.size, 0, none⟩), .int .i64 (xd : Int), .pointer (some ⟨ub, xd * 3, none⟩), .pointer (some ⟨ub, xd * 3 + 1, none⟩), .slice (some ⟨(gb c.bs xd).d, 0, none⟩) (gu k.U xd).now.length (gb c.bs xd).cd, .pointer (some ⟨wr.heap.size, 0, none⟩), .pointer (some ⟨wr.heap.size, 1, none⟩), .int .i64 (xa : Int), .pointer (some ⟨wr.heap.size, 2, none⟩), .int .u64 xv, .pointer (some ⟨(gb c.bs xd).d, xa, none⟩), undef] ?hEh [] [16] [[(0, 0)], [(0, 0)], [(0, 0)], [(0, 0)], [(0, 0)], [(0, 0)], [(0, 0)], [(0, 0)], [(0, 0)], [(0, 0)], [(0, 0)], [(0, 0)], [(0, 0)], [(0, 0)], [(0, 0)], [(0, 0)], [(0, 1)]] Ws 86 ?hNh hmx (by kernel_rfl) (by kernel_rfl) ?haFh (w0.trans HZ0.out) ?sth ?finh
        case hEh =>
          go_simp
          rfl
        case hNh => kernel_rfl
        case haFh => kernel_rfl
        case sth =>
         refine StepsP.cons rfl (any_steps (by kernel_rfl) ?sh0) (StepsP.cons rfl (any_steps (by kernel_rfl) ?sh1) (StepsP.cons rfl (any_steps (by kernel_rfl) ?sh2) (StepsP.cons rfl (step1 ?sh3_0) (StepsP.cons rfl (any_steps (by kernel_rfl) ?sh4) (StepsP.cons rfl (any_steps (by kernel_rfl) ?sh5) (StepsP.cons rfl (step1 ?sh6_0) (StepsP.cons rfl (any_steps (by kernel_rfl) ?sh7) (StepsP.cons rfl (any_steps (by kernel_rfl) ?sh8) (StepsP.cons rfl (step1 ?sh9_0) (StepsP.cons rfl (any_steps (by kernel_rfl) ?sh10) (StepsP.cons rfl (any_steps (by kernel_rfl) ?sh11) (StepsP.cons rfl (step1 ?sh12_0) (StepsP.cons rfl (any_steps (by kernel_rfl) ?sh13) (StepsP.cons rfl (step1 ?sh14_0) (StepsP.cons rfl (any_steps (by kernel_rfl) ?sh15) (StepsP.cons rfl (step1 ?sh16_0) StepsP.nil))))))))))))))))
         case sh0 =>
          intro _
          refine StepP.want (by kernel_rfl) ?_
          go_simp
         case sh1 =>
          intro _
          refine StepP.want (by kernel_rfl) ?_
          go_simp
         case sh2 =>
          intro _
          refine StepP.want (by kernel_rfl) ?_
          go_simp
         case sh3_0 =>
          rw [w0]
          refine StepP.want (by kernel_rfl) ?_
          have c := Z0.out
          go_simp
         case sh4 =>
          intro _
          refine StepP.want (by kernel_rfl) ?_
          go_simp
         case sh5 =>
          intro _
          refine StepP.want (by kernel_rfl) ?_
          go_simp
         case sh6_0 =>
          rw [w0]
          refine StepP.want (by kernel_rfl) ?_
          have c := YD.out
          go_simp
         case sh7 =>
          intro _
          refine StepP.want (by kernel_rfl) ?_
          have c := HLU.out.1
          go_simp
         case sh8 =>
          intro _
          refine StepP.want (by kernel_rfl) ?_
          go_simp
         case sh9_0 =>
          rw [w0]
          refine StepP.want (by kernel_rfl) ?_
          have c := Z1.out
          go_simp
         case sh10 =>
          intro _
          refine StepP.want (by kernel_rfl) ?_
          go_simp
         case sh11 =>
          intro _
          refine StepP.want (by kernel_rfl) ?_
          go_simp
         case sh12_0 =>
          rw [w0]
          refine StepP.want (by kernel_rfl) ?_
          have c := Y0.out
          go_simp
         case sh13 =>
          intro _
          refine StepP.want (by kernel_rfl) ?_
          go_simp
         case sh14_0 =>
          rw [w0]
          refine StepP.want (by kernel_rfl) ?_
          have c := Y1.out
          go_simp
         case sh15 =>
          intro _
          refine StepP.want (by kernel_rfl) ?_
          have c := HFI.out.2
          go_simp
         case sh16_0 =>
          rw [w0, w1]
          refine StepP.want (by kernel_rfl) ?_
          have c := Z2.out
          have c2 := ZF.out
          go_simp
        case finh =>
          have e9 : Ws ([16] : List Nat).length = V0.setCell ⟨(gb c.bs xd).d, xa, none⟩ (.int .u64 xv) := w1
          rw [e9]
          clear e9 w0 w1
          clear Z0 Z1 Z2 ZF YD Y0 Y1 HZ0
          generalize V0.setCell ⟨(gb c.bs xd).d, xa, none⟩ (.int .u64 xv) = w3 at *
          go_wp2_with fail
          go_roundw
          case rel => exact ⟨j + 1, by omega, by go_num, hid (HR.out _ HS.out), HSG⟩
          case measure => simp [intOf]; omega
      · have HR := hid (show DA wr A c { k with U := rs1 k.F kp k.U (j + 1) } by rw [HR1.out, if_neg (by rw [hkp]; simp)]; exact HDj.out)
        have HW1 := hid (Gr.of_below ((Below.refl wr.heap.size wr).alloc (Nat.le_refl _) (.cells #[.int .i64 (xd : Int), .int .i64 (xa : Int), .int .u64 xv] 122)) [])
        have hjk' : (j : Int) < (kn : Int) := by omega
        rw [hfb]
        clear HR1 hkp HDj HKU
        go_wp2_with fail
        go_roundw
        case rel => exact ⟨j + 1, by omega, by go_num, hid (HR.out.gr HW1.out (fun _ _ => by simp)), hid (HGj.out.trans (HW1.out.mono (by simp)))⟩
        case measure => simp [intOf]; omega
      · have HR := hid (show DA wr A c { k with U := rs1 k.F kp k.U (j + 1) } by rw [HR1.out, if_neg (by rw [hkp]; simp)]; exact HDj.out)
        have HW1 := hid (Gr.of_below ((Below.refl wr.heap.size wr).alloc (Nat.le_refl _) (.cells #[.int .i64 (xd : Int), .int .i64 (xa : Int), .int .u64 xv] 122)) [])
        have hjk' : decide (j < kn) = false := decide_eq_false (by omega)
        rw [hfb]
        clear HR1 hkp HDj HKU hjk
        go_wp2_with fail
        go_roundw
        case rel => exact ⟨j + 1, by omega, by go_num, hid (HR.out.gr HW1.out (fun _ _ => by simp)), hid (HGj.out.trans (HW1.out.mono (by simp)))⟩
        case measure => simp [intOf]; omega
    · have hjl : j = k.F.length := by omega
      have hlt' : ¬ (j : Int) < (k.F.length : Int) := by omega
      rw [hjl] at HDj ⊢
      clear hjl hlt hlt' hj
      generalize hU1 : rs1 k.F kp k.U k.F.length = U1 at *
      have HU1 := hid hU1
      have HKU1 := hid (show U1.length = k.U.length ∧ ∀ i, (gu U1 i).now = (gu k.U i).now ∧ (gu U1 i).mis = (gu k.U i).mis from by rw [← hU1]; exact ⟨(rs1_keep _ _ _ _).1, fun i => ⟨((rs1_keep _ _ _ _).2 i).1, ((rs1_keep _ _ _ _).2 i).2.1⟩⟩)
      clear hU1
      generalize wr = w1 at *
      go_wp2_with fail
      go_loopw [50] (fun iv wr => ∃ j : Nat, j ≤ k.F.length ∧ iv = .int .i64 (j : Int) ∧ Hid (DA wr A c { k with U := rs2 k.F U1 j }) ∧ Hid (Gr (fp A c) W wr)) (fun iv _ => k.F.length - (intOf iv).toNat)
      case atStart => exact ⟨0, by omega, rfl, HDj, HGj⟩
      case round =>
        clear HDj HGj
        obtain ⟨j, hj, rfl, HDj, HGj⟩ := hrel
        by_cases hlt : j < k.F.length
        · have hlt' : (j : Int) < (k.F.length : Int) := by omega
          have hw3 : ∃ fb, c.fa = some ⟨fb, 0, none⟩ ∧ fb < wr.heap.size ∧ wr.cell? ⟨fb, j * 3, none⟩ = some (.int .i64 ((gf k.F j).d : Int)) ∧ wr.cell? ⟨fb, j * 3 + 1, none⟩ = some (.int .i64 ((gf k.F j).at' : Int)) ∧ wr.cell? ⟨fb, j * 3 + 2, none⟩ = some (.int .u64 (gf k.F j).v) := HDj.out.wr3 hlt
          obtain ⟨fb, hfb, hfbl, x0, x1, x2⟩ := hw3
          have hfi := H.out.fi j hlt
          have HR1 := hid (show rs2 k.F U1 (j + 1) = (rs2 k.F U1 j).set (gf k.F j).d { gu (rs2 k.F U1 j) (gf k.F j).d with now := (gu (rs2 k.F U1 j) (gf k.F j).d).now.set (gf k.F j).at' (ge (gu (rs2 k.F U1 j) (gf k.F j).d).dur (gf k.F j).at') } from rfl)
          have HKU := hid (show (rs2 k.F U1 j).length = k.U.length ∧ (gu (rs2 k.F U1 j) (gf k.F j).d).now.length = (gu k.U (gf k.F j).d).now.length from ⟨(rs2_keep _ _ _).1.trans HKU1.out.1, by rw [((rs2_keep _ _ _).2 _).2.2, (HKU1.out.2 _).1]⟩)
          have HKM := hid (show (gu (rs2 k.F U1 j) (gf k.F j).d).mis = (gu k.U (gf k.F j).d).mis from ((rs2_keep _ _ _).2 _).2.1.trans (HKU1.out.2 _).2)
          generalize hwx : gf k.F j = x at *
          obtain ⟨xd, xa, xv⟩ := x
          have hb2 := H.out.bn _ hfi.1
          have HFI := hid (show xd < k.U.length ∧ xa < (gu k.U xd).now.length from hfi)
          clear hwx
          have HR := hid (fun (w : World) (hw : DA w A c { k with U := (rs2 k.F U1 j).set xd { gu (rs2 k.F U1 j) xd with now := (gu (rs2 k.F U1 j) xd).now.set xa (ge (gu (rs2 k.F U1 j) xd).dur xa) } }) => show DA w A c { k with U := rs2 k.F U1 (j + 1) } by rw [HR1.out]; exact hw)
          have hdU : xd < (rs2 k.F U1 j).length := by rw [HKU.out.1]; exact hfi.1
          generalize rs2 k.F U1 j = Uj at *
          clear HR1
          rw [hfb]
          have hW1 := (Below.refl wr.heap.size wr).alloc (Nat.le_refl _) (.cells #[.int .i64 (xd : Int), .int .i64 (xa : Int), .int .u64 xv] 122)
          have yd : (wr.alloc (.cells #[.int .i64 (xd : Int), .int .i64 (xa : Int), .int .u64 xv] 122)).drew.cell? ⟨wr.heap.size, 0, none⟩ = some (.int .i64 (xd : Int)) := by go_simp
          have y0 : (wr.alloc (.cells #[.int .i64 (xd : Int), .int .i64 (xa : Int), .int .u64 xv] 122)).drew.cell? ⟨wr.heap.size, 1, none⟩ = some (.int .i64 (xa : Int)) := by go_simp
          have hD0 := HDj.out.below hW1.drew
          have hG0 := HGj.out.trans (Gr.of_below hW1.drew (fp A c))
          have hsz : (wr.alloc (.cells #[.int .i64 (xd : Int), .int .i64 (xa : Int), .int .u64 xv] 122)).drew.heap.size = wr.heap.size + 1 := by simp
          obtain ⟨V0, hV0⟩ : ∃ V0, V0 = (wr.alloc (.cells #[.int .i64 (xd : Int), .int .i64 (xa : Int), .int .u64 xv] 122)).drew := ⟨_, rfl⟩
          rw [← hV0] at yd y0 hD0 hG0 hsz
          have HZ0 := hid (show V0 = { (wr.alloc (.cells #[.int .i64 (xd : Int), .int .i64 (xa : Int), .int .u64 xv] 122)) with drawn := (wr.alloc (.cells #[.int .i64 (xd : Int), .int .i64 (xa : Int), .int .u64 xv] 122)).drawn + 1 } from hV0)
          have z0 := hD0.c0
          obtain ⟨ub, hub, hul, z1, z2, z3, -⟩ := hD0.unit (d := xd) (by exact hdU)
          have hAl := hD0.lt
          rw [show ({ k with U := Uj } : Dk).U = Uj from rfl, hub] at z0
          rw [show ({ k with U := Uj } : Dk).U = Uj from rfl, HKU.out.2] at z1 z2
          rw [show ({ k with U := Uj } : Dk).U = Uj from rfl, HKM.out] at z3
          have Z0 := hid z0; have Z1 := hid z1; have Z2 := hid z2; have Z3 := hid z3; have YD := hid yd; have Y0 := hid y0
          have HLU := hid (show xd < Uj.length ∧ Uj.length ≤ 8 from ⟨hdU, hD0.b8⟩)
          have HLS := hid (show A < V0.heap.size ∧ wr.heap.size < V0.heap.size ∧ ub < V0.heap.size from ⟨hAl, by omega, hul⟩)
          have HD0 := hid hD0; have HG0 := hid hG0
          clear z0 z1 z2 z3 yd y0 hub hD0 hG0 hV0 hW1 HDj hsz hAl HKM
          go_wp2_with fail
          obtain ⟨Ws, w0, w1, w2⟩ : ∃ Ws : Nat → World, Ws 0 = V0 ∧ Ws 1 = V0.alloc (.cells #[.slice none 0 0, .slice none 0 0, .bool false] 113) ∧ Ws 2 = V0.alloc (.cells #[.slice (some ⟨(gb c.bs xd).n, 0, none⟩) (gu k.U xd).now.length (gb c.bs xd).cn, .slice (some ⟨(gb c.bs xd).d, 0, none⟩) (gu k.U xd).now.length (gb c.bs xd).cd, .bool (gu k.U xd).mis] 113) := ⟨fun q => match q with | 0 => V0 | 1 => V0.alloc (.cells #[.slice none 0 0, .slice none 0 0, .bool false] 113) | _ => V0.alloc (.cells #[.slice (some ⟨(gb c.bs xd).n, 0, none⟩) (gu k.U xd).now.length (gb c.bs xd).cn, .slice (some ⟨(gb c.bs xd).d, 0, none⟩) (gu k.U xd).now.length (gb c.bs xd).cd, .bool (gu k.U xd).mis] 113), rfl, rfl, rfl⟩
          refine (wpIn_wide (n := 5)).1 ?_
          refine wpIn_region_plan_v (ro := none) (aF := ?aFn) [.pointer (some ⟨A, 0, none⟩), .pointer (some ⟨A, 0, none⟩), .pointer (some ⟨A, 0, none⟩), .slice (some ⟨ub, 0, none⟩) Uj.length c.uc, .pointer (some ⟨wr.heap.size, 0, none⟩), .pointer (some ⟨wr.heap.size, 0, none⟩), .int .i64 (xd : Int), .pointer (some ⟨ub, xd * 3, none⟩), .agg #[.slice (some ⟨(gb c.bs xd).n, 0, none⟩) (gu k.U xd).now.length (gb c.bs xd).cn, .slice (some ⟨(gb c.bs xd).d, 0, none⟩) (gu k.U xd).now.length (gb c.bs xd).cd, .bool (gu k.U xd).mis], .pointer (some ⟨V0.heap.size, 0, none⟩), undef] ?hEn [] [9, 10] [[(0, 0), (1, 1)], [(0, 0), (1, 1)], [(0, 0), (1, 1)], [(0, 0), (1, 1)], [(0, 0), (1, 1)], [(0, 0), (1, 1)], [(0, 0), (1, 1)], [(0, 0), (1, 1)], [(0, 0), (1, 1)], [(0, 1)], [(1, 2)]] Ws 86 ?hNn hmx (by kernel_rfl) (by kernel_rfl) ?haFn (w0.trans HZ0.out) ?stn ?finn
          case hEn =>
            go_simp
            rfl
          case hNn => kernel_rfl
          case haFn => kernel_rfl
          case stn =>
           refine StepsP.cons rfl (any_steps (by kernel_rfl) ?sn0) (StepsP.cons rfl (any_steps (by kernel_rfl) ?sn1) (StepsP.cons rfl (any_steps (by kernel_rfl) ?sn2) (StepsP.cons rfl (step2 ?sn3_0 ?sn3_1) (StepsP.cons rfl (any_steps (by kernel_rfl) ?sn4) (StepsP.cons rfl (any_steps (by kernel_rfl) ?sn5) (StepsP.cons rfl (step2 ?sn6_0 ?sn6_1) (StepsP.cons rfl (any_steps (by kernel_rfl) ?sn7) (StepsP.cons rfl (step2 ?sn8_0 ?sn8_1) (StepsP.cons rfl (step1 ?sn9_0) (StepsP.cons rfl (step1 ?sn10_0) StepsP.nil))))))))))
           case sn0 =>
            intro _
            refine StepP.want (by kernel_rfl) ?_
            go_simp
           case sn1 =>
            intro _
            refine StepP.want (by kernel_rfl) ?_
            go_simp
           case sn2 =>
            intro _
            refine StepP.want (by kernel_rfl) ?_
            go_simp
           case sn3_0 =>
            rw [w0]
            refine StepP.want (by kernel_rfl) ?_
            have c := Z0.out
            have c2 := HLS.out.1
            go_simp
           case sn3_1 =>
            rw [w1]
            refine StepP.want (by kernel_rfl) ?_
            have c := Z0.out
            have c2 := HLS.out.1
            go_simp
           case sn4 =>
            intro _
            refine StepP.want (by kernel_rfl) ?_
            go_simp
           case sn5 =>
            intro _
            refine StepP.want (by kernel_rfl) ?_
            go_simp
           case sn6_0 =>
            rw [w0]
            refine StepP.want (by kernel_rfl) ?_
            have c := YD.out
            have c2 := HLS.out.2.1
            go_simp
           case sn6_1 =>
            rw [w1]
            refine StepP.want (by kernel_rfl) ?_
            have c := YD.out
            have c2 := HLS.out.2.1
            go_simp
           case sn7 =>
            intro _
            refine StepP.want (by kernel_rfl) ?_
            have c := HLU.out.1
            go_simp
           case sn8_0 =>
            rw [w0]
            refine StepP.want (by kernel_rfl) ?_
            have c := Z1.out
            have d := Z2.out
            have e := Z3.out
            have c2 := HLS.out.2.2
            go_simp
           case sn8_1 =>
            rw [w1]
            refine StepP.want (by kernel_rfl) ?_
            have c := Z1.out
            have d := Z2.out
            have e := Z3.out
            have c2 := HLS.out.2.2
            go_simp
           case sn9_0 =>
            rw [w0, w1]
            refine StepP.want (by kernel_rfl) ?_
            go_simp
           case sn10_0 =>
            rw [w1, w2]
            refine StepP.want (by kernel_rfl) ?_
            go_simp
          case finn =>
            have e9 : Ws ([9, 10] : List Nat).length = V0.alloc (.cells #[.slice (some ⟨(gb c.bs xd).n, 0, none⟩) (gu k.U xd).now.length (gb c.bs xd).cn, .slice (some ⟨(gb c.bs xd).d, 0, none⟩) (gu k.U xd).now.length (gb c.bs xd).cd, .bool (gu k.U xd).mis] 113) := w2
            rw [e9]
            clear e9 w0 w1 w2
            clear Z0 Z1 Z2 Z3 YD HZ0
            go_wp2_with fail
            have hX1 := (Below.refl V0.heap.size V0).alloc (Nat.le_refl _) (.cells #[.slice (some ⟨(gb c.bs xd).n, 0, none⟩) (gu k.U xd).now.length (gb c.bs xd).cn, .slice (some ⟨(gb c.bs xd).d, 0, none⟩) (gu k.U xd).now.length (gb c.bs xd).cd, .bool (gu k.U xd).mis] 113)
            have a0 : (V0.alloc (.cells #[.slice (some ⟨(gb c.bs xd).n, 0, none⟩) (gu k.U xd).now.length (gb c.bs xd).cn, .slice (some ⟨(gb c.bs xd).d, 0, none⟩) (gu k.U xd).now.length (gb c.bs xd).cd, .bool (gu k.U xd).mis] 113)).drew.cell? ⟨V0.heap.size, 0, none⟩ = some (.slice (some ⟨(gb c.bs xd).n, 0, none⟩) (gu k.U xd).now.length (gb c.bs xd).cn) := by go_simp
            have a1 : (V0.alloc (.cells #[.slice (some ⟨(gb c.bs xd).n, 0, none⟩) (gu k.U xd).now.length (gb c.bs xd).cn, .slice (some ⟨(gb c.bs xd).d, 0, none⟩) (gu k.U xd).now.length (gb c.bs xd).cd, .bool (gu k.U xd).mis] 113)).drew.cell? ⟨V0.heap.size, 1, none⟩ = some (.slice (some ⟨(gb c.bs xd).d, 0, none⟩) (gu k.U xd).now.length (gb c.bs xd).cd) := by go_simp
            have a2 : (V0.alloc (.cells #[.slice (some ⟨(gb c.bs xd).n, 0, none⟩) (gu k.U xd).now.length (gb c.bs xd).cn, .slice (some ⟨(gb c.bs xd).d, 0, none⟩) (gu k.U xd).now.length (gb c.bs xd).cd, .bool (gu k.U xd).mis] 113)).drew.cell? ⟨wr.heap.size, 1, none⟩ = some (.int .i64 (xa : Int)) := (hX1.drew.cell (p := ⟨wr.heap.size, 1, none⟩) HLS.out.2.1).trans Y0.out
            have hD1 := HD0.out.below hX1.drew
            have hG1 := HG0.out.trans (Gr.of_below hX1.drew (fp A c))
            obtain ⟨X0, hX0⟩ : ∃ X0, X0 = (V0.alloc (.cells #[.slice (some ⟨(gb c.bs xd).n, 0, none⟩) (gu k.U xd).now.length (gb c.bs xd).cn, .slice (some ⟨(gb c.bs xd).d, 0, none⟩) (gu k.U xd).now.length (gb c.bs xd).cd, .bool (gu k.U xd).mis] 113)).drew := ⟨_, rfl⟩
            rw [← hX0] at a0 a1 a2 hD1 hG1
            have HX0 := hid (show X0 = { (V0.alloc (.cells #[.slice (some ⟨(gb c.bs xd).n, 0, none⟩) (gu k.U xd).now.length (gb c.bs xd).cn, .slice (some ⟨(gb c.bs xd).d, 0, none⟩) (gu k.U xd).now.length (gb c.bs xd).cd, .bool (gu k.U xd).mis] 113)) with drawn := (V0.alloc (.cells #[.slice (some ⟨(gb c.bs xd).n, 0, none⟩) (gu k.U xd).now.length (gb c.bs xd).cn, .slice (some ⟨(gb c.bs xd).d, 0, none⟩) (gu k.U xd).now.length (gb c.bs xd).cd, .bool (gu k.U xd).mis] 113)).drawn + 1 } from hX0)
            have a3 := (hD1.rd xd HLU.out.1).at xa (by rw [hD1.ld xd HLU.out.1]; show xa < (gu Uj xd).now.length; rw [HKU.out.2]; exact HFI.out.2)
            have a4 := (hD1.rn xd HLU.out.1).at xa (by show xa < (gu Uj xd).now.length; rw [HKU.out.2]; exact HFI.out.2)
            have af := (hD1.rn xd HLU.out.1).frozen xa
            have HS := hid (hD1.setNow (t := xa) (d := xd) HLU.out.1 (by show xa < (gu Uj xd).now.length; rw [HKU.out.2]; exact HFI.out.2) (ge (gu Uj xd).dur xa))
            have HSG := hid (hG1.trans ((set_gr X0 (gb c.bs xd).n xa (.int .u64 (ge (gu Uj xd).dur xa))).mono (T := fp A c) (fun x hx => by obtain rfl := List.mem_singleton.1 hx; exact fp_n (by rw [hD1.lb]; exact HLU.out.1))))
            have A0 := hid a0; have A1 := hid a1; have A2 := hid a2; have A3 := hid a3; have A4 := hid a4; have AF := hid af
            clear a0 a1 a2 a3 a4 af hD1 hG1 hX1 hX0 HD0 HG0 Y0
            obtain ⟨Ws, w0, w1⟩ : ∃ Ws : Nat → World, Ws 0 = X0 ∧ Ws 1 = X0.setCell ⟨(gb c.bs xd).n, xa, none⟩ (.int .u64 (ge (gu Uj xd).dur xa)) := ⟨fun q => match q with | 0 => X0 | _ => X0.setCell ⟨(gb c.bs xd).n, xa, none⟩ (.int .u64 (ge (gu Uj xd).dur xa)), rfl, rfl⟩
            refine (wpIn_wide (n := 5)).1 ?_
            refine wpIn_region_plan_v (ro := none) (aF := ?aFm) [.pointer (some ⟨V0.heap.size, 0, none⟩), .slice (some ⟨(gb c.bs xd).n, 0, none⟩) (gu k.U xd).now.length (gb c.bs xd).cn, .pointer (some ⟨wr.heap.size, 0, none⟩), .pointer (some ⟨wr.heap.size, 1, none⟩), .int .i64 (xa : Int), .pointer (some ⟨V0.heap.size, 1, none⟩), .slice (some ⟨(gb c.bs xd).d, 0, none⟩) (gu k.U xd).now.length (gb c.bs xd).cd, .pointer (some ⟨wr.heap.size, 0, none⟩), .pointer (some ⟨wr.heap.size, 1, none⟩), .int .i64 (xa : Int), .pointer (some ⟨(gb c.bs xd).d, xa, none⟩), .int .u64 (ge (gu Uj xd).dur xa), .pointer (some ⟨(gb c.bs xd).n, xa, none⟩), undef] ?hEm [] [13] [[(0, 0)], [(0, 0)], [(0, 0)], [(0, 0)], [(0, 0)], [(0, 0)], [(0, 0)], [(0, 0)], [(0, 0)], [(0, 0)], [(0, 0)], [(0, 0)], [(0, 0)], [(0, 1)]] Ws 86 ?hNm hmx (by kernel_rfl) (by kernel_rfl) ?haFm (w0.trans HX0.out) ?stm ?finm
            case hEm =>
              go_simp
              rfl
            case hNm => kernel_rfl
            case haFm => kernel_rfl
            case stm =>
             refine StepsP.cons rfl (any_steps (by kernel_rfl) ?sm0) (StepsP.cons rfl (step1 ?sm1_0) (StepsP.cons rfl (any_steps (by kernel_rfl) ?sm2) (StepsP.cons rfl (any_steps (by kernel_rfl) ?sm3) (StepsP.cons rfl (step1 ?sm4_0) (StepsP.cons rfl (any_steps (by kernel_rfl) ?sm5) (StepsP.cons rfl (step1 ?sm6_0) (StepsP.cons rfl (any_steps (by kernel_rfl) ?sm7) (StepsP.cons rfl (any_steps (by kernel_rfl) ?sm8) (StepsP.cons rfl (step1 ?sm9_0) (StepsP.cons rfl (any_steps (by kernel_rfl) ?sm10) (StepsP.cons rfl (step1 ?sm11_0) (StepsP.cons rfl (any_steps (by kernel_rfl) ?sm12) (StepsP.cons rfl (step1 ?sm13_0) StepsP.nil)))))))))))))
             case sm0 =>
              intro _
              refine StepP.want (by kernel_rfl) ?_
              go_simp
             case sm1_0 =>
              rw [w0]
              refine StepP.want (by kernel_rfl) ?_
              have c := A0.out
              go_simp
             case sm2 =>
              intro _
              refine StepP.want (by kernel_rfl) ?_
              go_simp
             case sm3 =>
              intro _
              refine StepP.want (by kernel_rfl) ?_
              go_simp
             case sm4_0 =>
              rw [w0]
              refine StepP.want (by kernel_rfl) ?_
              have c := A2.out
              go_simp
             case sm5 =>
              intro _
              refine StepP.want (by kernel_rfl) ?_
              go_simp
             case sm6_0 =>
              rw [w0]
              refine StepP.want (by kernel_rfl) ?_
              have c := A1.out
              go_simp
             case sm7 =>
              intro _
              refine StepP.want (by kernel_rfl) ?_
              go_simp
             case sm8 =>
              intro _
              refine StepP.want (by kernel_rfl) ?_
              go_simp
             case sm9_0 =>
              rw [w0]
              refine StepP.want (by kernel_rfl) ?_
              have c := A2.out
              go_simp
             case sm10 =>
              intro _
              refine StepP.want (by kernel_rfl) ?_
              have c := HFI.out.2
              go_simp
             case sm11_0 =>
              rw [w0]
              refine StepP.want (by kernel_rfl) ?_
              have c := A3.out
              go_simp
             case sm12 =>
              intro _
              refine StepP.want (by kernel_rfl) ?_
              have c := HFI.out.2
              go_simp
             case sm13_0 =>
              rw [w0, w1]
              refine StepP.want (by kernel_rfl) ?_
              have c := A4.out
              have c2 := AF.out
              go_simp
            case finm =>
              have e9 : Ws ([13] : List Nat).length = X0.setCell ⟨(gb c.bs xd).n, xa, none⟩ (.int .u64 (ge (gu Uj xd).dur xa)) := w1
              rw [e9]
              clear e9 w0 w1
              clear A0 A1 A2 A3 A4 AF HX0
              generalize X0.setCell ⟨(gb c.bs xd).n, xa, none⟩ (.int .u64 (ge (gu Uj xd).dur xa)) = w3 at *
              go_wp2_with fail
              go_roundw
              case rel => exact ⟨j + 1, by omega, by go_num, hid (HR.out _ HS.out), HSG⟩
              case measure => simp [intOf]; omega
        · have hjl : j = k.F.length := by omega
          have hlt' : ¬ (j : Int) < (k.F.length : Int) := by omega
          rw [hjl] at HDj ⊢
          clear hjl hlt hj
          have c2 := HDj.out.c2
          have c3 := HDj.out.c3
          have c4 := HDj.out.c4
          have f2 := HDj.out.fz 2
          have f3 := HDj.out.fz 3
          have f4 := HDj.out.fz 4
          have hblk : wr.ownsRow 0 118 6 (.slice (some ⟨A, 0, none⟩) 1 1) 1 [.slice c.ua (rs2 k.F U1 k.F.length).length c.uc, .map (some c.mb), .slice c.fa k.F.length c.fc, .int .i64 k.fuse, .bool k.down, .int .i64 k.wr] := HDj.out.blk
          have G1 := set_gr wr A 2 (.slice none 0 0)
          have D1 := HDj.out.setF (W' := wr.setCell ⟨A, 2, none⟩ (.slice none 0 0)) none 0 [] (G1.mono (fun x hx => by obtain rfl := List.mem_singleton.1 hx; exact List.mem_cons_self ..)) (World.ownsRow.stored hblk 2 (.slice none 0 0)).1 (World.ownsRow_nil _ _ _ _) (fun g hg => by cases hg) (fun i hi => by simp at hi)
          have G2 := set_gr (wr.setCell ⟨A, 2, none⟩ (.slice none 0 0)) A 3 (.int .i64 0)
          have D2 := D1.setA G2 0 k.down k.wr (World.ownsRow.stored D1.blk 3 (.int .i64 0)).1
          have G3 := set_gr ((wr.setCell ⟨A, 2, none⟩ (.slice none 0 0)).setCell ⟨A, 3, none⟩ (.int .i64 0)) A 4 (.bool false)
          have D3 := hid (D2.setA G3 0 false k.wr (World.ownsRow.stored D2.blk 4 (.bool false)).1)
          have HSG := hid (HGj.out.trans (((G1.trans G2).trans G3).mono (T := fp A c) (fun x hx => by obtain rfl := List.mem_singleton.1 hx; exact fp_A)))
          have HRE := hid (show reK k kp = { k with U := rs2 k.F U1 k.F.length, F := [], fuse := 0, down := false } by unfold reK; rw [HU1.out])
          clear hblk G1 D1 G2 D2 G3 HDj
          go_wp2_with fail
          go_end0
          exact ⟨rfl, hid ⟨by rw [HRE.out]; exact D3.out, HSG.out⟩⟩
end Go.Proofs.Ytbgbjgedjmhcaaa.OldD
namespace Go.Proofs.Ytbgbjgedjmhcaaa.OldD
open Go.ChangeShapes Go.WideShapes Go.ChangeAt Go.RowKit
attribute [local go_sem] Oper.semAt_some putAll
theorem Try.info22 : (Try.prog.info? 22).map (fun i => (i.zero, i.size, i.bytes)) = some (some (.int .u64 0), 1, 8) := by kernel_rfl
theorem vu_len (X : List Int) : (vu X).length = X.length := by simp [vu]
theorem row_of {w : World} {base n : Nat} {X : List Int} {v : Value} (h : w.ownsRow base 22 1 v n (vu X)) (hn : 1 ≤ n) (hl : X.length = n) : ∃ g c, v = .slice (some ⟨g, 0, none⟩) n c ∧ base ≤ g ∧ Row w g c X := by
  subst hl
  rcases h.2 with ⟨_, h0⟩ | ⟨g, cap, cur, rfl, hb, hg, r1, r2, r3, r4⟩
  · omega
  · exact ⟨g, cap, rfl, hb, h.1, .inr ⟨g, cap, cur, rfl, Nat.zero_le _, hg, r1, r2, r3, r4⟩⟩
theorem Row.news {w : World} {g c : Nat} {X : List Int} (h : Row w g c X) : ∀ j u, (vu X)[j]? = some u → w.cell? ((⟨g, 0, none⟩ : Addr).add j) = some u := World.ownsRow.cells h rfl
theorem clone_ok {W : World} {g cap : Nat} {X : List Int} (h : Row W g cap X) (h1 : 1 ≤ X.length) (hbig : X.length ≤ 1000000) :
    Calls Try.prog 70 #[.slice (some ⟨g, 0, none⟩) X.length cap] W fun e W' => ∃ g' c', e = .returned (.slice (some ⟨g', 0, none⟩) X.length c') ∧ W.heap.size ≤ g' ∧ Hid (Row W' g' c' X ∧ Below W.heap.size W W') := by
  have q36 : ∀ (w : World) (a : Option Addr) (n c n' c' : Nat), (binOp .eql 25 (.slice a n c) (.slice none n' c')).run Try.prog w = .ok (.bool a.isNone) w := fun w a n c n' c' => Lib.run_eql_slice_nil w _ _ a n c n' c' Try.underlying25
  obtain ⟨i0, hi, hz0, hz1, hz2⟩ := info_parts Try.info22
  have HI := hid hi; have HZ0 := hid hz0; have HZ1 := hid hz1; have HZ2 := hid hz2
  clear hi hz0 hz1 hz2
  have HLn := hid (show (vu X).length = X.length * 1 by rw [vu_len]; omega)
  have HB := hid ((Below.refl W.heap.size W).alloc (Nat.le_refl _) (.cells #[] 22))
  have HR1 := hid (h.gr (Gr.of_below HB.out []) (by simp))
  have HO := hid (World.ownsRow_made (base := W.heap.size) (e := 22) (size := 1) W #[] 0 (Nat.le_refl _) (by unfold maxLen; omega) rfl)
  have hs1 : (W.alloc (.cells #[] 22)).heap.size = W.heap.size + 1 := by simp
  clear h
  go_enter Try.func70, Try.ntmps70
  go_wp2_with (first | (at_builtin; refine wpList_append_own _ rfl _ _ 25 rfl W.heap.size 22 i0 (.int .u64 0) 1 8 Try.underlying25 HI.out HZ0.out HZ1.out HZ2.out rfl (by decide) (.slice (some ⟨W.heap.size, 0, none⟩) 0 0) 0 [] rfl HO.out ⟨g, 0, none⟩ X.length cap (vu X) rfl HLn.out HR1.out.news (one_vu X) (by unfold maxLen; omega) (by omega) (by omega) ?_; intro v4 w4 hown4 hgrow4 _))
  go_ret
  obtain ⟨g', c', rfl, hb, hR⟩ := row_of (n := X.length) (by simpa using hown4) h1 rfl
  refine ⟨g', c', rfl, hb, hid ⟨hR, HB.out.grown hgrow4 (by omega) (fun k e => ?_)⟩⟩
  have : W.heap.size = k := by simpa [Value.ownBlock] using e
  omega
theorem image_ok {W : World} {A : Nat} {c : Co} {k : Dk} (h : DA W A c k) (d : Nat) (hd' : d < k.U.length) :
    Calls Try.prog 26 #[.pointer (some ⟨A, 0, none⟩), .int .i64 (d : Int)] W fun e W' => ∃ g' c', e = .returned (.tuple #[.slice (some ⟨g', 0, none⟩) (gu k.U d).now.length c', .int .i64 0]) ∧ W.heap.size ≤ g' ∧ Hid (Row W' g' c' (gu k.U d).now ∧ Below W.heap.size W W') := by
  have HF := hid (has_ok h (d : Int))
  rw [hd_iff.2 ⟨d, rfl, hd'⟩] at HF
  have c0 := h.c0
  obtain ⟨ub, hub, hul, c1, -, -, -⟩ := h.unit hd'
  rw [hub] at c0
  have hb8 := h.b8
  have hbn := h.bn d hd'
  have HC := hid (clone_ok (h.rn d hd') hbn.1 (by omega))
  generalize (gu k.U d).now.length = len at *
  clear h hub
  go_enter Try.func26, Try.ntmps26
  go_wp2_with fail
  refine HF.out.mono ?_
  rintro e w1 ⟨rfl, rfl⟩
  go_wp2_with fail
  refine HC.out.mono ?_
  rintro e w2 ⟨g', c', rfl, hg, H2⟩
  go_wp2_with fail
  go_ret2
  exact ⟨g', c', rfl, hg, H2⟩
end Go.Proofs.Ytbgbjgedjmhcaaa.OldD
namespace Go.Proofs.Ytbgbjgedjmhcaaa.OldD
open Go.ChangeShapes Go.WideShapes Go.ChangeAt Go.RowKit
attribute [local go_sem] Oper.semAt_some putAll
theorem Try.info113 : (Try.prog.info? 113).map (fun i => (i.zero, i.size, i.bytes)) = some (some (.agg #[.slice none 0 0, .slice none 0 0, .bool false]), 3, 56) := by kernel_rfl
def Ar (W : World) (a : Option Addr) (X : List Int) : Prop := X.length = 0 ∨ ∃ b o, a = some ⟨b, o, none⟩ ∧ b < W.heap.size ∧ ∀ i, i < X.length → W.cell? ⟨b, o + i, none⟩ = some (.int .i64 (ge X i))
theorem Ar.below {W W' : World} {a : Option Addr} {X : List Int} (h : Ar W a X) (hb : Below W.heap.size W W') : Ar W' a X := by
  rcases h with h | ⟨b, o, h1, h2, h3⟩
  · exact .inl h
  · exact .inr ⟨b, o, h1, Nat.lt_of_lt_of_le h2 hb.size, fun i hi => (hb.cell (p := ⟨b, o + i, none⟩) h2).trans (h3 i hi)⟩
def un (z : Int) : Un := ⟨List.replicate z.toNat 0, List.replicate z.toNat 0, false⟩
def nk (X : List Int) : Dk := { U := X.map un, bad := fun _ _ => false, F := [], fuse := 0, down := false, wr := 0 }
def good (z : Int) : Prop := 1 ≤ z ∧ z ≤ 65536
instance (z : Int) : Decidable (good z) := by unfold good; infer_instance
theorem gu_app (U : List Un) (u : Un) (i : Nat) : gu (U ++ [u]) i = if i < U.length then gu U i else if i = U.length then u else gu [] 0 := by
  unfold gu
  by_cases h : i < U.length
  · rw [if_pos h, List.getElem?_append_left h]
  · rw [if_neg h, List.getElem?_append_right (by omega)]
    by_cases h2 : i = U.length
    · rw [if_pos h2, h2]; simp
    · rw [if_neg h2, List.getElem?_eq_none (by simp; omega)]; rfl
theorem gb_app (U : List UB) (u : UB) (i : Nat) : gb (U ++ [u]) i = if i < U.length then gb U i else if i = U.length then u else gb [] 0 := by
  unfold gb
  by_cases h : i < U.length
  · rw [if_pos h, List.getElem?_append_left h]
  · rw [if_neg h, List.getElem?_append_right (by omega)]
    by_cases h2 : i = U.length
    · rw [if_pos h2, h2]; simp
    · rw [if_neg h2, List.getElem?_eq_none (by simp; omega)]; rfl
theorem fa_lt {W : World} {A : Nat} {c : Co} {k : Dk} (h : DA W A c k) : ∀ x ∈ oblk c.fa, x < W.heap.size := fun x hx => h.fp_lt x (fp_f hx)
theorem ua_lt {W : World} {A : Nat} {c : Co} {k : Dk} (h : DA W A c k) : ∀ x ∈ oblk c.ua, x < W.heap.size := fun x hx => h.fp_lt x (fp_u hx)
theorem DA.addU {W W' : World} {A : Nat} {c : Co} {k : Dk} (h : DA W A c k) (ua : Option Addr) (uc : Nat) (b : UB) (u : Un) (hg : Gr (A :: oblk c.ua) W W')
    (hb : W'.ownsRow 0 118 6 (.slice (some ⟨A, 0, none⟩) 1 1) 1 [.slice ua (k.U.length + 1) uc, .map (some c.mb), .slice c.fa k.F.length c.fc, .int .i64 k.fuse, .bool k.down, .int .i64 k.wr])
    (hr : W'.ownsRow 0 113 3 (.slice ua (k.U.length + 1) uc) (k.U.length + 1) (ck 3 (k.U.length + 1) (uf (c.bs ++ [b]) (k.U ++ [u]))))
    (hn : ∀ g ∈ oblk ua, g ∈ oblk c.ua ∨ W.heap.size ≤ g) (rn : Row W' b.n b.cn u.now) (rd : Row W' b.d b.cd u.dur) (hbn : W.heap.size ≤ b.n) (hbd : W.heap.size ≤ b.d) (hne : b.n ≠ b.d) (hnu : b.n ∉ oblk ua) (hdu : b.d ∉ oblk ua)
    (hl : u.dur.length = u.now.length) (hl1 : 1 ≤ u.now.length) (hl2 : u.now.length ≤ 65536) (h8 : k.U.length < 8) :
    DA W' A { c with ua := ua, uc := uc, bs := c.bs ++ [b] } { k with U := k.U ++ [u] } := by
  have key : ∀ x, x ≠ A → x ∉ oblk c.ua → x ∉ A :: oblk c.ua := fun x h1 h2 h3 => by
    rcases List.mem_cons.1 h3 with h3 | h3
    · exact h1 h3
    · exact h2 h3
  have nw : ∀ x, x < W.heap.size → x ∉ oblk c.ua → x ∉ oblk ua := fun x h1 h2 h3 => by
    rcases hn x h3 with h4 | h4
    · exact h2 h4
    · omega
  have hlb := h.lb
  have hbl : (c.bs ++ [b]).length = k.U.length + 1 := by simp [hlb]
  have hul : (k.U ++ [u]).length = k.U.length + 1 := by simp
  have gl : ∀ i, i < k.U.length → gu (k.U ++ [u]) i = gu k.U i ∧ gb (c.bs ++ [b]) i = gb c.bs i := fun i hi => ⟨by rw [gu_app, if_pos hi], by rw [gb_app, if_pos (by omega)]⟩
  have gr : gu (k.U ++ [u]) k.U.length = u ∧ gb (c.bs ++ [b]) k.U.length = b := ⟨by rw [gu_app, if_neg (by omega), if_pos rfl], by rw [gb_app, if_neg (by omega), if_pos (by omega)]⟩
  have hA := h.lt
  have hM := h.mp.lt
  have nl : ∀ i, i < k.U.length → (gb c.bs i).n < W.heap.size ∧ (gb c.bs i).d < W.heap.size := fun i hi => ⟨(h.rn i hi).lt, (h.rd i hi).lt⟩
  have hfl := fa_lt h
  exact {
    blk := by
      show W'.ownsRow 0 118 6 _ 1 [.slice ua (k.U ++ [u]).length uc, _, _, _, _, _]
      rw [hul]; exact hb
    ru := by
      show W'.ownsRow 0 113 3 (.slice ua (k.U ++ [u]).length uc) (k.U ++ [u]).length (ck 3 (k.U ++ [u]).length _)
      rw [hul]; exact hr
    rf := own_gr h.rf hg (fun g hx => by have := oblk_of hx; exact key _ (fun e => h.sep.af (e ▸ this)) (fun e => h.sep.uf _ e this))
    mp := h.mp.gr hg (key _ (Ne.symm h.sep.am) h.sep.mu)
    rn := fun i hi => by
      have hi' : i < k.U.length + 1 := by rw [← hul]; exact hi
      by_cases e : i < k.U.length
      · show Row W' (gb (c.bs ++ [b]) i).n (gb (c.bs ++ [b]) i).cn (gu (k.U ++ [u]) i).now
        rw [(gl i e).1, (gl i e).2]
        exact (h.rn i e).gr hg (key _ (h.sep.n1 i (by omega)).1 (h.sep.n1 i (by omega)).2.2.1)
      · obtain rfl : i = k.U.length := by omega
        show Row W' (gb (c.bs ++ [b]) k.U.length).n (gb (c.bs ++ [b]) k.U.length).cn (gu (k.U ++ [u]) k.U.length).now
        rw [gr.1, gr.2]; exact rn
    rd := fun i hi => by
      have hi' : i < k.U.length + 1 := by rw [← hul]; exact hi
      by_cases e : i < k.U.length
      · show Row W' (gb (c.bs ++ [b]) i).d (gb (c.bs ++ [b]) i).cd (gu (k.U ++ [u]) i).dur
        rw [(gl i e).1, (gl i e).2]
        exact (h.rd i e).gr hg (key _ (h.sep.d1 i (by omega)).1 (h.sep.d1 i (by omega)).2.2.1)
      · obtain rfl : i = k.U.length := by omega
        show Row W' (gb (c.bs ++ [b]) k.U.length).d (gb (c.bs ++ [b]) k.U.length).cd (gu (k.U ++ [u]) k.U.length).dur
        rw [gr.1, gr.2]; exact rd
    lb := by show (c.bs ++ [b]).length = (k.U ++ [u]).length; rw [hbl, hul]
    ld := fun i hi => by
      have hi' : i < k.U.length + 1 := by rw [← hul]; exact hi
      show (gu (k.U ++ [u]) i).dur.length = (gu (k.U ++ [u]) i).now.length
      by_cases e : i < k.U.length
      · rw [(gl i e).1]; exact h.ld i e
      · obtain rfl : i = k.U.length := by omega
        rw [gr.1]; exact hl
    b8 := by show (k.U ++ [u]).length ≤ 8; rw [hul]; omega
    bn := fun i hi => by
      have hi' : i < k.U.length + 1 := by rw [← hul]; exact hi
      show 1 ≤ (gu (k.U ++ [u]) i).now.length ∧ (gu (k.U ++ [u]) i).now.length ≤ 65536
      by_cases e : i < k.U.length
      · rw [(gl i e).1]; exact h.bn i e
      · obtain rfl : i = k.U.length := by omega
        rw [gr.1]; exact ⟨hl1, hl2⟩
    fi := fun i hi => by
      have h1 := h.fi i hi
      show (gf k.F i).d < (k.U ++ [u]).length ∧ (gf k.F i).at' < (gu (k.U ++ [u]) (gf k.F i).d).now.length
      rw [hul, (gl _ h1.1).1]
      exact ⟨by omega, h1.2⟩
    sep := {
      am := h.sep.am
      au := nw _ hA h.sep.au
      af := h.sep.af
      mu := nw _ hM h.sep.mu
      mf := h.sep.mf
      uf := fun g hx hf => by
        rcases hn g hx with h1 | h1
        · exact h.sep.uf g h1 hf
        · have := hfl g hf; omega
      n1 := fun i hi => by
        have hi' : i < k.U.length + 1 := by rw [← hbl]; exact hi
        show (gb (c.bs ++ [b]) i).n ≠ A ∧ (gb (c.bs ++ [b]) i).n ≠ c.mb ∧ (gb (c.bs ++ [b]) i).n ∉ oblk ua ∧ (gb (c.bs ++ [b]) i).n ∉ oblk c.fa
        by_cases e : i < k.U.length
        · rw [(gl i e).2]
          have h1 := h.sep.n1 i (by omega)
          exact ⟨h1.1, h1.2.1, nw _ (nl i e).1 h1.2.2.1, h1.2.2.2⟩
        · obtain rfl : i = k.U.length := by omega
          rw [gr.2]
          exact ⟨by omega, by omega, hnu, fun hx => by have := hfl _ hx; omega⟩
      d1 := fun i hi => by
        have hi' : i < k.U.length + 1 := by rw [← hbl]; exact hi
        show (gb (c.bs ++ [b]) i).d ≠ A ∧ (gb (c.bs ++ [b]) i).d ≠ c.mb ∧ (gb (c.bs ++ [b]) i).d ∉ oblk ua ∧ (gb (c.bs ++ [b]) i).d ∉ oblk c.fa
        by_cases e : i < k.U.length
        · rw [(gl i e).2]
          have h1 := h.sep.d1 i (by omega)
          exact ⟨h1.1, h1.2.1, nw _ (nl i e).2 h1.2.2.1, h1.2.2.2⟩
        · obtain rfl : i = k.U.length := by omega
          rw [gr.2]
          exact ⟨by omega, by omega, hdu, fun hx => by have := hfl _ hx; omega⟩
      nd := fun i j hi hj => by
        have hi' : i < k.U.length + 1 := by rw [← hbl]; exact hi
        have hj' : j < k.U.length + 1 := by rw [← hbl]; exact hj
        show (gb (c.bs ++ [b]) i).n ≠ (gb (c.bs ++ [b]) j).d
        by_cases e : i < k.U.length <;> by_cases e2 : j < k.U.length
        · rw [(gl i e).2, (gl j e2).2]; exact h.sep.nd i j (by omega) (by omega)
        · obtain rfl : j = k.U.length := by omega
          rw [(gl i e).2, gr.2]; have := (nl i e).1; omega
        · obtain rfl : i = k.U.length := by omega
          rw [(gl j e2).2, gr.2]; have := (nl j e2).2; omega
        · obtain rfl : i = k.U.length := by omega
          obtain rfl : j = k.U.length := by omega
          rw [gr.2]; exact hne
      nn := fun i j hi hj hij => by
        have hi' : i < k.U.length + 1 := by rw [← hbl]; exact hi
        have hj' : j < k.U.length + 1 := by rw [← hbl]; exact hj
        show (gb (c.bs ++ [b]) i).n ≠ (gb (c.bs ++ [b]) j).n ∧ (gb (c.bs ++ [b]) i).d ≠ (gb (c.bs ++ [b]) j).d
        by_cases e : i < k.U.length <;> by_cases e2 : j < k.U.length
        · rw [(gl i e).2, (gl j e2).2]; exact h.sep.nn i j (by omega) (by omega) hij
        · obtain rfl : j = k.U.length := by omega
          rw [(gl i e).2, gr.2]; have := nl i e; omega
        · obtain rfl : i = k.U.length := by omega
          rw [(gl j e2).2, gr.2]; have := nl j e2; omega
        · omega } }
theorem uf_app {bs : List UB} {U : List Un} (hl : bs.length = U.length) (b : UB) (u : Un) :
    ck 3 U.length (uf bs U) ++ [.slice (some ⟨b.n, 0, none⟩) u.now.length b.cn, .slice (some ⟨b.d, 0, none⟩) u.now.length b.cd, .bool u.mis] = ck 3 (U.length + 1) (uf (bs ++ [b]) (U ++ [u])) := by
  have e : [Value.slice (some ⟨b.n, 0, none⟩) u.now.length b.cn, .slice (some ⟨b.d, 0, none⟩) u.now.length b.cd, .bool u.mis] = ck 3 1 (fun _ j => if j = 0 then .slice (some ⟨b.n, 0, none⟩) u.now.length b.cn else if j = 1 then .slice (some ⟨b.d, 0, none⟩) u.now.length b.cd else .bool u.mis) := by
    simp [ck, List.range_succ]
  rw [e, ck_app]
  refine ck_congr fun i j hi hj => ?_
  by_cases h : i < U.length
  · have e1 : gu (U ++ [u]) i = gu U i := by rw [gu_app, if_pos h]
    have e2 : gb (bs ++ [b]) i = gb bs i := by rw [gb_app, if_pos (by omega)]
    rw [if_pos h]
    unfold uf
    rw [e1, e2]
  · have e1 : gu (U ++ [u]) i = u := by rw [gu_app, if_neg h, if_pos (by omega)]
    have e2 : gb (bs ++ [b]) i = b := by rw [gb_app, if_neg (by omega), if_pos (by omega)]
    rw [if_neg h]
    unfold uf
    rw [e1, e2]
theorem DA.addN {W : World} {A : Nat} {c : Co} {k : Dk} (h : DA W A c k) (z : Nat) (hz1 : 1 ≤ z) (hz2 : z ≤ 65536) (h8 : k.U.length < 8) (p q : Nat) (hpq : (p = W.heap.size ∧ q = W.heap.size + 1) ∨ (p = W.heap.size + 1 ∧ q = W.heap.size))
    (g uc : Nat) (W1 W2 : World) (hW1 : W1 = ((W.alloc (.cells (madeCells #[.int .u64 0] z) 22)).alloc (.cells (madeCells #[.int .u64 0] z) 22)).alloc (.cells #[.slice (some ⟨p, 0, none⟩) z z, .slice (some ⟨q, 0, none⟩) z z, .bool false] 113))
    (hr : W2.ownsRow 0 113 3 (.slice (some ⟨g, 0, none⟩) (k.U.length + 1) uc) (k.U.length + 1) (ck 3 k.U.length (uf c.bs k.U) ++ [.slice (some ⟨p, 0, none⟩) z z, .slice (some ⟨q, 0, none⟩) z z, .bool false]))
    (hg : W1.grownBy W2 (Value.slice c.ua k.U.length c.uc).ownBlock) (hlie : (Value.slice c.ua k.U.length c.uc).ownBlock = some g ∨ g = W1.heap.size) :
    W2.cell? ⟨A, 0, none⟩ = some (.slice c.ua k.U.length c.uc) ∧ W2.frozen? ⟨A, 0, none⟩ = false ∧
    DA (W2.setCell ⟨A, 0, none⟩ (.slice (some ⟨g, 0, none⟩) (k.U.length + 1) uc)) A { c with ua := some ⟨g, 0, none⟩, uc := uc, bs := c.bs ++ [⟨p, z, q, z⟩] } { k with U := k.U ++ [un z] } ∧
    Gr (A :: oblk c.ua) W (W2.setCell ⟨A, 0, none⟩ (.slice (some ⟨g, 0, none⟩) (k.U.length + 1) uc)) ∧ (∀ x ∈ fp A { c with ua := some ⟨g, 0, none⟩, uc := uc, bs := c.bs ++ [⟨p, z, q, z⟩] }, x ∈ fp A c ∨ W.heap.size ≤ x) := by
  have hs : W1.heap.size = W.heap.size + 3 := by rw [hW1]; simp
  have hb1 : Below W.heap.size W W1 := by rw [hW1]; exact (((Below.refl _ _).alloc (Nat.le_refl _) _).alloc (by simp) _).alloc (by simp; omega) _
  have h1 := h.below hb1
  have row : ∀ x, (x = W.heap.size ∨ x = W.heap.size + 1) → Row W1 x z (List.replicate z 0) := by
    intro x hx
    have hv : (madeCells #[(.int .u64 0 : Value)] z).toList = vu (List.replicate z 0) := by rw [toList_madeCells_one]; simp [vu]
    have base : ∀ w : World, Row (w.alloc (.cells (madeCells #[.int .u64 0] z) 22)) w.heap.size z (List.replicate z 0) := fun w => by
      have := World.ownsRow_lit (base := 0) (e := 22) (size := 1) w (madeCells #[.int .u64 0] z) z (Nat.zero_le _) (by unfold maxLen; omega) (by rw [size_madeCells]; omega)
      unfold Row
      rw [List.length_replicate, ← hv]
      exact this
    rw [hW1]
    rcases hx with rfl | rfl
    · exact ((base W).gr (Gr.of_below ((Below.refl _ _).alloc (Nat.le_refl _) _) []) (by simp)).gr (Gr.of_below ((Below.refl _ _).alloc (Nat.le_refl _) _) []) (by simp)
    · have := base (W.alloc (.cells (madeCells #[.int .u64 0] z) 22))
      rw [World.size_alloc] at this
      exact this.gr (Gr.of_below ((Below.refl _ _).alloc (Nat.le_refl _) _) []) (by simp)
  have hA : W2.ownsRow 0 118 6 (.slice (some ⟨A, 0, none⟩) 1 1) 1 [.slice c.ua k.U.length c.uc, .map (some c.mb), .slice c.fa k.F.length c.fc, .int .i64 k.fuse, .bool k.down, .int .i64 k.wr] :=
    World.ownsRow.kept h1.blk hg (.inr (by intro e; exact h.sep.au (oblk_of e.symm)))
  have hul := ua_lt h
  have hgl : g ∈ oblk c.ua ∨ g = W.heap.size + 3 := by
    rcases hlie with e | e
    · exact .inl (oblk_of e)
    · exact .inr (by rw [e, hs])
  have hAl := h.lt
  have hgA : g ≠ A := by
    rcases hgl with e | e
    · intro e2; rw [e2] at e; exact h.sep.au e
    · omega
  have hpg : ∀ x, (x = W.heap.size ∨ x = W.heap.size + 1) → x ∉ oblk (some (⟨g, 0, none⟩ : Addr)) ∧ x ≠ A := fun x hx => by
    refine ⟨fun hm => ?_, by omega⟩
    have hm2 : x = g := List.mem_singleton.1 hm
    rcases hgl with e | e
    · have := hul g e; omega
    · omega
  have hnew : ∀ x ∈ oblk (some (⟨g, 0, none⟩ : Addr)), x ∈ oblk c.ua ∨ W.heap.size ≤ x := by
    intro x hx
    have hx2 : x = g := List.mem_singleton.1 hx
    rw [hx2]
    rcases hgl with e | e
    · exact .inl e
    · exact .inr (by omega)
  have G2 : Gr (A :: oblk c.ua) W W2 := (Gr.of_below hb1 _).trans (Gr.of_grown hg (fun x hx => List.mem_cons_of_mem _ (oblk_of hx)))
  have G3 := set_gr W2 A 0 (.slice (some ⟨g, 0, none⟩) (k.U.length + 1) uc)
  have rowp : ∀ x, (x = W.heap.size ∨ x = W.heap.size + 1) → Row (W2.setCell ⟨A, 0, none⟩ (.slice (some ⟨g, 0, none⟩) (k.U.length + 1) uc)) x z (List.replicate z 0) := fun x hx => by
    refine Row.gr ?_ G3 (by rw [List.mem_singleton]; exact (hpg x hx).2)
    exact own_gr (row x hx) (Gr.of_grown (S := oblk c.ua) hg (fun y hy => oblk_of hy)) (fun y hy => by cases hy; exact fun e => by have h9 : x < W.heap.size := hul x e; omega)
  have G4 := G2.trans (G3.mono (T := A :: oblk c.ua) (fun x hx => by obtain rfl := List.mem_singleton.1 hx; exact List.mem_cons_self ..))
  refine ⟨World.ownsRow.cellAt hA 0 (by omega), World.ownsRow.frozenAt hA 0, ?_, G4, ?_⟩
  · refine h.addU (some ⟨g, 0, none⟩) uc ⟨p, z, q, z⟩ (un z) G4 (World.ownsRow.stored hA 0 _).1 ?_ hnew (by simpa [un] using rowp p (by omega)) (by simpa [un] using rowp q (by omega)) (by show _ ≤ p; omega) (by show _ ≤ q; omega) (by show p ≠ q; omega) (hpg p (by omega)).1 (hpg q (by omega)).1 (by simp [un]) (by simp [un]; exact hz1) (by simp [un]; exact hz2) h8
    have e := uf_app h.lb ⟨p, z, q, z⟩ (un z)
    simp only [un, List.length_replicate, Int.toNat_natCast] at e
    rw [show un (z : Int) = ⟨List.replicate z 0, List.replicate z 0, false⟩ from rfl, ← e]
    exact own_gr hr G3 (fun x hx => by cases hx; rw [List.mem_singleton]; exact hgA)
  · intro x hx
    unfold fp at hx ⊢
    simp only [List.mem_cons, List.mem_append, List.flatMap_append, List.flatMap_cons, List.flatMap_nil, List.append_nil, List.not_mem_nil, or_false] at hx ⊢
    rcases hx with h | h | h | h | h | h | h
    · exact .inl (.inl h)
    · exact .inl (.inr (.inl h))
    · rcases hnew x h with h | h
      · exact .inl (.inr (.inr (.inl h)))
      · exact .inr h
    · exact .inl (.inr (.inr (.inr (.inl h))))
    · exact .inl (.inr (.inr (.inr (.inr h))))
    · right; omega
    · right; omega
end Go.Proofs.Ytbgbjgedjmhcaaa.OldD
namespace Go.Proofs.Ytbgbjgedjmhcaaa.OldD
open Go.ChangeShapes Go.WideShapes Go.ChangeAt Go.RowKit
theorem new_da (W : World) : DA ((W.alloc (.map #[] 0)).alloc (.cells #[.slice none 0 0, .map (some W.heap.size), .slice none 0 0, .int .i64 0, .bool false, .int .i64 0] 118)) (W.heap.size + 1) ⟨none, 0, none, 0, W.heap.size, 0, []⟩ (nk []) where
  blk := by
    have := World.ownsRow_lit (base := 0) (e := 118) (size := 6) (W.alloc (.map #[] 0)) #[.slice none 0 0, .map (some W.heap.size), .slice none 0 0, .int .i64 0, .bool false, .int .i64 0] 1 (Nat.zero_le _) (by unfold maxLen; omega) rfl
    rw [World.size_alloc] at this
    exact this
  ru := World.ownsRow_nil _ _ _ _
  rf := World.ownsRow_nil _ _ _ _
  mp := ⟨_, (World.ownsMap_made W Try.prog 120 (unitElem (H := Unit))).alloc _, fun d t _ _ => rfl⟩
  rn i hi := by simp [nk] at hi
  rd i hi := by simp [nk] at hi
  lb := rfl
  ld i hi := by simp [nk] at hi
  b8 := by simp [nk]
  bn i hi := by simp [nk] at hi
  fi i hi := by simp [nk] at hi
  sep := ⟨by simp, by simp [oblk], by simp [oblk], by simp [oblk], by simp [oblk], fun g hg => by simp [oblk] at hg, fun i hi => by simp at hi, fun i hi => by simp at hi, fun i j hi => by simp at hi, fun i j hi => by simp at hi⟩
set_option maxRecDepth 100000 in
theorem new_ok (a : Option Addr) (cap : Nat) (X : List Int) (W : World) (h8 : X.length ≤ 8) (hX : ∀ i, i < X.length → good (ge X i)) (hA : Ar W a X) :
    Calls Try.prog 57 #[.slice a X.length cap] W fun e W' => ∃ A, e = .returned (.tuple #[.pointer (some ⟨A, 0, none⟩), .int .i64 0]) ∧ Hid (∃ c, c.mn = 0 ∧ DA W' A c (nk X) ∧ Below W.heap.size W W' ∧ ∀ x ∈ fp A c, W.heap.size ≤ x) := by
  have hmm := @run_makeMap Try.prog
  have HX := hid hX
  have HA := hid hA
  obtain ⟨i0, hi, hz0, hz1, hz2⟩ := info_parts Try.info22
  have hmk : ∀ (w : World) (z : Nat), z ≤ 65536 → (Instr.makeSlice 25 (.int .i64 (z : Int)) (.int .i64 (z : Int))).run Try.prog w = .ok (.slice (some ⟨w.heap.size, 0, none⟩) z z) (w.alloc (.cells (madeCells #[.int .u64 0] z) 22)) := fun w z hz => by
    have := run_make (P := Try.prog) w 25 22 i0 (.int .u64 0) Try.underlying25 hi hz0 .i64 .i64 (z : Int) (z : Int) (by omega) (Int.le_refl _) (by rw [hz2]; omega) (by omega)
    rw [hz1] at this
    simpa [Value.cells] using this
  have HMK := hid hmk
  obtain ⟨i1, hi1, hi2, hi3, hi4⟩ := info_parts Try.info113
  have HI1 := hid hi1; have HI2 := hid hi2; have HI3 := hid hi3; have HI4 := hid hi4
  clear hX hA hi hz0 hz1 hz2 hmk hi1 hi2 hi3 hi4
  go_enter Try.func57, Try.ntmps57
  go_wp2_with fail
  have HB0 := hid (((Below.refl W.heap.size W).alloc (Nat.le_refl _) (.map #[] 0)).alloc (by simp) (.cells #[.slice none 0 0, .map (some W.heap.size), .slice none 0 0, .int .i64 0, .bool false, .int .i64 0] 118))
  have HD0 := hid (new_da W)
  generalize ((W.alloc (.map #[] 0)).alloc (.cells #[.slice none 0 0, .map (some W.heap.size), .slice none 0 0, .int .i64 0, .bool false, .int .i64 0] 118)) = W0 at *
  go_loopw [15] (fun iv wr => ∃ (j : Nat) (c : Co), j ≤ X.length ∧ iv = .int .i64 (j : Int) ∧ Hid (c.mn = 0 ∧ DA wr (W.heap.size + 1) c (nk (X.take j)) ∧ Below W.heap.size W wr ∧ ∀ x ∈ fp (W.heap.size + 1) c, W.heap.size ≤ x)) (fun iv _ => X.length - (intOf iv).toNat)
  case atStart => exact ⟨0, _, by omega, rfl, hid ⟨rfl, by simpa [nk] using HD0.out, HB0.out, by intro x hx; simp [fp, oblk] at hx; omega⟩⟩
  case round =>
    obtain ⟨j, c, hj, rfl, HS⟩ := hrel
    by_cases hlt : j < X.length
    · have hlt' : (j : Int) < (X.length : Int) := by omega
      obtain ⟨b, o, rfl, hb, hcell⟩ := (HA.out.resolve_left (by omega))
      have x0 := (HS.out.2.2.1.cell (p := ⟨b, o + j, none⟩) hb).trans (hcell j hlt)
      have hgz := HX.out j hlt
      unfold good at hgz
      have HTK := hid (show X.take (j + 1) = X.take j ++ [ge X j] by rw [List.take_succ_eq_append_getElem hlt]; unfold ge; rw [List.getElem?_eq_getElem hlt]; rfl)
      obtain ⟨z, hz⟩ : ∃ z : Nat, ge X j = (z : Int) := ⟨(ge X j).toNat, by omega⟩
      rw [hz] at x0 hgz HTK
      have hmk := HMK.out
      have hzn : z ≤ 65536 := by omega
      have c0 := HS.out.2.1.c0
      have f0 := HS.out.2.1.fz 0
      clear hcell hz
      go_wp2_with fail
      have HJ := hid (show (nk (X.take j)).U.length < 8 by simp [nk]; omega)
      have HZ := hid (show 1 ≤ z ∧ z ≤ 65536 by omega)
      have hAl : W.heap.size + 1 < wr.heap.size := HS.out.2.1.lt
      have hAl2 : W.heap.size < wr.heap.size := by omega
      have hAl3 : W.heap.size < wr.heap.size + 1 := by omega
      have HDR := hid (HS.out.2.1.below (W' := wr.drew) (Below.refl _ _).drew)
      have hru : (((wr.drew.alloc (.cells (madeCells #[.int .u64 0] z) 22)).alloc (.cells (madeCells #[.int .u64 0] z) 22)).alloc (.cells #[.slice (some ⟨wr.heap.size, 0, none⟩) z z, .slice (some ⟨wr.heap.size + 1, 0, none⟩) z z, .bool false] 113)).ownsRow 0 113 3 (.slice c.ua (nk (X.take j)).U.length c.uc) (nk (X.take j)).U.length (ck 3 (nk (X.take j)).U.length (uf c.bs (nk (X.take j)).U)) := ((HDR.out.ru.alloc _).alloc _).alloc _
      have hru2 : (((wr.drew.alloc (.cells (madeCells #[.int .u64 0] z) 22)).alloc (.cells (madeCells #[.int .u64 0] z) 22)).alloc (.cells #[.slice (some ⟨wr.heap.size + 1, 0, none⟩) z z, .slice (some ⟨wr.heap.size, 0, none⟩) z z, .bool false] 113)).ownsRow 0 113 3 (.slice c.ua (nk (X.take j)).U.length c.uc) (nk (X.take j)).U.length (ck 3 (nk (X.take j)).U.length (uf c.bs (nk (X.take j)).U)) := ((HDR.out.ru.alloc _).alloc _).alloc _
      have n1 := World.news_of_block (w := ((wr.drew.alloc (.cells (madeCells #[.int .u64 0] z) 22)).alloc (.cells (madeCells #[.int .u64 0] z) 22)).alloc (.cells #[.slice (some ⟨wr.heap.size, 0, none⟩) z z, .slice (some ⟨wr.heap.size + 1, 0, none⟩) z z, .bool false] 113)) (cs := #[.slice (some ⟨wr.heap.size, 0, none⟩) z z, .slice (some ⟨wr.heap.size + 1, 0, none⟩) z z, .bool false]) (t := 113) (fr := (0, 0)) (B := wr.heap.size + 1 + 1) (by have := heap_alloc_new ((wr.drew.alloc (.cells (madeCells #[.int .u64 0] z) 22)).alloc (.cells (madeCells #[.int .u64 0] z) 22)) (.cells #[.slice (some ⟨wr.heap.size, 0, none⟩) z z, .slice (some ⟨wr.heap.size + 1, 0, none⟩) z z, .bool false] 113); rw [World.size_alloc, World.size_alloc] at this; exact this)
      have n2 := World.news_of_block (w := ((wr.drew.alloc (.cells (madeCells #[.int .u64 0] z) 22)).alloc (.cells (madeCells #[.int .u64 0] z) 22)).alloc (.cells #[.slice (some ⟨wr.heap.size + 1, 0, none⟩) z z, .slice (some ⟨wr.heap.size, 0, none⟩) z z, .bool false] 113)) (cs := #[.slice (some ⟨wr.heap.size + 1, 0, none⟩) z z, .slice (some ⟨wr.heap.size, 0, none⟩) z z, .bool false]) (t := 113) (fr := (0, 0)) (B := wr.heap.size + 1 + 1) (by have := heap_alloc_new ((wr.drew.alloc (.cells (madeCells #[.int .u64 0] z) 22)).alloc (.cells (madeCells #[.int .u64 0] z) 22)) (.cells #[.slice (some ⟨wr.heap.size + 1, 0, none⟩) z z, .slice (some ⟨wr.heap.size, 0, none⟩) z z, .bool false] 113); rw [World.size_alloc, World.size_alloc] at this; exact this)
      have HN1 := hid n1; have HN2 := hid n2; have HRU := hid hru; have HRU2 := hid hru2
      have HOR1 := hid (show (wr.heap.size = wr.drew.heap.size ∧ wr.heap.size + 1 = wr.drew.heap.size + 1) ∨ (wr.heap.size = wr.drew.heap.size + 1 ∧ wr.heap.size + 1 = wr.drew.heap.size) from .inl ⟨rfl, rfl⟩)
      have HOR2 := hid (show (wr.heap.size + 1 = wr.drew.heap.size ∧ wr.heap.size = wr.drew.heap.size + 1) ∨ (wr.heap.size + 1 = wr.drew.heap.size + 1 ∧ wr.heap.size = wr.drew.heap.size) from .inr ⟨rfl, rfl⟩)
      clear n1 n2 hru hru2
      go_region_law (first | (refine step_append_lies _ rfl (.tmp 29) (.tmp 35) 114 rfl 0 113 i1 (.agg #[.slice none 0 0, .slice none 0 0, .bool false]) 3 56 Try.underlying114 HI1.out HI2.out HI3.out HI4.out rfl (by decide) (.slice c.ua (nk (X.take j)).U.length c.uc) (nk (X.take j)).U.length (ck 3 (nk (X.take j)).U.length (uf c.bs (nk (X.take j)).U)) (by simp [Act.eval, Act.put]) HRU.out ⟨wr.heap.size + 1 + 1, 0, none⟩ 1 1 [.slice (some ⟨wr.heap.size, 0, none⟩) z z, .slice (some ⟨wr.heap.size + 1, 0, none⟩) z z, .bool false] (by simp [Act.eval, Act.put]) rfl HN1.out (by simp [Value.oneCell']) (by omega) (by have := HJ.out; unfold maxLen; omega) (by have := HJ.out; omega) (by omega) _ rfl ?_; intro g4 uc4 w4 hown4 hgrow4 hlie4 hlt4; obtain ⟨a4, f4, hD4, hG4, hF4⟩ := DA.addN HDR.out z HZ.out.1 HZ.out.2 HJ.out (wr.heap.size) (wr.heap.size + 1) HOR1.out g4 uc4 _ w4 rfl hown4 hgrow4 hlie4; have HD4 := hid hD4; have HG4 := hid hG4; have HF4 := hid hF4; clear hD4 hG4 hF4 hown4 hgrow4 hlie4 hlt4) | (refine step_append_lies _ rfl (.tmp 29) (.tmp 35) 114 rfl 0 113 i1 (.agg #[.slice none 0 0, .slice none 0 0, .bool false]) 3 56 Try.underlying114 HI1.out HI2.out HI3.out HI4.out rfl (by decide) (.slice c.ua (nk (X.take j)).U.length c.uc) (nk (X.take j)).U.length (ck 3 (nk (X.take j)).U.length (uf c.bs (nk (X.take j)).U)) (by simp [Act.eval, Act.put]) HRU2.out ⟨wr.heap.size + 1 + 1, 0, none⟩ 1 1 [.slice (some ⟨wr.heap.size + 1, 0, none⟩) z z, .slice (some ⟨wr.heap.size, 0, none⟩) z z, .bool false] (by simp [Act.eval, Act.put]) rfl HN2.out (by simp [Value.oneCell']) (by omega) (by have := HJ.out; unfold maxLen; omega) (by have := HJ.out; omega) (by omega) _ rfl ?_; intro g4 uc4 w4 hown4 hgrow4 hlie4 hlt4; obtain ⟨a4, f4, hD4, hG4, hF4⟩ := DA.addN HDR.out z HZ.out.1 HZ.out.2 HJ.out (wr.heap.size + 1) (wr.heap.size) HOR2.out g4 uc4 _ w4 rfl hown4 hgrow4 hlie4; have HD4 := hid hD4; have HG4 := hid hG4; have HF4 := hid hF4; clear hD4 hG4 hF4 hown4 hgrow4 hlie4 hlt4))
      all_goals
        have HE := hid (show nk (X.take (j + 1)) = { nk (X.take j) with U := (nk (X.take j)).U ++ [un (z : Int)] } by rw [HTK.out]; simp [nk])
        have HBn := hid (HS.out.2.2.1.drew.trans (HG4.out.below (B := W.heap.size) (fun x hx => by
          rcases List.mem_cons.1 hx with rfl | hx
          · omega
          · exact HS.out.2.2.2 x (fp_u hx)) (by show W.heap.size ≤ wr.heap.size; omega)))
        have HFr := hid (show ∀ x ∈ fp (W.heap.size + 1) _, W.heap.size ≤ x from fun x hx => (HF4.out x hx).elim (fun h => HS.out.2.2.2 x h) (fun h => by have h9 : wr.heap.size ≤ x := h; omega))
        obtain ⟨c9, hN⟩ : ∃ c9 : Co, c9.mn = 0 ∧ DA (w4.setCell ⟨W.heap.size + 1, 0, none⟩ (.slice (some ⟨g4, 0, none⟩) ((nk (X.take j)).U.length + 1) uc4)) (W.heap.size + 1) c9 (nk (X.take (j + 1))) ∧ Below W.heap.size W (w4.setCell ⟨W.heap.size + 1, 0, none⟩ (.slice (some ⟨g4, 0, none⟩) ((nk (X.take j)).U.length + 1) uc4)) ∧ ∀ x ∈ fp (W.heap.size + 1) c9, W.heap.size ≤ x := by
          refine ⟨_, ?_, ?_, HBn.out, HFr.out⟩
          · exact HS.out.1
          · rw [HE.out]; exact HD4.out
        have HN := hid hN
        clear hN
        clear HD4 HG4 HF4 HBn HFr HE a4 f4 x0 c0 f0 hmk
        go_wp2_with fail
        go_roundw
        case rel => exact ⟨j + 1, c9, by omega, by go_num, HN⟩
        case measure => simp [intOf]; omega
    · obtain rfl : j = X.length := by omega
      have hlt' : ¬ (X.length : Int) < (X.length : Int) := by omega
      go_wp2_with fail
      go_ret2
      exact ⟨W.heap.size + 1, rfl, hid ⟨c, HS.out.1, by have := HS.out.2.1; rw [List.take_length] at this; exact this, HS.out.2.2.1, HS.out.2.2.2⟩⟩
end Go.Proofs.Ytbgbjgedjmhcaaa.OldD
namespace Go.Proofs.Ytbgbjgedjmhcaaa.OldD
open Go.ChangeShapes Go.WideShapes Go.ChangeAt Go.RowKit
def Kp (R : List Nat) (W W' : World) : Prop := W.heap.size ≤ W'.heap.size ∧ ∀ r ∈ R, W'.heap[r]? = W.heap[r]?
theorem Kp.refl (R : List Nat) (W : World) : Kp R W W := ⟨Nat.le_refl _, fun _ _ => rfl⟩
theorem Kp.trans {R : List Nat} {a b c : World} (h : Kp R a b) (k : Kp R b c) : Kp R a c := ⟨Nat.le_trans h.1 k.1, fun r hr => (k.2 r hr).trans (h.2 r hr)⟩
theorem Kp.cell {R : List Nat} {a b : World} (h : Kp R a b) {p : Addr} (hp : p.block ∈ R) : b.cell? p = a.cell? p := World.cell?_of_block (h.2 _ hp)
structure OwnD (B : Nat) (W0 W : World) (A : Nat) (k : Dk) (R : List Nat) (c : Co) : Prop where
  da : DA W A c k
  mn : c.mn ≤ 1000000
  bel : Below B W0 W
  bb : B ≤ W0.heap.size
  fpb : ∀ x ∈ fp A c, B ≤ x ∧ x ∉ R
  res : ∀ x ∈ R, B ≤ x ∧ x < W.heap.size
def Own (B : Nat) (W0 W : World) (A : Nat) (k : Dk) (R : List Nat) : Prop := ∃ c, OwnD B W0 W A k R c
theorem OwnD.le {B : Nat} {W0 W : World} {A : Nat} {k : Dk} {R : List Nat} {c : Co} (h : OwnD B W0 W A k R c) : B ≤ W.heap.size := Nat.le_trans h.bb h.bel.size
theorem Own.bel {B : Nat} {W0 W : World} {A : Nat} {k : Dk} {R : List Nat} (h : Own B W0 W A k R) : Below B W0 W := by obtain ⟨c, h⟩ := h; exact h.bel
theorem Own.le {B : Nat} {W0 W : World} {A : Nat} {k : Dk} {R : List Nat} (h : Own B W0 W A k R) : B ≤ W.heap.size := by obtain ⟨c, h⟩ := h; exact h.le
theorem OwnD.step {B : Nat} {W0 W W' : World} {A : Nat} {k k' : Dk} {R : List Nat} {c c' : Co} (h : OwnD B W0 W A k R c) (hd : DA W' A c' k') (hm : c'.mn ≤ 1000000) (hg : Gr (fp A c) W W') (hf : Fresh W A c c') : Own B W0 W' A k' R ∧ Kp R W W' := by
  refine ⟨⟨c', hd, hm, h.bel.trans (hg.below (fun x hx => (h.fpb x hx).1) h.le), h.bb, fun x hx => ?_, fun x hx => ⟨(h.res x hx).1, Nat.lt_of_lt_of_le (h.res x hx).2 hg.size⟩⟩, hg.size, fun r hr => hg.block r (h.res r hr).2 (fun hx => (h.fpb r hx).2 hr)⟩
  rcases hf x hx with h1 | h1
  · exact h.fpb x h1
  · have := h.le
    exact ⟨by omega, fun hr => by have := (h.res x hr).2; omega⟩
theorem OwnD.below {B : Nat} {W0 W W' : World} {A : Nat} {k : Dk} {R : List Nat} {c : Co} (h : OwnD B W0 W A k R c) (hb : Below W.heap.size W W') : OwnD B W0 W' A k R c ∧ Kp R W W' :=
  ⟨⟨h.da.below hb, h.mn, h.bel.trans (hb.mono h.le), h.bb, h.fpb, fun x hx => ⟨(h.res x hx).1, Nat.lt_of_lt_of_le (h.res x hx).2 hb.size⟩⟩, hb.size, fun r hr => hb.block r (h.res r hr).2⟩
theorem Own.below {B : Nat} {W0 W W' : World} {A : Nat} {k : Dk} {R : List Nat} (h : Own B W0 W A k R) (hb : Below W.heap.size W W') : Own B W0 W' A k R ∧ Kp R W W' := by
  obtain ⟨c, h⟩ := h
  exact ⟨⟨c, (h.below hb).1⟩, (h.below hb).2⟩
theorem Own.more {B : Nat} {W0 W W' : World} {A : Nat} {k : Dk} {R : List Nat} (h : Own B W0 W A k R) (hb : Below W.heap.size W W') (r : Nat) (h1 : W.heap.size ≤ r) (h2 : r < W'.heap.size) : Own B W0 W' A k (r :: R) := by
  obtain ⟨c, h⟩ := h
  have h' := (h.below hb).1
  refine ⟨c, h'.da, h'.mn, h'.bel, h'.bb, fun x hx => ⟨(h'.fpb x hx).1, fun hr => ?_⟩, fun x hx => ?_⟩
  · rcases List.mem_cons.1 hr with rfl | hr
    · have := h.da.fp_lt _ hx; omega
    · exact (h'.fpb x hx).2 hr
  · rcases List.mem_cons.1 hx with rfl | hx
    · exact ⟨by have := h.le; omega, h2⟩
    · exact h'.res x hx
theorem Own.wrote {B : Nat} {W0 W W' : World} {A : Nat} {k : Dk} {R : List Nat} (h : Own B W0 W A k R) (S : List Nat) (hS : ∀ x ∈ S, x ∈ R) (hg : Gr S W W') : Own B W0 W' A k R := by
  obtain ⟨c, h⟩ := h
  exact ⟨c, h.da.gr hg (fun x hx hs => (h.fpb x hx).2 (hS x hs)), h.mn, h.bel.trans (hg.below (fun x hx => (h.res x (hS x hx)).1) h.le), h.bb, h.fpb, fun x hx => ⟨(h.res x hx).1, Nat.lt_of_lt_of_le (h.res x hx).2 hg.size⟩⟩
end Go.Proofs.Ytbgbjgedjmhcaaa.OldD
namespace Go.Proofs.Ytbgbjgedjmhcaaa.OldD
open Go.ChangeShapes Go.WideShapes Go.ChangeAt Go.RowKit
end Go.Proofs.Ytbgbjgedjmhcaaa.OldD
namespace Go.Proofs.Ytbgbjgedjmhcaaa.OldD
open Go.ChangeShapes Go.WideShapes Go.ChangeAt Go.RowKit
theorem Row.copy {w : World} {p cp q cq : Nat} {D N : List Int} (hD : Row w p cp D) (hN : Row w q cq N) (hl : D.length = N.length) (h1 : 1 ≤ N.length) (ty : TypeId) :
    ∃ w', (Builtin.copy_ #[25, 25] ty #[.slice (some ⟨p, 0, none⟩) N.length cp, .slice (some ⟨q, 0, none⟩) N.length cq]).run Try.prog w = .ok (goInt N.length) w' ∧ Row w' p cp N ∧ Gr [p] w w' := by
  rcases hD.2 with ⟨h2, _⟩ | ⟨g, cap, cur, h2, hb, hg, hnc, hcm, hcs, htake⟩
  · simp at h2
  · simp only [Value.slice.injEq, Option.some.injEq, Addr.mk.injEq, and_true, true_and] at h2
    obtain ⟨rfl, rfl⟩ := h2
    have hvl := vu_len N
    have hrun := run_copy_row (P := Try.prog) w 25 25 ty 22 p 0 N.length cp ⟨q, 0, none⟩ N.length cq cur 22 (vu N) Try.underlying25 (by kernel_rfl) hg (by rw [hvl]; simp) hN.news (by rw [hvl, hcs]; omega) (one_vu N)
    rw [hvl] at hrun
    refine ⟨_, hrun, ⟨by rw [hvl]; omega, .inr ⟨p, cp, _, rfl, hb, setRow_heap _ _ _ _ _ _ hg, by omega, hcm, ?_, ?_⟩⟩, ?_⟩
    · simp [hvl]; omega
    · rw [List.toList_toArray, Nat.mul_one]
      rw [List.take_zero, List.nil_append, List.take_left' hvl]
    · exact ⟨rfl, rfl, rfl, by simp [World.setRow], fun k hk hn => setRow_other _ _ _ _ (by intro e; apply hn; rw [e]; simp)⟩
theorem Row.kp {R : List Nat} {w w' : World} {g c : Nat} {X : List Int} (h : Row w g c X) (hk : Kp R w w') (hg : g ∈ R) : Row w' g c X := by
  refine ⟨h.1, ?_⟩
  rcases h.2 with hn | ⟨g', cap, cur, e, hb, hgg, rest⟩
  · exact .inl hn
  · refine .inr ⟨g', cap, cur, e, hb, ?_, rest⟩
    simp only [Value.slice.injEq, Option.some.injEq, Addr.mk.injEq, and_true, true_and] at e
    rw [← e.1, hk.2 g hg, e.1]
    exact hgg
def ap (F : List Wr) (X : List Int) : List Int := F.foldl (fun X w => X.set w.at' w.v) X
theorem ge_set (X : List Int) (i : Nat) (v : Int) (j : Nat) : ge (X.set i v) j = if i = j ∧ i < X.length then v else ge X j := by
  unfold ge
  rw [List.getElem?_set]
  by_cases h : i = j
  · subst h
    by_cases h2 : i < X.length
    · simp [h2]
    · simp [h2, List.getElem?_eq_none (Nat.not_lt.1 h2)]
  · rw [if_neg h, if_neg (by omega)]
end Go.Proofs.Ytbgbjgedjmhcaaa.OldD
namespace Go.Proofs.Ytbgbjgedjmhcaaa.OldD
open Go.ChangeShapes Go.WideShapes Go.ChangeAt Go.RowKit
section
variable {W W' : World} {A : Nat} {c : Co} {k : Dk}
theorem DA.rowN (h : DA W A c k) {d : Nat} (hd : d < k.U.length) {X : List Int} (hg : Gr [(gb c.bs d).n] W W') (hr : Row W' (gb c.bs d).n (gb c.bs d).cn X) (hl : X.length = (gu k.U d).now.length) :
    DA W' A c { k with U := k.U.set d { gu k.U d with now := X } } := by
  have hd' : d < c.bs.length := by rw [h.lb]; exact hd
  refine h.setU _ (by simp) hg (fun x hx => by obtain rfl := List.mem_singleton.1 hx; exact h.sep.n1 d hd') (fun i hi => ?_) (fun i hi => ?_) (fun i hi => ?_)
  · have hi' : i < k.U.length := by simpa using hi
    rw [gu_set]
    by_cases e : i = d
    · subst e; rw [if_pos ⟨rfl, hi'⟩]; exact ⟨hl, rfl, by show (gu k.U i).dur.length = X.length; rw [hl]; exact h.ld i hi'⟩
    · rw [if_neg (by omega)]; exact ⟨rfl, rfl, h.ld i hi'⟩
  · have hi' : i < k.U.length := by simpa using hi
    rw [gu_set]
    by_cases e : i = d
    · subst e; rw [if_pos ⟨rfl, hi'⟩]; exact hr
    · rw [if_neg (by omega)]
      exact (h.rn i hi').gr hg (fun x => (h.sep.nn i d (by rw [h.lb]; exact hi') hd' e).1 (List.mem_singleton.1 x))
  · have hi' : i < k.U.length := by simpa using hi
    have e2 : (gu (k.U.set d { gu k.U d with now := X }) i).dur = (gu k.U i).dur := by
      rw [gu_set]
      by_cases e : i = d
      · subst e; rw [if_pos ⟨rfl, hi'⟩]
      · rw [if_neg (by omega)]
    rw [e2]
    exact (h.rd i hi').gr hg (fun x => h.sep.nd d i hd' (by rw [h.lb]; exact hi') (List.mem_singleton.1 x).symm)
theorem DA.rowD (h : DA W A c k) {d : Nat} (hd : d < k.U.length) {X : List Int} (hg : Gr [(gb c.bs d).d] W W') (hr : Row W' (gb c.bs d).d (gb c.bs d).cd X) (hl : X.length = (gu k.U d).now.length) :
    DA W' A c { k with U := k.U.set d { gu k.U d with dur := X } } := by
  have hd' : d < c.bs.length := by rw [h.lb]; exact hd
  refine h.setU _ (by simp) hg (fun x hx => by obtain rfl := List.mem_singleton.1 hx; exact h.sep.d1 d hd') (fun i hi => ?_) (fun i hi => ?_) (fun i hi => ?_)
  · have hi' : i < k.U.length := by simpa using hi
    rw [gu_set]
    by_cases e : i = d
    · subst e; rw [if_pos ⟨rfl, hi'⟩]; exact ⟨rfl, rfl, hl⟩
    · rw [if_neg (by omega)]; exact ⟨rfl, rfl, h.ld i hi'⟩
  · have hi' : i < k.U.length := by simpa using hi
    have e2 : (gu (k.U.set d { gu k.U d with dur := X }) i).now = (gu k.U i).now := by
      rw [gu_set]
      by_cases e : i = d
      · subst e; rw [if_pos ⟨rfl, hi'⟩]
      · rw [if_neg (by omega)]
    rw [e2]
    exact (h.rn i hi').gr hg (fun x => h.sep.nd i d (by rw [h.lb]; exact hi') hd' (List.mem_singleton.1 x))
  · have hi' : i < k.U.length := by simpa using hi
    rw [gu_set]
    by_cases e : i = d
    · subst e; rw [if_pos ⟨rfl, hi'⟩]; exact hr
    · rw [if_neg (by omega)]
      exact (h.rd i hi').gr hg (fun x => (h.sep.nn i d (by rw [h.lb]; exact hi') hd' e).2 (List.mem_singleton.1 x))
end
theorem delf_ok {W : World} {b : Nat} {bad : Int → Int → Bool} (h : BM W b 0 bad) (x : Value) :
    Calls Try.prog 100 #[.map (some b), x] W fun e W' => e = .returned (.tuple #[]) ∧ Below W.heap.size W W' := by
  obtain ⟨D, ⟨es, clock, hb, hF, hs, hD⟩, _⟩ := h
  obtain rfl : es = #[] := by
    have : es.size = 0 := by omega
    exact Array.size_eq_zero_iff.1 this
  have hr := run_range_map (P := Try.prog) W 115 120 166 b #[] clock Try.underlying115 hb
  have hn : ∀ ty, (Instr.next (.pointer (some ⟨W.heap.size, 0, none⟩)) false ty).run Try.prog (W.alloc (.mapIter (some b) clock #[] clock)) = .ok (.tuple #[.bool false]) (W.alloc (.mapIter (some b) clock #[] clock)) := fun ty => by
    rcases run_next_map (P := Try.prog) W ty b clock clock #[] #[] clock hb (fun x hx => by simp at hx) (Nat.le_refl _) with ⟨_, h⟩ | ⟨e, he, _⟩
    · exact h
    · simp [leftOf] at he
  have hB := hid ((Below.refl W.heap.size W).alloc (Nat.le_refl _) (.mapIter (some b) clock #[] clock))
  clear hb hF hs hD
  go_enter Try.func100, Try.ntmps100
  go_wp2_with fail
  generalize W.alloc (.mapIter (some b) clock #[] clock) = W1 at *
  go_loopw [9] (fun _ wr => wr = W1) (fun _ _ => 0)
  case atStart => exact rfl
  case round =>
    obtain rfl := hrel
    go_wp2_with fail
    go_end0
    exact ⟨rfl, hB.out⟩
end Go.Proofs.Ytbgbjgedjmhcaaa.OldD
namespace Go.Proofs.Ytbgbjgedjmhcaaa.OldD
open Go.ChangeShapes Go.WideShapes Go.ChangeAt Go.RowKit
attribute [local go_sem] Oper.semAt_some putAll
end Go.Proofs.Ytbgbjgedjmhcaaa.OldD
namespace Go.Proofs.Ytbgbjgedjmhcaaa.OldD
open Go.ChangeShapes Go.WideShapes Go.ChangeAt Go.RowKit
def ldK (k : Dk) (n : Nat) (X : List Int) : Dk := { k with U := k.U.set n { gu k.U n with now := X, dur := X }, F := stF k.F n }
theorem stU_false (d : Nat) (U : List Un) : ∀ F : List Wr, stU d false U F = U := by
  intro F
  unfold stU
  induction F generalizing U with
  | nil => rfl
  | cons w F ih => rw [List.foldl_cons, if_neg (by simp)]; exact ih U
def nowK (k : Dk) (n : Nat) (X : List Int) : Dk := { k with U := k.U.set n { gu k.U n with now := X } }
def durK (k : Dk) (n : Nat) (X : List Int) : Dk := { k with U := k.U.set n { gu k.U n with dur := X } }
theorem gu_nowK {k : Dk} {n : Nat} (hn : n < k.U.length) (X : List Int) : gu (nowK k n X).U n = { gu k.U n with now := X } := by
  unfold nowK; rw [gu_set, if_pos ⟨rfl, hn⟩]
theorem len_nowK (k : Dk) (n : Nat) (X : List Int) : (nowK k n X).U.length = k.U.length := by unfold nowK; simp
theorem len_durK (k : Dk) (n : Nat) (X : List Int) : (durK k n X).U.length = k.U.length := by unfold durK; simp
theorem ldK_eq {k : Dk} {n : Nat} (hn : n < k.U.length) (X : List Int) : { durK (nowK k n X) n X with U := stU n false (durK (nowK k n X) n X).U (durK (nowK k n X) n X).F, F := stF (durK (nowK k n X) n X).F n } = ldK k n X := by
  rw [stU_false]
  unfold ldK durK
  rw [gu_nowK hn]
  unfold nowK
  simp [List.set_set]
set_option maxRecDepth 100000 in
theorem load_ok {W : World} {A : Nat} {c : Co} {k : Dk} (h : DA W A c k) (n : Nat) (hn : n < k.U.length) (g cg : Nat) (X : List Int) (hX : Row W g cg X) (hgn : g ∉ fp A c) (hl : X.length = (gu k.U n).now.length) (hF : k.F.length ≤ 2 ^ 32) (hmn : c.mn = 0) :
    Calls Try.prog 58 #[.pointer (some ⟨A, 0, none⟩), .int .i64 (n : Int), .slice (some ⟨g, 0, none⟩) X.length cg] W fun e W' => e = .returned (.int .i64 0) ∧ Hid (DA W' A c (ldK k n X) ∧ Gr (fp A c) W W') := by
  have hmx : Try.prog.follows .mixedOrders = true := by kernel_rfl
  have hb8 := h.b8
  have hbn := h.bn n hn
  have hb1 := (Below.refl W.heap.size W).alloc (Nat.le_refl _) (.cells #[.int .i64 (n : Int)] 3)
  have H1 := hid (h.below hb1)
  have HX1 := hid (hX.gr (Gr.of_below hb1 []) (by simp))
  have HG1 := hid (Gr.of_below hb1 (fp A c))
  have HD1 := hid (show (W.alloc (.cells #[.int .i64 (n : Int)] 3)).cell? ⟨W.heap.size, 0, none⟩ = some (.int .i64 (n : Int)) by go_simp)
  have HS1 := hid (show W.heap.size < (W.alloc (.cells #[.int .i64 (n : Int)] 3)).heap.size by simp)
  have HNF := hid (show W.heap.size ∉ fp A c from fun hx => Nat.lt_irrefl _ (h.fp_lt _ hx))
  have HGN := hid hgn
  have HN := hid hn
  have HLX := hid hl
  have HFF := hid hF
  have HMN := hid hmn
  have hx1 : 1 ≤ X.length ∧ X.length ≤ 65536 := by omega
  have hlb : ((X.length : Int) != ((gu k.U n).now.length : Int)) = false := by rw [hl]; simp
  have HLB := hid hlb
  clear h hX hgn hl hF hb1 hmn hlb hbn
  go_enter Try.func58, Try.ntmps58
  go_wp2_with fail
  generalize W.alloc (.cells #[.int .i64 (n : Int)] 3) = w1 at *
  refine (has_ok H1.out (n : Int)).mono ?_
  rintro e w1 ⟨rfl, rfl⟩
  rw [hd_iff.2 ⟨n, rfl, HN.out⟩]
  obtain ⟨ub, hub, hul, c1, c2, -, -⟩ := H1.out.unit HN.out
  have c0 := H1.out.c0
  rw [hub] at c0
  have d0 := HD1.out
  have hlb := HLB.out
  have hbu := H1.out.bn n HN.out
  go_wp2_with fail
  go_quiet (fail)
  clear hlb
  have H2 := H1.out.below (W' := w1.drewN nq) (bdn _ _ _)
  have HX2 := HX1.out.gr (Gr.of_below (bdn w1.heap.size w1 nq) []) (by simp)
  have HG2 := HG1.out.trans (Gr.of_below (bdn w1.heap.size w1 nq) (fp A c))
  have d2 : (w1.drewN nq).cell? ⟨W.heap.size, 0, none⟩ = some (.int .i64 (n : Int)) := d0
  have s2 : W.heap.size < (w1.drewN nq).heap.size := HS1.out
  generalize hw2 : w1.drewN nq = w2 at *
  clear hw2 H1 HX1 HG1 HD1 HS1 d0 c0 c1 c2 hub hbu
  obtain ⟨ub, hub, hul, c1, c2, -, -⟩ := H2.unit HN.out
  have c0 := H2.c0
  rw [hub] at c0
  have hbn2 := H2.bn n HN.out
  go_wp2_with fail
  have e1 := HLX.out
  obtain ⟨w4, hrun, hR4, hg4⟩ := (Row.gr (H2.rn n HN.out) (Gr.of_below (Below.refl w2.heap.size w2).drew []) (by simp)).copy (Row.gr HX2 (Gr.of_below (Below.refl w2.heap.size w2).drew []) (by simp)) e1.symm hx1.1 3
  rw [e1] at hrun
  go_still_tail 9, (by kernel_rfl)
  repeat still_step
  change wpList _ _ _ _ _ w2.drew
  have H3 := H2.below (W' := w2.drew) (Below.refl _ _).drew
  have HX3 := HX2.gr (Gr.of_below (Below.refl w2.heap.size w2).drew []) (by simp)
  have HG3 := HG2.trans (Gr.of_below (Below.refl w2.heap.size w2).drew (fp A c))
  have d3 : w2.drew.cell? ⟨W.heap.size, 0, none⟩ = some (.int .i64 (n : Int)) := d2
  have s3 : W.heap.size < w2.drew.heap.size := s2
  have hfn : (gb c.bs n).n ∈ fp A c := fp_n (by rw [H3.lb]; exact HN.out)
  have H4 := hid (show DA w4 A c (nowK k n X) from H3.rowN HN.out hg4 hR4 e1)
  have HG4 := hid (HG3.trans (hg4.mono (T := fp A c) (fun x hx => by obtain rfl := List.mem_singleton.1 hx; exact hfn)))
  have HX4 := hid (HX3.gr hg4 (by rw [List.mem_singleton]; intro e; exact HGN.out (e ▸ hfn)))
  have HD4 := hid (box_kept d3 s3 (hg4.mono (T := fp A c) (fun x hx => by obtain rfl := List.mem_singleton.1 hx; exact hfn)) HNF.out)
  have HS4 := hid (Nat.lt_of_lt_of_le s3 hg4.size)
  have HE := hid (ldK_eq HN.out X)
  have HL4 := hid (show (gu (nowK k n X).U n).now.length = (gu k.U n).now.length by rw [gu_nowK HN.out]; exact e1)
  have HN4 := hid (show n < (nowK k n X).U.length by rw [len_nowK]; exact HN.out)
  have HF4 := hid (show (nowK k n X).F.length ≤ 2 ^ 32 from HFF.out)
  have HB4 := hid (show (nowK k n X).bad = k.bad from rfl)
  clear H2 HX2 HG2 d2 s2 H3 HX3 HG3 d3 s3 hfn hR4 hg4 hub c0 c1 c2 hul
  generalize nowK k n X = k4 at *
  obtain ⟨ub, hub, hul, c1, c2, -, -⟩ := H4.out.unit HN4.out
  have c0 := H4.out.c0
  rw [hub] at c0
  have hbn4 := H4.out.bn n HN4.out
  have hb84 := H4.out.b8
  have hul4 : n < k4.U.length := HN4.out
  have d4 := HD4.out
  rw [HL4.out] at c2 hbn4
  go_wp2_with fail
  clear hrun
  obtain ⟨w5, hrun, hR5, hg5⟩ := (Row.gr (H4.out.rd n HN4.out) (Gr.of_below (Below.refl w4.heap.size w4).drew []) (by simp)).copy (Row.gr HX4.out (Gr.of_below (Below.refl w4.heap.size w4).drew []) (by simp)) ((H4.out.ld n HN4.out).trans (HL4.out.trans e1.symm)) hx1.1 3
  rw [e1] at hrun
  go_still_tail 9, (by kernel_rfl)
  repeat still_step
  change wpList _ _ _ _ _ w4.drew
  have H5 := H4.out.below (W' := w4.drew) (Below.refl _ _).drew
  have HG5 := HG4.out.trans (Gr.of_below (Below.refl w4.heap.size w4).drew (fp A c))
  have d5 : w4.drew.cell? ⟨W.heap.size, 0, none⟩ = some (.int .i64 (n : Int)) := d4
  have s5 : W.heap.size < w4.drew.heap.size := HS4.out
  have hfd : (gb c.bs n).d ∈ fp A c := fp_d (by rw [H5.lb]; exact HN4.out)
  have H6 := hid (show DA w5 A c (durK k4 n X) from H5.rowD HN4.out hg5 hR5 (e1.trans HL4.out.symm))
  have HG6 := hid (HG5.trans (hg5.mono (T := fp A c) (fun x hx => by obtain rfl := List.mem_singleton.1 hx; exact hfd)))
  have HD6 := hid (box_kept d5 s5 (hg5.mono (T := fp A c) (fun x hx => by obtain rfl := List.mem_singleton.1 hx; exact hfd)) HNF.out)
  have HS6 := hid (Nat.lt_of_lt_of_le s5 hg5.size)
  have HN6 := hid (show n < (durK k4 n X).U.length by rw [len_durK]; exact HN4.out)
  have HF6 := hid (show (durK k4 n X).F.length ≤ 2 ^ 32 from HF4.out)
  clear H4 HX4 HG4 HD4 HS4 HL4 HN4 HF4 H5 HG5 d5 s5 d4 hfd hR5 hg5 hub c0 c1 c2 hul hbn4 hb84 hul4
  generalize durK k4 n X = k6 at *
  have d6 := HD6.out
  go_wp2_with fail
  refine (settle_ok H6.out n HN6.out HF6.out 99 false (fun args w => enters_of Try.func99 (by kernel_rfl) rfl args w) surv61).mono ?_
  rintro e w7 ⟨rfl, HS⟩
  rw [HE.out] at HS
  have H7 := hid HS.out.1
  have HG7 := hid (HG6.out.trans HS.out.2)
  have HD7 := hid (box_kept d6 HS6.out HS.out.2 HNF.out)
  clear HS H6 HG6 HD6 HS6 HN6 HF6 HE d6
  have d7 := HD7.out
  have c0 := H7.out.c1
  have HM7 := hid (show BM w7 c.mb 0 (ldK k n X).bad by rw [← HMN.out]; exact H7.out.mp)
  go_wp2_with fail
  refine (delf_ok HM7.out _).mono ?_
  rintro e w8 ⟨rfl, hb8⟩
  have H8 := hid (H7.out.below hb8)
  have HG8 := hid (HG7.out.trans (Gr.of_below hb8 (fp A c)))
  clear H7 HG7 HM7 d7 c0 hb8 HD7
  go_wp2_with fail
  go_ret
  exact ⟨rfl, hid ⟨H8.out, HG8.out⟩⟩
end Go.Proofs.Ytbgbjgedjmhcaaa.OldD
