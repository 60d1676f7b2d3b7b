/- Arrays of disks in memory: worlds that go on, rows of structs, an array's block and what it leads to. No conditions but those of each theorem. -/
import Derived.Test.YtfaeieeokelokaaRows
import Derived.WalkKit
import Derived.ProofKit
import Derived.OpenShut
import Derived.LoopTactic
import Derived.Outline
import Derived.Below
import Derived.WalkLawsBesides
import Derived.WalkSpells
import Derived.Deep.QuietTactic
import Derived.BigQuiet
import Derived.Laws.BitsAllLaws
import Derived.Laws.OwnMore
import Derived.Laws.AppendOwn
import Derived.Laws.CopyOwn
import Derived.OwnWalk
import Derived.Lib.SmallJoins
import Derived.StillTailTactics
import Derived.Lib.Slices
import Derived.Lib.Walk
import Derived.Maps.OwnSet
import Derived.DeepKeys4
namespace Go.Proofs.Ytfaeieeokelokaa
open Go.ChangeShapes Go.WideShapes Go.ChangeAt Go.RowKit
set_option linter.unusedVariables false
set_option linter.unusedSimpArgs false

theorem hid {p : Prop} (h : p) : Hid p := h
theorem bt {W a b : World} (h : Below W.heap.size W a) (k : Below a.heap.size a b) : Below W.heap.size W b := h.trans (k.mono h.size)
theorem bdn (k : Nat) (w : World) (n : Nat) : Below k w (w.drewN n) := ⟨rfl, rfl, rfl, Nat.le_refl _, fun _ _ => rfl⟩

/-- a world that goes on from another one: what was there stays, but for the blocks of S -/
structure Gr (S : List Nat) (w w' : World) : Prop where
  os : w'.os = w.os
  tape : w'.tape = w.tape
  output : w'.output = w.output
  size : w.heap.size ≤ w'.heap.size
  block : ∀ k, k < w.heap.size → k ∉ S → w'.heap[k]? = w.heap[k]?
theorem Gr.refl (S : List Nat) (w : World) : Gr S w w := ⟨rfl, rfl, rfl, Nat.le_refl _, fun _ _ _ => rfl⟩
theorem Gr.trans {S : List Nat} {a b c : World} (h : Gr S a b) (k : Gr S b c) : Gr S a c :=
  ⟨k.os.trans h.os, k.tape.trans h.tape, k.output.trans h.output, Nat.le_trans h.size k.size, fun i hi hn => (k.block i (Nat.lt_of_lt_of_le hi h.size) hn).trans (h.block i hi hn)⟩
theorem Gr.mono {S T : List Nat} {a b : World} (h : Gr S a b) (hs : ∀ x ∈ S, x ∈ T) : Gr T a b :=
  ⟨h.os, h.tape, h.output, h.size, fun i hi hn => h.block i hi (fun hx => hn (hs i hx))⟩
/-- the same, where what is not in T was made by the first step -/
theorem Gr.trans2 {S T : List Nat} {a b c : World} (h : Gr S a b) (k : Gr T b c) (hs : ∀ x ∈ T, x ∈ S ∨ a.heap.size ≤ x) : Gr S a c :=
  ⟨k.os.trans h.os, k.tape.trans h.tape, k.output.trans h.output, Nat.le_trans h.size k.size, fun i hi hn => (k.block i (Nat.lt_of_lt_of_le hi h.size) (fun hx => by rcases hs i hx with h1 | h1; exact hn h1; omega)).trans (h.block i hi hn)⟩
theorem Gr.of_below {a b : World} (h : Below a.heap.size a b) (S : List Nat) : Gr S a b := ⟨h.os, h.tape, h.output, h.size, fun i hi _ => h.block i hi⟩
theorem Gr.of_grown {a b : World} {r : Option Nat} (h : a.grownBy b r) {S : List Nat} (hs : ∀ k, r = some k → k ∈ S) : Gr S a b :=
  ⟨h.os, h.tape, h.output, h.size, fun i hi hn => h.block i hi (fun e => hn (hs i e.symm))⟩
theorem Gr.below {S : List Nat} {a b : World} (h : Gr S a b) {B : Nat} (hs : ∀ x ∈ S, B ≤ x) (hB : B ≤ a.heap.size) : Below B a b :=
  ⟨h.os, h.tape, h.output, h.size, fun i hi => h.block i (Nat.lt_of_lt_of_le hi hB) (fun hx => by have := hs i hx; omega)⟩
theorem Gr.cell {S : List Nat} {a b : World} (h : Gr S a b) {p : Addr} (hp : p.block < a.heap.size) (hn : p.block ∉ S) : b.cell? p = a.cell? p := World.cell?_of_block (h.block _ hp hn)
theorem Gr.grown {a b : World} {g : Nat} (h : Gr [g] a b) : a.grownBy b (some g) :=
  ⟨h.os, h.tape, h.output, h.size, fun i hi hne => h.block i hi (fun hx => hne (by rw [List.mem_singleton.1 hx]))⟩
theorem own_gr {w w' : World} {base : Nat} {e : TypeId} {size : Nat} {v : Value} {n : Nat} {xs : List Value} {S : List Nat} (h : w.ownsRow base e size v n xs) (hg : Gr S w w') (hne : ∀ g, v.ownBlock = some g → g ∉ S) : w'.ownsRow base e size v n xs := by
  refine ⟨h.1, ?_⟩
  rcases h.2 with hn | ⟨g, cap, cur, rfl, hb, hgg, rest⟩
  · exact .inl hn
  · refine .inr ⟨g, cap, cur, rfl, hb, ?_, rest⟩
    rw [hg.block g (Array.getElem?_eq_some_iff.1 hgg).1 (hne g rfl)]
    exact hgg
theorem map_gr {H : Type} {P : Program} {k : TypeId} {R : Value → Option (DataW H × List MemPlace)} {w w' : World} {b n : Nat} {D : DataW H} {S : List Nat} (h : w.ownsMap P k R b n D) (hg : Gr S w w') (hne : b ∉ S) : w'.ownsMap P k R b n D := by
  have hlt := h.lt
  obtain ⟨es, clock, hb, F, hs, hD⟩ := h
  exact ⟨es, clock, (hg.block b hlt hne).trans hb, F, hs, hD⟩
theorem set_gr (W : World) (B off : Nat) (v : Value) : Gr [B] W (W.setCell ⟨B, off, none⟩ v) :=
  ⟨rfl, rfl, rfl, by simp, fun i _ hne => heap_setCell_other _ _ _ _ (fun e => hne (by rw [e]; simp))⟩
theorem own_blk {w : World} {base : Nat} {e : TypeId} {size : Nat} {a : Option Addr} {n c : Nat} {xs : List Value} (h : w.ownsRow base e size (.slice a n c) n xs) : (a = none ∧ n = 0 ∧ c = 0) ∨ ∃ g, a = some ⟨g, 0, none⟩ := by
  rcases h.2 with ⟨h1, h2⟩ | ⟨g, cap, cur, h1, _⟩
  · simp only [Value.slice.injEq] at h1
    exact .inl ⟨h1.1, h2, h1.2.2⟩
  · simp only [Value.slice.injEq] at h1
    exact .inr ⟨g, h1.1⟩
theorem own_pos {w : World} {base : Nat} {e : TypeId} {size : Nat} {a : Option Addr} {n c : Nat} {xs : List Value} (h : w.ownsRow base e size (.slice a n c) n xs) (hn : 0 < n) : ∃ g, a = some ⟨g, 0, none⟩ := by
  rcases own_blk h with ⟨_, h1, _⟩ | h1
  · omega
  · exact h1
theorem own_lt {w : World} {base : Nat} {e : TypeId} {size : Nat} {g n c : Nat} {xs : List Value} (h : w.ownsRow base e size (.slice (some ⟨g, 0, none⟩) n c) n xs) : g < w.heap.size := (World.ownsRow.lt h g rfl).2
theorem own_cap {w : World} {base : Nat} {e : TypeId} {size : Nat} {a : Option Addr} {n c : Nat} {xs : List Value} (h : w.ownsRow base e size (.slice a n c) n xs) : n ≤ c ∧ c ≤ maxLen := by
  rcases h.2 with ⟨h1, h2⟩ | ⟨g, cap, cur, h1, _, _, h3, h4, _⟩
  · simp only [Value.slice.injEq] at h1
    omega
  · simp only [Value.slice.injEq] at h1
    obtain ⟨_, _, rfl⟩ := h1
    exact ⟨h3, h4⟩

/-- the cells of n structs of m cells each -/
def ck (m n : Nat) (f : Nat → Nat → Value) : List Value := (List.range (n * m)).map fun t => f (t / m) (t % m)
theorem ck_len (m n : Nat) (f : Nat → Nat → Value) : (ck m n f).length = n * m := by simp [ck]
theorem ck_get (m n : Nat) (f : Nat → Nat → Value) (t : Nat) : (ck m n f)[t]? = if t < n * m then some (f (t / m) (t % m)) else none := by
  unfold ck
  rw [List.getElem?_map]
  by_cases h : t < n * m
  · rw [if_pos h, List.getElem?_eq_getElem (by simpa using h)]; simp
  · rw [if_neg h, List.getElem?_eq_none (by simpa using h)]; rfl
theorem lt_mul {m n i j : Nat} (hi : i < n) (hj : j < m) : i * m + j < n * m := by
  have : (i + 1) * m ≤ n * m := Nat.mul_le_mul_right m hi
  rw [Nat.add_mul, Nat.one_mul] at this
  omega
theorem div_at {m i j : Nat} (hj : j < m) : (i * m + j) / m = i := by
  rw [Nat.mul_comm, Nat.mul_add_div (by omega), Nat.div_eq_of_lt hj, Nat.add_zero]
theorem mod_at {m i j : Nat} (hj : j < m) : (i * m + j) % m = j := by
  rw [Nat.mul_comm, Nat.mul_add_mod, Nat.mod_eq_of_lt hj]
theorem ck_at {m n : Nat} (f : Nat → Nat → Value) {i j : Nat} (hi : i < n) (hj : j < m) : (ck m n f)[i * m + j]? = some (f i j) := by
  rw [ck_get, if_pos (lt_mul hi hj), div_at hj, mod_at hj]
theorem ck_congr {m n : Nat} {f g : Nat → Nat → Value} (h : ∀ i j, i < n → j < m → f i j = g i j) : ck m n f = ck m n g := by
  unfold ck
  refine List.map_congr_left fun t ht => ?_
  have ht' : t < n * m := by simpa using ht
  have hm : 0 < m := by
    rcases Nat.eq_zero_or_pos m with h0 | h0
    · subst h0; omega
    · exact h0
  exact h _ _ (Nat.div_lt_of_lt_mul (by rw [Nat.mul_comm]; exact ht')) (Nat.mod_lt _ hm)
theorem ck_set {m n : Nat} (f : Nat → Nat → Value) {i j : Nat} (hj : j < m) (v : Value) : (ck m n f).set (i * m + j) v = ck m n (fun a b => if a = i ∧ b = j then v else f a b) := by
  apply List.ext_getElem?
  intro t
  rw [List.getElem?_set, ck_get, ck_get, ck_len]
  by_cases ht : t < n * m
  · by_cases h : i * m + j = t
    · subst h
      rw [if_pos rfl, if_pos ht, if_pos ht, div_at hj, mod_at hj, if_pos ⟨rfl, rfl⟩]
    · rw [if_neg h, if_pos ht, if_pos ht, if_neg]
      intro ⟨h1, h2⟩
      apply h
      rw [← h1, ← h2, Nat.mul_comm]
      exact Nat.div_add_mod t m
  · rw [if_neg ht, if_neg ht]
    split
    · rename_i h; subst h; rw [if_neg ht]
    · rfl
theorem ck_app {m n k : Nat} (f g : Nat → Nat → Value) : ck m n f ++ ck m k g = ck m (n + k) (fun a b => if a < n then f a b else g (a - n) b) := by
  apply List.ext_getElem?
  intro t
  rw [List.getElem?_append, ck_len, ck_get, ck_get, ck_get, Nat.add_mul]
  by_cases h : t < n * m
  · have hm : 0 < m := by
      rcases Nat.eq_zero_or_pos m with h0 | h0
      · subst h0; omega
      · exact h0
    rw [if_pos h, if_pos h, if_pos (by omega), if_pos (Nat.div_lt_of_lt_mul (by rw [Nat.mul_comm]; exact h))]
  · rw [if_neg h]
    by_cases h2 : t - n * m < k * m
    · have hm : 0 < m := by
        rcases Nat.eq_zero_or_pos m with h0 | h0
        · subst h0; omega
        · exact h0
      have e1 : t / m = (t - n * m) / m + n := by
        conv => lhs; rw [show t = (t - n * m) + n * m by omega]
        rw [Nat.add_mul_div_right _ _ hm]
      have e2 : t % m = (t - n * m) % m := by
        conv => lhs; rw [show t = (t - n * m) + n * m by omega]
        rw [Nat.add_mul_mod_self_right]
      rw [if_pos h2, if_pos (by omega), e1, if_neg (Nat.not_lt.2 (Nat.le_add_left _ _)), e2, Nat.add_sub_cancel]
    · rw [if_neg h2, if_neg (by omega)]
theorem ck_take {m n k : Nat} (f : Nat → Nat → Value) (h : k ≤ n) : (ck m n f).take (k * m) = ck m k f := by
  apply List.ext_getElem?
  intro t
  have : k * m ≤ n * m := Nat.mul_le_mul_right m h
  rw [List.getElem?_take, ck_get, ck_get]
  by_cases h1 : t < k * m
  · rw [if_pos h1, if_pos h1, if_pos (by omega)]
  · rw [if_neg h1, if_neg h1]
theorem ck_mem {m n : Nat} {f : Nat → Nat → Value} {p : Value → Prop} (h : ∀ i j, p (f i j)) : ∀ u ∈ ck m n f, p u := by
  intro u hu
  obtain ⟨t, _, rfl⟩ := List.mem_map.1 hu
  exact h _ _

/-- words as cells -/
def vu (X : List Int) : List Value := X.map (.int .u64)
/-- element j, or 0 -/
def ge (X : List Int) (j : Nat) : Int := X[j]?.getD 0
theorem vu_at (X : List Int) (j : Nat) (h : j < X.length) : (vu X)[j]? = some (.int .u64 (ge X j)) := by
  simp [vu, ge, List.getElem?_eq_getElem h]
theorem vu_set (X : List Int) (j : Nat) (x : Int) : (vu X).set j (.int .u64 x) = vu (X.set j x) := by simp [vu, List.map_set]
theorem one_vu (X : List Int) : ∀ u ∈ vu X, u.oneCell' = true := by
  intro u hu
  obtain ⟨x, _, rfl⟩ := List.mem_map.1 hu
  rfl
/-- a row of words of the call's own, at the head of block g -/
def Row (w : World) (g cap : Nat) (X : List Int) : Prop := w.ownsRow 0 26 1 (.slice (some ⟨g, 0, none⟩) X.length cap) X.length (vu X)
theorem Row.lt {w : World} {g cap : Nat} {X : List Int} (h : Row w g cap X) : g < w.heap.size := own_lt h
theorem Row.at {w : World} {g cap : Nat} {X : List Int} (h : Row w g cap X) (j : Nat) (hj : j < X.length) : w.cell? ⟨g, j, none⟩ = some (.int .u64 (ge X j)) := by
  rw [World.ownsRow.cellAt h j (by omega), vu_at X j hj]
theorem Row.frozen {w : World} {g cap : Nat} {X : List Int} (h : Row w g cap X) (j : Nat) : w.frozen? ⟨g, j, none⟩ = false := World.ownsRow.frozenAt h j
theorem Row.set {w : World} {g cap : Nat} {X : List Int} (h : Row w g cap X) (j : Nat) (x : Int) : Row (w.setCell ⟨g, j, none⟩ (.int .u64 x)) g cap (X.set j x) := by
  have h1 := (World.ownsRow.stored h j (.int .u64 x)).1
  unfold Row
  rw [List.length_set, ← vu_set]
  exact h1
theorem Row.gr {w w' : World} {g cap : Nat} {X : List Int} {S : List Nat} (h : Row w g cap X) (hg : Gr S w w') (hne : g ∉ S) : Row w' g cap X :=
  own_gr h hg (fun k hk => by cases hk; exact hne)

/-- one disk: what it reads, what is durable, whether it is missing -/
structure Un where
  now : List Int
  dur : List Int
  mis : Bool
/-- an unflushed write -/
structure Wr where
  d : Nat
  at' : Nat
  v : Int
/-- an array of disks -/
structure Dk where
  U : List Un
  bad : Int → Int → Bool
  F : List Wr
  fuse : Int
  down : Bool
  wr : Int
/-- the blocks and capacities of a disk's rows -/
structure UB where
  n : Nat
  cn : Nat
  d : Nat
  cd : Nat
/-- the blocks and capacities of an array -/
structure Co where
  ua : Option Addr
  uc : Nat
  fa : Option Addr
  fc : Nat
  mb : Nat
  mn : Nat
  bs : List UB
def gu (U : List Un) (i : Nat) : Un := U[i]?.getD ⟨[], [], false⟩
def gb (bs : List UB) (i : Nat) : UB := bs[i]?.getD ⟨0, 0, 0, 0⟩
def gf (F : List Wr) (i : Nat) : Wr := F[i]?.getD ⟨0, 0, 0⟩
def oblk : Option Addr → List Nat
  | none => []
  | some a => [a.block]
def fp (A : Nat) (c : Co) : List Nat := A :: c.mb :: (oblk c.ua ++ (oblk c.fa ++ c.bs.flatMap fun b => [b.n, b.d]))
theorem fp_n {A : Nat} {c : Co} {i : Nat} (h : i < c.bs.length) : (gb c.bs i).n ∈ fp A c := by
  unfold fp gb
  rw [List.getElem?_eq_getElem h]
  simp only [List.mem_cons, List.mem_append, List.mem_flatMap]
  exact .inr (.inr (.inr (.inr ⟨c.bs[i], List.getElem_mem h, by simp⟩)))
theorem fp_d {A : Nat} {c : Co} {i : Nat} (h : i < c.bs.length) : (gb c.bs i).d ∈ fp A c := by
  unfold fp gb
  rw [List.getElem?_eq_getElem h]
  simp only [List.mem_cons, List.mem_append, List.mem_flatMap]
  exact .inr (.inr (.inr (.inr ⟨c.bs[i], List.getElem_mem h, by simp⟩)))
theorem fp_A {A : Nat} {c : Co} : A ∈ fp A c := by simp [fp]
theorem fp_m {A : Nat} {c : Co} : c.mb ∈ fp A c := by simp [fp]
theorem fp_u {A g : Nat} {c : Co} (h : g ∈ oblk c.ua) : g ∈ fp A c := by simp [fp, h]
theorem fp_f {A g : Nat} {c : Co} (h : g ∈ oblk c.fa) : g ∈ fp A c := by simp [fp, h]
theorem fp_cases {A x : Nat} {c : Co} (h : x ∈ fp A c) : x = A ∨ x = c.mb ∨ x ∈ oblk c.ua ∨ x ∈ oblk c.fa ∨ ∃ i, i < c.bs.length ∧ (x = (gb c.bs i).n ∨ x = (gb c.bs i).d) := by
  unfold fp at h
  simp only [List.mem_cons, List.mem_append, List.mem_flatMap] at h
  rcases h with h | h | h | h | ⟨b, hb, h⟩
  · exact .inl h
  · exact .inr (.inl h)
  · exact .inr (.inr (.inl h))
  · exact .inr (.inr (.inr (.inl h)))
  · obtain ⟨i, hi, rfl⟩ := List.getElem_of_mem hb
    refine .inr (.inr (.inr (.inr ⟨i, hi, ?_⟩)))
    unfold gb
    rw [List.getElem?_eq_getElem hi]
    simpa using h
/-- the cells of the disks -/
def uf (bs : List UB) (U : List Un) (i j : Nat) : Value :=
  if j = 0 then .slice (some ⟨(gb bs i).n, 0, none⟩) (gu U i).now.length (gb bs i).cn else if j = 1 then .slice (some ⟨(gb bs i).d, 0, none⟩) (gu U i).now.length (gb bs i).cd else .bool (gu U i).mis
/-- the cells of unflushed writes -/
def ff (F : List Wr) (i j : Nat) : Value :=
  if j = 0 then .int .i64 ((gf F i).d : Int) else if j = 1 then .int .i64 ((gf F i).at' : Int) else .int .u64 (gf F i).v
/-- blocks of an array are apart -/
structure Sep (A : Nat) (c : Co) : Prop where
  am : A ≠ c.mb
  au : A ∉ oblk c.ua
  af : A ∉ oblk c.fa
  mu : c.mb ∉ oblk c.ua
  mf : c.mb ∉ oblk c.fa
  uf : ∀ g, g ∈ oblk c.ua → g ∉ oblk c.fa
  n1 : ∀ i, i < c.bs.length → (gb c.bs i).n ≠ A ∧ (gb c.bs i).n ≠ c.mb ∧ (gb c.bs i).n ∉ oblk c.ua ∧ (gb c.bs i).n ∉ oblk c.fa
  d1 : ∀ i, i < c.bs.length → (gb c.bs i).d ≠ A ∧ (gb c.bs i).d ≠ c.mb ∧ (gb c.bs i).d ∉ oblk c.ua ∧ (gb c.bs i).d ∉ oblk c.fa
  nd : ∀ i j, i < c.bs.length → j < c.bs.length → (gb c.bs i).n ≠ (gb c.bs j).d
  nn : ∀ i j, i < c.bs.length → j < c.bs.length → i ≠ j → (gb c.bs i).n ≠ (gb c.bs j).n ∧ (gb c.bs i).d ≠ (gb c.bs j).d
theorem laidOut : laidOutB Try.prog = true := by kernel_rfl
theorem law : Go.Maps.Keyed Try.prog 83 := Go.Maps.Keyed.of_law (deep_law_laid (m := 3) laidOut (by omega) (by decide +kernel) (by kernel_rfl) (by rw [Try.underlying83]))
theorem cells83 : Try.prog.cellsOf 83 = 2 := by kernel_rfl
theorem cells3 : Try.prog.cellsOf 3 = 1 := by kernel_rfl
/-- what a place reads as -/
def pk (d t : Int) : Lit := .string (keyBytes [.int .i64 d, .int .i64 t])
theorem key_pk (d t : Int) (hd : (Lit.int .i64 d).wf = true) (ht : (Lit.int .i64 t).wf = true) : keyOf Try.prog 83 (.agg #[.int .i64 d, .int .i64 t]) = some (pk d t) := by
  unfold keyOf
  rw [Try.underlying83]
  have hf : Value.formed Try.prog 83 (.agg #[.int .i64 d, .int .i64 t]) = true := by
    simp only [Value.formed, Try.underlying83, cells83]
    rfl
  simp only [hf, if_true]
  obtain ⟨s, hs⟩ : ∃ s, Try.prog.types.size + 1 = s + 2 := ⟨Try.prog.types.size - 1, by
    have : 1 ≤ Try.prog.types.size := by decide +kernel
    omega⟩
  rw [hs]
  have hk : Try.prog.keyType 83 = true := by kernel_rfl
  simp [Program.keyLits, Try.underlying83, Try.underlying3, Value.cells, cells83, cells3, hd, ht, pk, hk]
theorem pk_inj {d t d' t' : Int} (hd : (Lit.int .i64 d).wf = true) (ht : (Lit.int .i64 t).wf = true) (hd' : (Lit.int .i64 d').wf = true) (ht' : (Lit.int .i64 t').wf = true) (h : pk d t = pk d' t') : d = d' ∧ t = t' := by
  have h1 := key_pk d t hd ht
  have h2 := key_pk d' t' hd' ht'
  rw [← h] at h2
  have := law.inj h1 h2
  simpa using this
/-- the map of bad sectors -/
def BM (W : World) (b n : Nat) (bad : Int → Int → Bool) : Prop := ∃ D : DataW Unit, W.ownsMap Try.prog 83 (unitElem (H := Unit)) b n D ∧ ∀ d t, (Lit.int .i64 d).wf = true → (Lit.int .i64 t).wf = true → Go.Maps.has D (pk d t) = bad d t
theorem BM.lt {W : World} {b n : Nat} {bad : Int → Int → Bool} (h : BM W b n bad) : b < W.heap.size := by obtain ⟨D, h1, _⟩ := h; exact h1.lt
theorem BM.gr {W W' : World} {b n : Nat} {bad : Int → Int → Bool} {S : List Nat} (h : BM W b n bad) (hg : Gr S W W') (hn : b ∉ S) : BM W' b n bad := by
  obtain ⟨D, h1, h2⟩ := h; exact ⟨D, map_gr h1 hg hn, h2⟩

/-- block A is an array of disks -/
structure DA (W : World) (A : Nat) (c : Co) (k : Dk) : Prop where
  blk : W.ownsRow 0 78 6 (.slice (some ⟨A, 0, none⟩) 1 1) 1 [.slice c.ua k.U.length c.uc, .map (some c.mb), .slice c.fa k.F.length c.fc, .int .i64 k.fuse, .bool k.down, .int .i64 k.wr]
  ru : W.ownsRow 0 80 3 (.slice c.ua k.U.length c.uc) k.U.length (ck 3 k.U.length (uf c.bs k.U))
  rf : W.ownsRow 0 89 3 (.slice c.fa k.F.length c.fc) k.F.length (ck 3 k.F.length (ff k.F))
  mp : BM W c.mb c.mn k.bad
  rn : ∀ i, i < k.U.length → Row W (gb c.bs i).n (gb c.bs i).cn (gu k.U i).now
  rd : ∀ i, i < k.U.length → Row W (gb c.bs i).d (gb c.bs i).cd (gu k.U i).dur
  lb : c.bs.length = k.U.length
  ld : ∀ i, i < k.U.length → (gu k.U i).dur.length = (gu k.U i).now.length
  b8 : k.U.length ≤ 8
  bn : ∀ i, i < k.U.length → 1 ≤ (gu k.U i).now.length ∧ (gu k.U i).now.length ≤ 65536
  fi : ∀ i, i < k.F.length → (gf k.F i).d < k.U.length ∧ (gf k.F i).at' < (gu k.U (gf k.F i).d).now.length
  sep : Sep A c
theorem Co.ua_cases (c : Co) : c.ua = none ∨ ∃ a, c.ua = some a := by cases c.ua <;> simp
theorem Co.fa_cases (c : Co) : c.fa = none ∨ ∃ a, c.fa = some a := by cases c.fa <;> simp
theorem DA.gr {W W' : World} {A : Nat} {c : Co} {k : Dk} {S : List Nat} (h : DA W A c k) (hg : Gr S W W') (hn : ∀ x ∈ fp A c, x ∉ S) : DA W' A c k where
  blk := own_gr h.blk hg (fun g hg => by cases hg; exact hn _ fp_A)
  ru := own_gr h.ru hg (fun g hg => hn _ (fp_u (by rcases c.ua_cases with e | ⟨a, e⟩ <;> simp [e, Value.ownBlock, oblk] at hg ⊢; exact hg.symm)))
  rf := own_gr h.rf hg (fun g hg => hn _ (fp_f (by rcases c.fa_cases with e | ⟨a, e⟩ <;> simp [e, Value.ownBlock, oblk] at hg ⊢; exact hg.symm)))
  mp := h.mp.gr hg (hn _ fp_m)
  rn i hi := (h.rn i hi).gr hg (hn _ (fp_n (by rw [h.lb]; exact hi)))
  rd i hi := (h.rd i hi).gr hg (hn _ (fp_d (by rw [h.lb]; exact hi)))
  lb := h.lb
  ld := h.ld
  b8 := h.b8
  bn := h.bn
  fi := h.fi
  sep := h.sep
theorem DA.below {W W' : World} {A : Nat} {c : Co} {k : Dk} (h : DA W A c k) (hb : Below W.heap.size W W') : DA W' A c k := h.gr (Gr.of_below hb []) (fun _ _ => by simp)
end Go.Proofs.Ytfaeieeokelokaa
