/- The engine, part D: stores, new variables, literals, fields, indexes. No conditions but those of each theorem. -/
import Derived.Test.YtbgbjgedjmhcaaaSyC
import Derived.Laws.MakeOwn
import Derived.IntWalk
namespace Go.Proofs.Ytbgbjgedjmhcaaa
open Go.RowKit
set_option linter.unusedVariables false
set_option linter.unusedSimpArgs false

/-- a value's cells, where they are known -/
def cellsOf : AV → Option (List AV)
  | .agg cs => some cs
  | .tup _ => none
  | .junk => none
  | .val (.agg _) => none
  | .val (.tuple _) => none
  | v => some [v]
/-- surely one cell -/
def one1 : AV → Bool
  | .agg _ => false
  | .tup _ => false
  | .junk => false
  | .val v => v.oneCell'
  | _ => true
def allB {α : Type} (p : α → Bool) : List α → Bool
  | [] => true
  | x :: l => match p x with
    | true => allB p l
    | false => false
theorem allB_ok {α : Type} {p : α → Bool} : ∀ {l : List α}, allB p l = true → ∀ x ∈ l, p x = true
  | [], _, x, h => by cases h
  | y :: l, h, x, hx => by
    unfold allB at h
    cases hp : p y with
    | false => rw [hp] at h; cases h
    | true =>
      rw [hp] at h
      rcases List.mem_cons.1 hx with rfl | hx
      · exact hp
      · exact allB_ok h x hx
theorem one1_ok {E : Env} {v : AV} {c : Value} (h : one1 v = true) (r : RV E v c) : c.oneCell' = true := by
  cases v <;> simp only [one1, RV] at h r
  case val w => subst r; exact h
  case ptr => obtain ⟨a, k, _, rfl⟩ := r; rfl
  case sl id i es n cc =>
    obtain ⟨b, k, _, h2⟩ := r
    cases b with
    | none => obtain ⟨b', rfl, _⟩ := h2; rfl
    | some a => obtain ⟨o, m, rfl, _⟩ := h2; rfl
  case fn => obtain ⟨xs, ys, rfl, _⟩ := r; rfl
  case ifc => obtain ⟨x, rfl, _⟩ := r; rfl
  case mp => obtain ⟨a, k, _, rfl⟩ := r; rfl
  case anyB => obtain ⟨b, rfl, _⟩ := r; rfl
  case len => obtain ⟨b, m, rfl⟩ := r; rfl
  all_goals cases h
theorem cells_one {c : Value} (h : c.oneCell' = true) : c.cells = #[c] := by cases c <;> simp_all [Value.oneCell', Value.cells]
theorem cellsOf_ok {E : Env} {v : AV} {c : Value} {cs : List AV} (h : cellsOf v = some cs) (r : RV E v c) : RVs E cs c.cells.toList := by
  have one : ∀ v : AV, one1 v = true → RV E v c → RVs E [v] c.cells.toList := fun v h1 r => by
    rw [cells_one (one1_ok h1 r)]
    simp only [RVs]
    exact ⟨c, [], rfl, r, rfl⟩
  cases v with
  | agg l =>
    simp only [cellsOf, Option.some.injEq] at h
    subst h
    simp only [RV] at r
    obtain ⟨xs, rfl, h1⟩ := r
    simpa [Value.cells] using h1
  | tup l => simp [cellsOf] at h
  | junk => simp [cellsOf] at h
  | val w =>
    cases w <;> simp only [cellsOf, Option.some.injEq] at h <;> first | cases h; done | (subst h; exact one _ rfl r)
  | ptr => simp only [cellsOf, Option.some.injEq] at h; subst h; exact one _ rfl r
  | sl => simp only [cellsOf, Option.some.injEq] at h; subst h; exact one _ rfl r
  | fn => simp only [cellsOf, Option.some.injEq] at h; subst h; exact one _ rfl r
  | ifc => simp only [cellsOf, Option.some.injEq] at h; subst h; exact one _ rfl r
  | mp => simp only [cellsOf, Option.some.injEq] at h; subst h; exact one _ rfl r
  | anyB => simp only [cellsOf, Option.some.injEq] at h; subst h; exact one _ rfl r
  | len => simp only [cellsOf, Option.some.injEq] at h; subst h; exact one _ rfl r
def eqN : Nat → Nat → Bool
  | 0, 0 => true
  | n + 1, m + 1 => eqN n m
  | _, _ => false
def lenEq {α : Type} : List α → Nat → Bool
  | [], 0 => true
  | _ :: l, n + 1 => lenEq l n
  | _, _ => false
theorem lenEq_ok {α : Type} : ∀ {l : List α} {n : Nat}, lenEq l n = true → l.length = n
  | [], 0, _ => rfl
  | _ :: l, n + 1, h => by simp [lenEq_ok (l := l) (n := n) (by simpa [lenEq] using h)]
  | [], n + 1, h => by simp [lenEq] at h
  | _ :: _, 0, h => by simp [lenEq] at h
def undefA : AV := .val undef
/-- cells put at a place -/
def putC (xs : List AV) (j : Nat) (cs : List AV) : List AV := xs.take j ++ cs ++ xs.drop (j + cs.length)
def setRow (row : Nat → List AV) (i : Nat) (r : List AV) : Nat → List AV := fun q => if q = i then r else row q
/-- a variable is written -/
def storeA (P : Program) (t : TypeId) (addr v : AV) : Ac AV := match addr with
  | .ptr id i es j => match cellsOf v with
    | none => .fail
    | some cs => match tySize P t with
      | none => .fail
      | some n => match lenEq cs n, allB one1 cs with
        | true, true => .get id fun o => match o with
          | .blk ty xs => match i with
            | 0 => match lenGe xs (j + n) with
              | true => .put id (.blk ty (putC xs j cs)) (.ret undefA)
              | false => .fail
            | _ + 1 => .fail
          | .vec ty es' m row => match es == es', lenEq (row i) es', lenGe (row i) (j + n) with
            | true, true, true => .need (i < m) (.put id (.vec ty es' m (setRow row i (putC (row i) j cs))) (.ret undefA))
            | _, _, _ => .fail
          | .ro .. => .fail
          | .obj _ => .fail
          | .box _ => .fail
        | _, _ => .fail
  | _ => .fail
section
variable {P : Program} {E : Env} {s : St} {W : World} {sem : Sem Value}
theorem RVs.put {E : Env} {xs cs : List AV} {ys vs : List Value} (h : RVs E xs ys) (k : RVs E cs vs) (j : Nat) : RVs E (putC xs j cs) (ys.take j ++ vs ++ ys.drop (j + vs.length)) := by
  unfold putC
  rw [k.length]
  exact ((h.take j).append k).append (h.drop _)
theorem grown_setRow (W : World) (b : Nat) (cs : Array Value) : W.grownBy (W.setRow b cs) (some b) :=
  ⟨rfl, rfl, rfl, by simp, fun k _ hk => setRow_other W b k cs (fun e => hk (by rw [e]))⟩
theorem app3 (a b c : List Value) (d : Nat) : (a ++ b ++ c)[d]? = if d < a.length then a[d]? else if d - a.length < b.length then b[d - a.length]? else c[d - a.length - b.length]? := by
  rw [List.append_assoc]
  by_cases h : d < a.length
  · rw [if_pos h, List.getElem?_append_left h]
  · rw [if_neg h, List.getElem?_append_right (by omega)]
    by_cases h2 : d - a.length < b.length
    · rw [if_pos h2, List.getElem?_append_left h2]
    · rw [if_neg h2, List.getElem?_append_right (by omega)]
/-- the cells of element q of a row that was written -/
theorem cells_put (ys vs : List Value) (es m i j : Nat) (hlen : m * es ≤ ys.length) (hi : i < m) (hj : j + vs.length ≤ es) (q : Nat) (hq : q < m) :
    cellsAt (ys.take (i * es + j) ++ vs ++ ys.drop (i * es + j + vs.length)) es q = if q = i then (cellsAt ys es i).take j ++ vs ++ (cellsAt ys es i).drop (j + vs.length) else cellsAt ys es q := by
  have hie : i * es + es ≤ m * es := by rw [← Nat.succ_mul]; exact Nat.mul_le_mul_right _ hi
  apply List.ext_getElem?
  intro d
  have hl : (ys.take (i * es + j)).length = i * es + j := by rw [List.length_take]; omega
  unfold cellsAt
  by_cases e : q = i
  · subst e
    rw [if_pos rfl, List.getElem?_take]
    have hl2 : (List.take es (List.drop (q * es) ys)).length = es := by rw [List.length_take, List.length_drop]; omega
    have hl3 : (List.take j (List.take es (List.drop (q * es) ys))).length = j := by rw [List.length_take]; omega
    by_cases hd : d < es
    · rw [if_pos hd, List.getElem?_drop, app3, app3, hl, hl3]
      by_cases h1 : d < j
      · rw [if_pos h1, if_pos (by omega), List.getElem?_take, List.getElem?_take, if_pos (by omega), if_pos h1, List.getElem?_take, if_pos hd, List.getElem?_drop]
      · rw [if_neg h1, if_neg (by omega)]
        by_cases h2 : d - j < vs.length
        · rw [if_pos h2, if_pos (by omega)]
          congr 1; omega
        · rw [if_neg h2, if_neg (by omega), List.getElem?_drop, List.getElem?_drop, List.getElem?_take, if_pos (by omega), List.getElem?_drop]
          congr 1; omega
    · rw [if_neg hd, List.getElem?_eq_none]
      simp only [List.length_append, List.length_drop]
      omega
  · rw [if_neg e, List.getElem?_take, List.getElem?_take]
    by_cases hd : d < es
    · rw [if_pos hd, if_pos hd, List.getElem?_drop, List.getElem?_drop, List.append_assoc]
      rcases Nat.lt_or_gt_of_ne e with h1 | h1
      · have : q * es + es ≤ i * es := by rw [← Nat.succ_mul]; exact Nat.mul_le_mul_right _ h1
        rw [List.getElem?_append_left (by omega), List.getElem?_take, if_pos (by omega)]
      · have : i * es + es ≤ q * es := by rw [← Nat.succ_mul]; exact Nat.mul_le_mul_right _ h1
        rw [List.getElem?_append_right (by omega), hl, List.getElem?_append_right (by omega), List.getElem?_drop]
        congr 1; omega
    · rw [if_neg hd, if_neg hd]
theorem storeVar_run {t : TypeId} {b o : Nat} {c : Value} {cur : Array Value} {ty : TypeId} (hz : tySize P t = some c.cells.toList.length) (hb : W.heap[b]? = some (.cells cur ty (0, 0))) (hfit : o + c.cells.toList.length ≤ cur.size) (h1 : ∀ v ∈ c.cells.toList, v.oneCell' = true) :
    (storeVar t ⟨b, o, none⟩ c).run P W = .ok () (W.setRow b (cur.toList.take o ++ c.cells.toList ++ cur.toList.drop (o + c.cells.toList.length)).toArray) := by
  have := run_storeCells_at P b o ty c.cells.toList 0 cur W hb (by simpa using hfit) h1
  simp only [Nat.add_zero] at this
  have hne : (c.cells.size ≠ c.cells.toList.length) = False := by simp
  simp only [storeVar, Sem.run_bind, run_size hz, Result.andThen_ok, hne, if_false, this]
theorem store_ok (r : RH E s.heap W) {t : TypeId} {addr v : AV} {ca cv : Value} (ha : RV E addr ca) (hv : RV E v cv) : SemAt P E s W (do Instr.storeAt t ca cv; pure undef) (storeA P t addr v) := by
  unfold storeA
  split
  case h_2 => exact SemAt.fail
  rename_i id i es j
  simp only [RV] at ha
  obtain ⟨a, k, he, rfl⟩ := ha
  split
  · exact SemAt.fail
  rename_i cs hcs
  split
  · exact SemAt.fail
  rename_i n hz
  split
  case h_2 => exact SemAt.fail
  rename_i hl h1
  have hrc := cellsOf_ok hcs hv
  have hn : cv.cells.toList.length = n := by rw [hrc.length]; exact lenEq_ok hl
  have hn2 : cv.cells.size = n := by simpa using hn
  have hone : ∀ u ∈ cv.cells.toList, u.oneCell' = true := fun u hu => by
    obtain ⟨q, hq⟩ := List.getElem?_of_mem hu
    have hq2 : q < cs.length := by have := (List.getElem?_eq_some_iff.1 hq).1; rw [hrc.length] at this; exact this
    obtain ⟨y, hy, hy2⟩ := hrc.get q cs[q] (by rw [nth_eq, List.getElem?_eq_getElem hq2])
    rw [hq] at hy
    obtain rfl := Option.some.inj hy
    exact one1_ok (allB_ok h1 _ (List.getElem_mem hq2)) hy2
  rw [← hn] at hz
  have hsem : ∀ (o : Nat) (b : Nat) (ty : TypeId) (cur : Array Value), a.block = b → a.off + (i * es + j) = o → W.heap[b]? = some (.cells cur ty (0, 0)) → o + cv.cells.toList.length ≤ cur.size → (do Instr.storeAt t (.pointer (some ⟨a.block, a.off + (i * es + j), none⟩)) cv; pure undef : Sem Value).run P W = .ok undef (W.setRow b (cur.toList.take o ++ cv.cells.toList ++ cur.toList.drop (o + cv.cells.toList.length)).toArray) := by
    intro o b ty cur h2 h3 h4 h5
    rw [h2, h3]
    have := storeVar_run (P := P) (W := W) (t := t) hz h4 h5 hone
    simp only [Instr.storeAt, Instr.sureAddr, Sem.run_bind, Sem.run_pure, Result.andThen_ok, this]
  refine SemAt.get fun o ho => ?_
  have hh := r.holds id o ho
  cases o with
  | obj => exact SemAt.fail
  | box => exact SemAt.fail
  | ro => exact SemAt.fail
  | blk ty xs =>
    dsimp only
    cases i with
    | succ i => exact SemAt.fail
    | zero =>
      dsimp only
      split
      case h_2 => exact SemAt.fail
      rename_i hge
      obtain ⟨b, k', ys, h2, h3, h4, h5⟩ := hh
      rw [he] at h2
      simp only [Option.some.injEq, Prod.mk.injEq] at h2
      obtain ⟨rfl, rfl⟩ := h2
      have hfit := lenGe_ok hge
      refine SemAt.put r ho rfl (b := b) (by simp [blkOf, he]) (hsem j b ty ys.toArray rfl (by simp) h3 (by have := h4.length; simp; omega)) (grown_setRow _ _ _) ⟨b, k, _, he, setRow_heap W b _ _ ty _ h3, ?_⟩ (by simp [undefA, RV])
      refine ⟨by simpa using h4.put hrc j, ?_⟩
      rw [h5]
      have := h4.length
      simp
      omega
  | vec ty es' m row =>
    dsimp only
    split
    case h_2 => exact SemAt.fail
    rename_i hes hle hge
    have hes' : es = es' := by simpa using hes
    subst hes'
    refine SemAt.need fun hi => ?_
    obtain ⟨b, k', xs, h2, h3, h4, h5⟩ := hh
    rw [he] at h2
    simp only [Option.some.injEq, Prod.mk.injEq] at h2
    obtain ⟨rfl, rfl⟩ := h2
    have hfit := lenGe_ok hge
    have hle' := lenEq_ok hle
    rcases h3.2 with ⟨hv', _⟩ | ⟨g, cap, cur, hv', hg0, hcur, hnc, hcm, hsz, htk⟩
    · simp at hv'
    simp only [Value.slice.injEq, Option.some.injEq, true_and] at hv'
    obtain ⟨rfl, rfl⟩ := hv'
    have hie : i * es + es ≤ m * es := by rw [← Nat.succ_mul]; exact Nat.mul_le_mul_right _ hi
    have hmk : m * es ≤ k * es := Nat.mul_le_mul_right _ hnc
    have hjn : j + cv.cells.toList.length ≤ es := by omega
    refine SemAt.put r ho rfl (b := g) (by simp [blkOf, he]) (hsem (i * es + j) g ty cur rfl (by simp) hcur (by rw [hsz]; omega)) (grown_setRow _ _ _)
      ⟨_, _, (xs.take (i * es + j) ++ cv.cells.toList ++ xs.drop (i * es + j + cv.cells.toList.length)), he, ⟨?_, .inr ⟨g, k, _, rfl, hg0, setRow_heap W g _ _ ty _ hcur, hnc, hcm, ?_, ?_⟩⟩, ?_, ?_⟩ (by simp [undefA, RV])
    · have := h3.1
      simp only [List.length_append, List.length_take, List.length_drop]
      omega
    · simp only [List.size_toArray, List.length_append, List.length_take, List.length_drop, Array.length_toList]
      omega
    · rw [← htk]
      apply List.ext_getElem?
      intro d
      have e1 : (List.take (i * es + j) cur.toList).length = i * es + j := by rw [List.length_take]; simp; omega
      have e2 : (List.take (i * es + j) (List.take (m * es) cur.toList)).length = i * es + j := by rw [List.length_take, List.length_take]; simp; omega
      rw [List.getElem?_take, app3, app3, e1, e2]
      by_cases hd : d < m * es
      · rw [if_pos hd]
        by_cases h6 : d < i * es + j
        · rw [if_pos h6, if_pos h6, List.getElem?_take, List.getElem?_take, if_pos h6, if_pos h6, List.getElem?_take, if_pos hd]
        · rw [if_neg h6, if_neg h6]
          by_cases h7 : d - (i * es + j) < cv.cells.toList.length
          · rw [if_pos h7, if_pos h7]
          · rw [if_neg h7, if_neg h7, List.getElem?_drop, List.getElem?_drop, List.getElem?_take, if_pos (by omega)]
      · rw [if_neg hd, if_neg (by omega), if_neg (by omega), List.getElem?_eq_none]
        rw [List.length_drop, List.length_take, Array.length_toList]
        omega
    · intro u hu
      rcases List.mem_append.1 hu with hu | hu
      · rcases List.mem_append.1 hu with hu | hu
        · exact h4 u (List.mem_of_mem_take hu)
        · exact hone u hu
      · exact h4 u (List.mem_of_mem_drop hu)
    · intro q hq
      rw [cells_put xs cv.cells.toList es m i j (by rw [h3.1]; exact Nat.le_refl _) hi hjn q hq]
      unfold setRow
      by_cases e : q = i
      · rw [if_pos e, if_pos e]; exact (h5 i hi).put hrc j
      · rw [if_neg e, if_neg e]; exact h5 q hq

/-! ### New variables -/
def zeroA (P : Program) (t : TypeId) : Option (List AV) := match P.info? t with
  | some i => match i.zero with
    | some z => some (z.cells.toList.map .val)
    | none => none
  | none => none
theorem RVs.vals {E : Env} : ∀ (l : List Value), RVs E (l.map .val) l
  | [] => by simp [RVs]
  | x :: l => by simp only [List.map_cons, RVs]; exact ⟨x, l, rfl, by simp [RV], RVs.vals l⟩
def allocA (P : Program) (nm : Nat) (t : TypeId) : Ac AV := match zeroA P t with
  | some cs => .new nm (.blk t cs) (.ret (.ptr nm 0 0 0))
  | none => .fail
def boxA (nm : Nat) (t : TypeId) (v : AV) : Ac AV := match cellsOf v with
  | some cs => .new nm (.blk t cs) (.ret (.ptr nm 0 0 0))
  | none => .fail
theorem newBlk (r : RH E s.heap W) {nm : Nat} {t : TypeId} {cs : List AV} {xs : Array Value} (hx : RVs E cs xs.toList) (h : sem.run P W = .ok (.pointer (some ⟨W.heap.size, 0, none⟩)) (W.alloc (.cells xs t))) : SemAt P E s W sem (.new nm (.blk t cs) (.ret (.ptr nm 0 0 0))) := by
  refine SemAt.new r (k := xs.toList.length) h fun E' he hn => ⟨⟨_, _, xs.toList, hn, heap_alloc_new W _, RVs.mono he _ _ hx, rfl⟩, ?_⟩
  simp only [RV]
  exact ⟨_, _, hn, by simp⟩
theorem alloc_ok (r : RH E s.heap W) (nm : Nat) (t : TypeId) : SemAt P E s W (Instr.alloc t true (.tuple #[])) (allocA P nm t) := by
  unfold allocA
  split
  case h_2 => exact SemAt.fail
  rename_i cs hcs
  unfold zeroA at hcs
  cases hi : P.info? t with
  | none => rw [hi] at hcs; cases hcs
  | some i =>
    rw [hi] at hcs
    dsimp only at hcs
    cases hz : i.zero with
    | none => rw [hz] at hcs; cases hcs
    | some z =>
      rw [hz] at hcs
      simp only [Option.some.injEq] at hcs
      subst hcs
      refine newBlk r (xs := z.cells) (RVs.vals _) ?_
      simp [Instr.alloc, zeroValue, typeInfo, hi, hz, newVar, newRow]
theorem box_ok (r : RH E s.heap W) (nm : Nat) (t : TypeId) {v : AV} {c : Value} (h : RV E v c) : SemAt P E s W (Instr.box t c) (boxA nm t v) := by
  unfold boxA
  split
  case h_2 => exact SemAt.fail
  rename_i cs hcs
  refine newBlk r (cellsOf_ok hcs h) ?_
  simp [Instr.box, newVar, newRow]

/-! ### Literals -/
def fillA (place : Nat → Option (Nat × Nat)) (cells : List AV) : List (Nat × AV) → Option (List AV)
  | [] => some cells
  | (i, v) :: rest => match place i with
    | none => none
    | some (off, size) => match cellsOf v with
      | none => none
      | some cs => match lenEq cs size, lenGe cells (off + size) with
        | true, true => fillA place (putC cells off cs) rest
        | _, _ => none
def RPs (E : Env) : List (Nat × AV) → List (Nat × Value) → Prop
  | [], ys => ys = []
  | (i, v) :: xs, ys => ∃ y l, ys = (i, y) :: l ∧ RV E v y ∧ RPs E xs l
theorem fold_put (off : Nat) : ∀ (vs : List Value) (j : Nat) (cur : Array Value), off + j + vs.length ≤ cur.size →
    ((vs.zipIdx j).foldl (fun (cs : Array Value) (p : Value × Nat) => cs.setIfInBounds (off + p.2) p.1) cur).toList = cur.toList.take (off + j) ++ vs ++ cur.toList.drop (off + j + vs.length)
  | [], j, cur, h => by simp
  | v :: vs, j, cur, h => by
    rw [List.zipIdx_cons, List.foldl_cons, fold_put off vs (j + 1) _ (by simp at h ⊢; omega)]
    simp only [Array.toList_setIfInBounds, List.length_cons] at h ⊢
    have e := list_seg_step cur.toList (off + j) v vs (by simp at h ⊢; omega)
    simpa [Nat.add_assoc, Nat.add_comm, Nat.add_left_comm] using e
theorem fill_ok {place : Nat → Option (Nat × Nat)} : ∀ {parts : List (Nat × AV)} {vparts : List (Nat × Value)} {cells : List AV} {cur : Array Value} {out : List AV}, fillA place cells parts = some out → RPs E parts vparts → RVs E cells cur.toList →
    ∃ res, Instr.fill place cur vparts = some res ∧ RVs E out res.toList
  | [], vparts, cells, cur, out, h, hp, hc => by
    simp only [RPs] at hp
    subst hp
    simp only [fillA, Option.some.injEq] at h
    subst h
    exact ⟨cur, rfl, hc⟩
  | (i, v) :: rest, vparts, cells, cur, out, h, hp, hc => by
    simp only [RPs] at hp
    obtain ⟨y, l, rfl, hv, hl⟩ := hp
    unfold fillA at h
    split at h
    · cases h
    rename_i off size hpl
    split at h
    · cases h
    rename_i cs hcs
    split at h
    case h_2 => cases h
    rename_i hle hge
    have hrc := cellsOf_ok hcs hv
    have h1 := lenEq_ok hle
    have h2 := lenGe_ok hge
    have h3 := hc.length
    have h4 : y.cells.toList.length = size := by rw [hrc.length]; exact h1
    have hfp := fold_put off y.cells.toList 0 cur (by simp at h3 ⊢; simp at h4; omega)
    simp only [Nat.add_zero] at hfp
    obtain ⟨res, q1, q2⟩ := fill_ok (cur := ((y.cells.toList.zipIdx 0).foldl (fun (cs : Array Value) (p : Value × Nat) => cs.setIfInBounds (off + p.2) p.1) cur)) h hl (by rw [hfp]; exact hc.put hrc off)
    refine ⟨res, ?_, q2⟩
    unfold Instr.fill
    rw [hpl]
    dsimp only
    have hc1 : (decide (y.cells.size ≠ size) || decide (off + y.cells.size > cur.size)) = false := by
      simp at h3 h4 ⊢
      omega
    rw [if_neg (by rw [hc1]; simp)]
    rw [← q1]
    congr 1
    rw [← Array.foldl_toList]
    simp
def placesA (P : Program) : List Field → Option (List (Nat × Nat))
  | [] => some []
  | f :: fs => match tySize P f.type, placesA P fs with
    | some n, some l => some ((f.offset, n) :: l)
    | _, _ => none
theorem places_ok : ∀ {fs : List Field} {l : List (Nat × Nat)}, placesA P fs = some l → fs.mapM (fun f => (P.info? f.type).map fun i => (f.offset, i.size)) = some l
  | [], l, h => by simp only [placesA, Option.some.injEq] at h; subst h; rfl
  | f :: fs, l, h => by
    unfold placesA at h
    split at h
    case h_2 => cases h
    rename_i n m hz hm
    simp only [Option.some.injEq] at h
    subst h
    unfold tySize at hz
    cases hi : P.info? f.type with
    | none => rw [hi] at hz; cases hz
    | some i =>
      rw [hi] at hz
      simp only [Option.some.injEq] at hz
      simp [List.mapM_cons, hi, places_ok hm, hz]
def buildA (P : Program) (t : TypeId) (parts : List (Nat × AV)) : Ac AV := match zeroA P t with
  | none => .fail
  | some z => match P.underlying t with
    | some (.struct fields) => match placesA P fields.toList with
      | none => .fail
      | some places => match fillA (nth places) z parts with
        | some cs => .ret (.agg cs)
        | none => .fail
    | some (.array _ e) => match tySize P e with
      | none => .fail
      | some n => match fillA (fun i => some (i * n, n)) z parts with
        | some cs => .ret (.agg cs)
        | none => .fail
    | _ => .fail
theorem zeroA_ok {t : TypeId} {cs : List AV} (h : zeroA P t = some cs) : ∃ i z, P.info? t = some i ∧ i.zero = some z ∧ cs = z.cells.toList.map .val := by
  unfold zeroA at h
  cases hi : P.info? t with
  | none => rw [hi] at h; cases h
  | some i =>
    rw [hi] at h
    dsimp only at h
    cases hz : i.zero with
    | none => rw [hz] at h; cases h
    | some z =>
      rw [hz] at h
      simp only [Option.some.injEq] at h
      exact ⟨i, z, rfl, hz, h.symm⟩
theorem build_ok (r : RH E s.heap W) (t : TypeId) {parts : List (Nat × AV)} {vparts : Array (Nat × Value)} (h : RPs E parts vparts.toList) : SemAt P E s W (Instr.build t vparts) (buildA P t parts) := by
  unfold buildA
  split
  · exact SemAt.fail
  rename_i z hz
  obtain ⟨it, zv, hi, hzv, rfl⟩ := zeroA_ok hz
  split
  · rename_i fields hu
    split
    · exact SemAt.fail
    rename_i places hpl
    split
    case h_2 => exact SemAt.fail
    rename_i cs hcs
    obtain ⟨res, q1, q2⟩ := fill_ok hcs h (RVs.vals zv.cells.toList)
    refine SemAt.ret r (run_build W t vparts res ?_) (by simp only [RV]; exact ⟨res.toList, rfl, q2⟩)
    unfold Program.built
    have e : (fun i => nth places i) = fun i => places.toArray[i]? := by funext i; rw [nth_eq]; simp
    rw [hi, hu]
    simp only [hzv, places_ok hpl]
    rw [← q1]
    congr 1
    exact e.symm
  · rename_i n e hu
    split
    · exact SemAt.fail
    rename_i size hsz
    split
    case h_2 => exact SemAt.fail
    rename_i cs hcs
    obtain ⟨res, q1, q2⟩ := fill_ok hcs h (RVs.vals zv.cells.toList)
    refine SemAt.ret r (run_build W t vparts res ?_) (by simp only [RV]; exact ⟨res.toList, rfl, q2⟩)
    unfold Program.built
    unfold tySize at hsz
    cases hie : P.info? e with
    | none => rw [hie] at hsz; cases hsz
    | some ie =>
      rw [hie] at hsz
      simp only [Option.some.injEq] at hsz
      rw [hi, hu]
      simp only [hzv, hie, hsz, q1]
  · exact SemAt.fail
end
end Go.Proofs.Ytbgbjgedjmhcaaa
