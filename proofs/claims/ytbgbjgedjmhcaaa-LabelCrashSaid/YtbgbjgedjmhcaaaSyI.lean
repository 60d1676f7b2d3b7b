/- The engine, part I: new slices, append, copy. No conditions but those of each theorem. -/
import Derived.Test.YtbgbjgedjmhcaaaSyH
namespace Go.Proofs.Ytbgbjgedjmhcaaa
open Go.RowKit
set_option linter.unusedVariables false
set_option linter.unusedSimpArgs false

def shiftR (row : Nat → List AV) : Nat → Nat → List AV
  | 0 => row
  | i + 1 => fun q => row (i + 1 + q)
def catR (n : Nat) (row row2 : Nat → List AV) : Nat → List AV := match n with
  | 0 => row2
  | n + 1 => fun q => if q < n + 1 then row q else row2 (q - (n + 1))
theorem shiftR_at (row : Nat → List AV) (i q : Nat) : shiftR row i q = row (i + q) := by cases i <;> simp [shiftR]
theorem catR_at (n : Nat) (row row2 : Nat → List AV) (q : Nat) : catR n row row2 q = if q < n then row q else row2 (q - n) := by cases n <;> simp [catR]
def infoOK (P : Program) (e : TypeId) : Option Nat := match P.info? e with
  | some i => match i.zero with
    | some z => match Nat.ble i.bytes 128, i.size == z.cells.toList.length, Nat.blt 0 i.size with
      | true, true, true => some i.size
      | _, _, _ => none
    | none => none
  | none => none
theorem infoOK_ok {P : Program} {e es : Nat} (h : infoOK P e = some es) : ∃ i z, P.info? e = some i ∧ i.zero = some z ∧ i.size = es ∧ i.bytes ≤ 128 ∧ z.cells.size = es ∧ 0 < es := by
  unfold infoOK at h
  split at h
  case h_2 => cases h
  rename_i i hi
  split at h
  case h_2 => cases h
  rename_i z hz
  split at h
  case h_2 => cases h
  rename_i h1 h2 h3
  simp only [Option.some.injEq] at h
  have h2' : i.size = z.cells.toList.length := by simpa using h2
  exact ⟨i, z, hi, hz, h, Nat.le_of_ble_eq_true h1, by rw [← h, h2']; simp, by rw [← h]; exact Nat.le_of_ble_eq_true h3⟩
section
variable {P : Program} {E : Env} {s : St} {W : World} {sem : Sem Value}
theorem cells_shift (xs : List Value) (es i m q : Nat) (hq : q < m) : cellsAt ((xs.drop (i * es)).take (m * es)) es q = cellsAt xs es (i + q) := by
  unfold cellsAt
  apply List.ext_getElem?
  intro d
  rw [List.getElem?_take, List.getElem?_take]
  by_cases hd : d < es
  · have : q * es + es ≤ m * es := by rw [← Nat.succ_mul]; exact Nat.mul_le_mul_right _ hq
    rw [if_pos hd, if_pos hd, List.getElem?_drop, List.getElem?_drop, List.getElem?_take, if_pos (by omega), List.getElem?_drop]
    congr 1
    rw [Nat.add_mul]; omega
  · rw [if_neg hd, if_neg hd]
theorem cells_cat (xs ys : List Value) (es n q : Nat) (hl : xs.length = n * es) : cellsAt (xs ++ ys) es q = if q < n then cellsAt xs es q else cellsAt ys es (q - n) := by
  unfold cellsAt
  apply List.ext_getElem?
  intro d
  by_cases hq : q < n
  · have : q * es + es ≤ n * es := by rw [← Nat.succ_mul]; exact Nat.mul_le_mul_right _ hq
    rw [if_pos hq, List.getElem?_take, List.getElem?_take]
    by_cases hd : d < es
    · rw [if_pos hd, if_pos hd, List.getElem?_drop, List.getElem?_drop, List.getElem?_append_left (by omega)]
    · rw [if_neg hd, if_neg hd]
  · have : n * es + (q - n) * es = q * es := by rw [← Nat.add_mul]; congr 1; omega
    rw [if_neg hq, List.getElem?_take, List.getElem?_take]
    by_cases hd : d < es
    · rw [if_pos hd, if_pos hd, List.getElem?_drop, List.getElem?_drop, List.getElem?_append_right (by omega)]
      congr 1; omega
    · rw [if_neg hd, if_neg hd]
/-- the elements from i on of an object that is read -/
def srcA (o : Ob) (i es m : Nat) (k : (Nat → List AV) → Ac AV) : Ac AV := match o with
  | .vec _ es' n row => match es == es' with
    | true => .need (i + m ≤ n) (k (shiftR row i))
    | false => .fail
  | .ro es' n row => match es == es' with
    | true => .need (i + m ≤ n) (k (shiftR row i))
    | false => .fail
  | .blk .. => .fail
  | .obj _ => .fail
  | .box _ => .fail
theorem alloc_old (w : World) (o : Obj) (i : Nat) (h : i < w.heap.size) : (w.alloc o).heap[i]? = w.heap[i]? := by
  show (w.heap.push o)[i]? = _
  rw [Array.getElem?_push, if_neg (by omega)]
def baseBlk : Option Addr × Nat → Option Nat
  | (some a, _) => some a.block
  | (none, _) => none
structure Src (E : Env) (W : World) (es m : Nat) (row : Nat → List AV) (c : Value) (news : List Value) : Prop where
  len : news.length = m * es
  one : ∀ u ∈ news, u.oneCell' = true
  rows : RowsOK E es m row news
  addr : (∃ ad mm, c = .slice (some ad) m mm ∧ ∀ j u, news[j]? = some u → W.cell? (ad.add j) = some u) ∨ (c = .slice none 0 0 ∧ m = 0)
theorem src_ok {id i es m : Nat} {cc : Option Nat} {o : Ob} {c : Value} (hh : Holds E W id o) (hc : RV E (.sl id i es m cc) c) (k : (Nat → List AV) → Ac AV)
    (h : ∀ row news, Src E W es m row c news → SemAt P E s W sem (k row)) : SemAt P E s W sem (srcA o i es m k) := by
  simp only [RV] at hc
  obtain ⟨b, kk, he, h2⟩ := hc
  have main : ∀ (n : Nat) (row : Nat → List AV) (xs : List Value), xs.length = n * es → (∀ u ∈ xs, u.oneCell' = true) → RowsOK E es n row xs → i + m ≤ n → (∀ a, b = some a → ∀ j u, xs[j]? = some u → W.cell? ⟨a.block, a.off + j, none⟩ = some u) → SemAt P E s W sem (k (shiftR row i)) := by
    intro n row xs hl h1 hr hle hcell
    have hmul : i * es + m * es ≤ n * es := by rw [← Nat.add_mul]; exact Nat.mul_le_mul_right _ hle
    refine h _ ((xs.drop (i * es)).take (m * es)) ⟨?_, fun u hu => h1 u (List.mem_of_mem_drop (List.mem_of_mem_take hu)), fun q hq => ?_, ?_⟩
    · rw [List.length_take, List.length_drop]; omega
    · rw [shiftR_at, cells_shift xs es i m q hq]; exact hr _ (by omega)
    · cases b with
      | none =>
        obtain ⟨b', rfl, rfl, rfl⟩ := h2
        cases b' with
        | none => exact .inr ⟨rfl, rfl⟩
        | some x => exact .inl ⟨x, 0, rfl, fun j u hu => by simp at hu⟩
      | some a =>
        obtain ⟨of, mm, rfl, h3, h4, h5, _⟩ := h2
        refine .inl ⟨_, mm, rfl, fun j u hu => ?_⟩
        rw [List.getElem?_take] at hu
        split at hu
        · rename_i hj
          rw [List.getElem?_drop] at hu
          have hm : m ≠ 0 := fun e => by rw [e] at hj; simp at hj
          have := hcell a rfl _ u hu
          rw [add_at, h5 (by omega)]
          rwa [show a.off + i * es + j = a.off + (i * es + j) by omega]
        · cases hu
  unfold srcA
  cases o with
  | blk => exact SemAt.fail
  | obj => exact SemAt.fail
  | box => exact SemAt.fail
  | vec ty es' n row =>
    dsimp only
    cases hes : es == es' with
    | false => exact SemAt.fail
    | true =>
      have hes' : es = es' := by simpa using hes
      subst hes'
      refine SemAt.need fun hle => ?_
      obtain ⟨b2, k2, xs, g1, g2, g3, g4⟩ := hh
      rw [he] at g1
      simp only [Option.some.injEq, Prod.mk.injEq] at g1
      obtain ⟨rfl, rfl⟩ := g1
      refine main n row xs g2.1 g3 g4 hle fun a ha j u hu => ?_
      subst ha
      have hoff : a.off = 0 := by
        rcases g2.2 with ⟨hv, _⟩ | ⟨g, cap, cur, hv, _⟩
        · simp at hv
        · simp only [Value.slice.injEq, Option.some.injEq] at hv; rw [hv.1]
      have := g2.cells (g := a.block) rfl j u hu
      rw [add_at (⟨a.block, 0, none⟩ : Addr)] at this
      rw [hoff]; exact this
  | ro es' n row =>
    dsimp only
    cases hes : es == es' with
    | false => exact SemAt.fail
    | true =>
      have hes' : es = es' := by simpa using hes
      subst hes'
      refine SemAt.need fun hle => ?_
      obtain ⟨b2, k2, xs, g1, g2, g3, g4, g5⟩ := hh
      rw [he] at g1
      simp only [Option.some.injEq, Prod.mk.injEq] at g1
      obtain ⟨rfl, rfl⟩ := g1
      refine main n row xs g2 g4 g5 hle fun a ha j u hu => ?_
      rcases g3 with ⟨e, _⟩ | ⟨a', e, _, _, hc⟩
      · rw [ha] at e; cases e
      · rw [ha] at e
        obtain rfl := Option.some.inj e
        exact hc j u hu
/-- append onto nothing -/
theorem run_app_empty {t ty e es : Nat} {b' : Option Addr} {row : Nat → List AV} {c : Value} {m : Nat} {news : List Value} (ht : P.underlying t = some (.slice e)) (hi : infoOK P e = some es) (hs : Src E W es m row c news) (hb : m ≤ 1099511627776) :
    ∃ v' W', (Builtin.append_ #[t, t] ty #[.slice b' 0 0, c]).run P W = .ok v' W' ∧ ((m = 0 ∧ v' = .slice b' 0 0 ∧ W' = W) ∨ ∃ cap, v' = .slice (some ⟨W.heap.size, 0, none⟩) m cap ∧ W'.ownsRow 0 e es v' m news ∧ W.grownBy W' none) := by
  obtain ⟨i, z, hi1, hz, hsz, hby, hzs, hpos⟩ := infoOK_ok hi
  subst hsz
  rcases hs.addr with ⟨ad, mm, rfl, hc⟩ | ⟨rfl, rfl⟩
  · by_cases hm : m = 0
    · subst hm
      refine ⟨_, W, ?_, .inl ⟨rfl, rfl, rfl⟩⟩
      cases b' <;> simp [Builtin.append_, run_underlying ht, sizeOf, typeInfo, hi1, Builtin.lenOf, Builtin.firstCells, loadCells, loadCellsFrom, storeCells]
    · have hmb : m * i.bytes ≤ 140737488355328 := Nat.le_trans (Nat.mul_le_mul_left m hby) (by omega)
      cases b' with
      | none =>
        obtain ⟨v', w', hr, h2, h3, _, h5⟩ := run_append_own_at (P := P) W 0 t ty e i z i.size i.bytes ht hi1 hz rfl rfl hzs hpos (.slice none 0 0) 0 [] (World.ownsRow_nil W 0 e i.size) ad m mm news hs.len hc hs.one (by unfold maxLen; omega) (by simpa using hmb) (Nat.zero_le _)
        simp only [Nat.zero_add, List.nil_append] at h2
        obtain ⟨g, cap, rfl, _, _⟩ := h2.form (by omega)
        refine ⟨_, w', hr, .inr ⟨cap, ?_, h2, h3⟩⟩
        rcases h5 with h5 | h5
        · simp [Value.ownBlock] at h5
        · simp only [Value.ownBlock, Option.some.injEq] at h5; rw [h5]
      | some a0 =>
        have hr := run_append_grow (P := P) W t ty e i z ht hi1 hz a0 0 0 [] (by simp) (fun j v h => by simp at h) ad m mm news hs.len hc (by omega) (by omega) (growslice_fits (by omega) (by simpa using hmb))
        simp only [Nat.zero_add, Array.empty_append] at hr
        refine ⟨_, _, hr, .inr ⟨grownCap W m 0 e, rfl, ⟨hs.len, .inr ⟨W.heap.size, grownCap W m 0 e, _, rfl, Nat.zero_le _, heap_alloc_new W.drew _, grownCap_ge W m 0 e, grownCap_le_maxLen W m 0 e (by unfold maxLen; omega), ?_, ?_⟩⟩, ⟨rfl, rfl, rfl, by simp, fun k hk _ => alloc_old W.drew _ k hk⟩⟩⟩
        · have hge := grownCap_ge W m 0 e
          simp only [Array.size_append, List.size_toArray, size_zeroCells, hzs, hs.len, ← Nat.add_mul]
          congr 1
          omega
        · simp only [Array.toList_append, List.append_assoc]
          rw [← hs.len]
          simp
  · refine ⟨_, W, ?_, .inl ⟨rfl, rfl, rfl⟩⟩
    cases b' <;> simp [Builtin.append_, run_underlying ht, sizeOf, typeInfo, hi1, Builtin.lenOf, Builtin.firstCells, storeCells]
/-- append onto a slice of the call's own -/
theorem run_app_own {t ty e es : Nat} {v : Value} {n : Nat} {xs : List Value} {row : Nat → List AV} {c : Value} {m : Nat} {news : List Value} (ht : P.underlying t = some (.slice e)) (hi : infoOK P e = some es) (hown : W.ownsRow 0 e es v n xs) (hs : Src E W es m row c news) (hb : n + m ≤ 1099511627776) :
    ∃ v' W', (Builtin.append_ #[t, t] ty #[v, c]).run P W = .ok v' W' ∧ W'.ownsRow 0 e es v' (n + m) (xs ++ news) ∧ W.grownBy W' v.ownBlock ∧ (v'.ownBlock = v.ownBlock ∨ v'.ownBlock = some W.heap.size) := by
  obtain ⟨i, z, hi1, hz, hsz, hby, hzs, hpos⟩ := infoOK_ok hi
  subst hsz
  rcases hs.addr with ⟨ad, mm, rfl, hc⟩ | ⟨rfl, rfl⟩
  · have hmb : (n + m) * i.bytes ≤ 140737488355328 := Nat.le_trans (Nat.mul_le_mul_left (n + m) hby) (by omega)
    obtain ⟨v', w', hr, h2, h3, _, h5⟩ := run_append_own_at (P := P) W 0 t ty e i z i.size i.bytes ht hi1 hz rfl rfl hzs hpos v n xs hown ad m mm news hs.len hc hs.one (by unfold maxLen; omega) hmb (Nat.zero_le _)
    exact ⟨v', w', hr, h2, h3, h5⟩
  · have hn : news = [] := List.eq_nil_of_length_eq_zero (by simpa using hs.len)
    subst hn
    exact ⟨v, W, run_append_owned_none W 0 t ty e i i.size ht hi1 v n xs hown, by simpa using hown, ⟨rfl, rfl, rfl, Nat.le_refl _, fun _ _ _ => rfl⟩, .inl rfl⟩
def appA (P : Program) (nm : Nat) (t : TypeId) (x y : AV) : Ac AV := match P.underlying t with
  | some (.slice e) => match infoOK P e with
    | none => .fail
    | some es => match y with
      | .sl id2 i2 es2 m c2 => match es2 == es with
        | false => .fail
        | true => .get id2 fun o2 => srcA o2 i2 es2 m fun row2 => match x with
          | .val (.slice none 0 0) => .need (m ≤ 1099511627776) (.new nm (.vec e es m row2) (.ret (.sl nm 0 es m none)))
          | .sl id 0 es' n none => match id == id2, es' == es with
            | false, true => .get id fun o => match o with
              | .vec e' es'' n' row => match e' == e, es'' == es with
                | true, true => .need (n' = n) (.need (n + m ≤ 1099511627776) (.del id (.new nm (.vec e es (addN n m) (catR n row row2)) (.ret (.sl nm 0 es (addN n m) none)))))
                | _, _ => .fail
              | _ => .fail
            | _, _ => .fail
          | .sl id i es' 0 (some 0) => .need (m ≤ 1099511627776) (.new nm (.vec e es m row2) (.ret (.sl nm 0 es m none)))
          | _ => .fail
      | _ => .fail
  | _ => .fail
/-- a new slice, or none: what append onto nothing leaves -/
theorem app_empty_ok (r : RH E s.heap W) {t ty e es nm : Nat} {b' : Option Addr} {row : Nat → List AV} {c : Value} {m : Nat} {news : List Value} (ht : P.underlying t = some (.slice e)) (hi : infoOK P e = some es) (hs : Src E W es m row c news) :
    SemAt P E s W (Builtin.append_ #[t, t] ty #[.slice b' 0 0, c]) (.need (m ≤ 1099511627776) (.new nm (.vec e es m row) (.ret (.sl nm 0 es m none)))) := by
  refine SemAt.need fun hb => fun out ho _ hn => ?_
  simp only [Ac.run] at ho
  split at ho
  · cases ho
  · rename_i hf
    simp only [Option.some.injEq] at ho
    subst ho
    have hne := hn nm (by simp)
    obtain ⟨v', W', hr, h⟩ := run_app_empty (P := P) (ty := ty) (b' := b') ht hi hs hb
    have fin : ∀ (x : Option Addr × Nat) (g : W.grownBy W' none), (∀ b, baseBlk x = some b → W.heap.size ≤ b) → (∀ E' : Env, (∀ i x, E i = some x → E' i = some x) → E' nm = some x → Holds E' W' nm (.vec e es m row) ∧ RV E' (.sl nm 0 es m none) v') →
        s.slots = s.slots ∧ ∃ cv W' E', (Builtin.append_ #[t, t] ty #[.slice b' 0 0, c]).run P W = .ok cv W' ∧ Ext E E' [nm] ∧ RV E' (.sl nm 0 es m none) cv ∧ RH E' (upd s.heap nm (.vec e es m row)) W' ∧ Mod E s.heap W E' (upd s.heap nm (.vec e es m row)) W' := by
      intro x g hx hh
      have hxt := nw_set E nm x hne
      obtain ⟨h1, h2⟩ := hh _ hxt.1 (by simp)
      obtain ⟨q1, q2⟩ := RH.change (h' := upd s.heap nm (.vec e es m row)) r hxt g (fun b hb => by cases hb) (by rw [find_upd]; simp) (fun x hx' y hy => by rw [find_upd, if_neg (fun e => hx' e.symm)] at hy; exact hy) h1 (fun b hb => .inr (hx b (by
        simp only [Foot, Ob.bx, FootB, blkOf, if_pos] at hb
        obtain ⟨q1, q2⟩ := x
        cases q1 <;> exact hb)))
      exact ⟨rfl, v', W', _, hr, hxt, h2, q1, q2⟩
    rcases h with ⟨rfl, rfl, rfl⟩ | ⟨cap, rfl, h2, h3⟩
    · have hnn : news = [] := List.eq_nil_of_length_eq_zero (by simpa using hs.len)
      refine fin (none, 0) ⟨rfl, rfl, rfl, Nat.le_refl _, fun _ _ _ => rfl⟩ (fun b hb => by cases hb) fun E' he hnm => ⟨⟨none, 0, [], hnm, World.ownsRow_nil _ _ _ _, (fun u hu => by cases hu), fun q hq => by omega⟩, ?_⟩
      simp only [RV]
      exact ⟨none, 0, hnm, b', rfl, rfl, rfl⟩
    · refine fin (some ⟨W.heap.size, 0, none⟩, cap) h3 (fun b hb => by simp [baseBlk] at hb; omega) fun E' he hnm => ⟨⟨_, cap, news, hnm, h2, hs.one, hs.rows.mono he⟩, ?_⟩
      simp only [RV]
      refine ⟨_, cap, hnm, 0, cap, rfl, ?_, by omega, fun _ => by simp, by simp⟩
      rcases h2.2 with ⟨hv, _⟩ | ⟨g, cap', cur, hv, _, _, h4, _⟩
      · simp at hv
      · simp only [Value.slice.injEq, true_and] at hv; rw [hv.2]; exact h4
theorem app_ok (r : RH E s.heap W) (nm : Nat) (t ty : TypeId) {x y : AV} {cx cy : Value} (hx : RV E x cx) (hy : RV E y cy) : SemAt P E s W (Builtin.append_ #[t, t] ty #[cx, cy]) (appA P nm t x y) := by
  unfold appA
  split
  case h_2 => exact SemAt.fail
  rename_i e ht
  split
  · exact SemAt.fail
  rename_i es hi
  split
  case h_2 => exact SemAt.fail
  rename_i id2 i2 es2 m c2
  split
  · exact SemAt.fail
  rename_i hes
  have hes' : es2 = es := by simpa using hes
  subst hes'
  refine SemAt.get fun o2 ho2 => src_ok (r.holds id2 o2 ho2) hy _ fun row2 news hs => ?_
  split
  · simp only [RV] at hx
    subst hx
    exact app_empty_ok r ht hi hs
  · rename_i id es' n
    split
    case h_2 => exact SemAt.fail
    rename_i hid hes2
    have hes3 : es' = es2 := by simpa using hes2
    subst hes3
    refine SemAt.get fun o ho => ?_
    split
    case h_2 => exact SemAt.fail
    rename_i e' es'' n' row
    split
    case h_2 => exact SemAt.fail
    rename_i hee hes4
    have hee' : e' = e := by simpa using hee
    have hes5 : es'' = es' := by simpa using hes4
    subst hee' hes5
    refine SemAt.need fun hn' => SemAt.need fun hb => ?_
    subst hn'
    intro out hout _ hnw
    simp only [Ac.run] at hout
    split at hout
    · cases hout
    rename_i q hq
    split at hq
    · cases hq
    rename_i hf
    simp only [Option.some.injEq] at hq
    subst hq
    simp only [Option.some.injEq] at hout
    subst hout
    have hne := hnw nm (by simp)
    obtain ⟨b, k, xs, h1, h2, h3, h4⟩ := r.holds id _ ho
    simp only [RV] at hx
    obtain ⟨b2, k2, h5, h6⟩ := hx
    rw [h1] at h5
    simp only [Option.some.injEq, Prod.mk.injEq] at h5
    obtain ⟨rfl, rfl⟩ := h5
    have hnd : nm ≠ id := fun e => by rw [e, h1] at hne; cases hne
    have hrest : ∀ (o' : Ob), ∀ x, x ≠ nm → ∀ y, find (upd (del s.heap id) nm o') x = some y → find s.heap x = some y := fun o' x hx y hy => by
      rw [find_upd, if_neg (fun e => hx e.symm), find_del] at hy
      split at hy
      · cases hy
      · exact hy
    have hgone : ∀ (o' : Ob), find (upd (del s.heap id) nm o') id = none := fun o' => by
      rw [find_upd, if_neg hnd, find_del]; simp
    have hlen := h2.1
    have fin : ∀ (v' : Value) (W' : World) (xx : Option Addr × Nat) (rw' : Option Nat) (g : W.grownBy W' rw'), (rw' = none ∨ rw' = blkOf E id) → (∀ b, baseBlk xx = some b → rw' = some b ∨ W.heap.size ≤ b) → (Builtin.append_ #[t, t] ty #[cx, cy]).run P W = .ok v' W' →
        (∀ E' : Env, (∀ i x, E i = some x → E' i = some x) → E' nm = some xx → Holds E' W' nm (.vec e' es'' (addN n' m) (catR n' row row2)) ∧ RV E' (.sl nm 0 es'' (addN n' m) none) v') →
        s.slots = s.slots ∧ ∃ cv W' E', (Builtin.append_ #[t, t] ty #[cx, cy]).run P W = .ok cv W' ∧ Ext E E' [nm] ∧ RV E' (.sl nm 0 es'' (addN n' m) none) cv ∧ RH E' (upd (del s.heap id) nm (.vec e' es'' (addN n' m) (catR n' row row2))) W' ∧ Mod E s.heap W E' (upd (del s.heap id) nm (.vec e' es'' (addN n' m) (catR n' row row2))) W' := by
      intro v' W' xx rw' g hrw hxx hr hh
      have hxt := nw_set E nm xx hne
      obtain ⟨g1, g2⟩ := hh _ hxt.1 (by simp)
      obtain ⟨q1, q2⟩ := RH.change (h' := upd (del s.heap id) nm (.vec e' es'' (addN n' m) (catR n' row row2))) r hxt g (fun b hb => by
        rcases hrw with e | e
        · rw [e] at hb; cases hb
        · exact ⟨id, _, ho, rfl, by show blkOf E id = some b; rw [← e]; exact hb, .inr (hgone _)⟩) (by rw [find_upd]; simp) (hrest _) g1 (fun b hb => hxx b (by
        simp only [Foot, Ob.bx, FootB, blkOf, if_pos] at hb
        obtain ⟨q1, q2⟩ := xx
        cases q1 <;> exact hb))
      exact ⟨rfl, v', W', _, hr, hxt, g2, q1, q2⟩
    have hrow : ∀ E' : Env, (∀ i x, E i = some x → E' i = some x) → RowsOK E' es'' (addN n' m) (catR n' row row2) (xs ++ news) := fun E' he q hq => by
      rw [catR_at, cells_cat xs news es'' n' q hlen]
      rw [addN_eq] at hq
      by_cases e : q < n'
      · rw [if_pos e, if_pos e]; exact (h4.mono he) q e
      · rw [if_neg e, if_neg e]; exact (hs.rows.mono he) _ (by omega)
    have hone : ∀ u ∈ xs ++ news, u.oneCell' = true := fun u hu => (List.mem_append.1 hu).elim (h3 u) (hs.one u)
    cases b with
    | none =>
      obtain ⟨b', rfl, rfl, _⟩ := h6
      obtain ⟨v', W', hr, h⟩ := run_app_empty (P := P) (ty := ty) (b' := b') ht hi hs (by omega)
      have hxs : xs = [] := List.eq_nil_of_length_eq_zero (by simpa using hlen)
      subst hxs
      rcases h with ⟨rfl, rfl, rfl⟩ | ⟨cap, rfl, g2, g3⟩
      · have hnn : news = [] := List.eq_nil_of_length_eq_zero (by simpa using hs.len)
        refine fin _ _ (none, 0) none ⟨rfl, rfl, rfl, Nat.le_refl _, fun _ _ _ => rfl⟩ (.inl rfl) (fun b hb => by cases hb) hr fun E' he hnm => ⟨⟨none, 0, [], hnm, World.ownsRow_nil _ _ _ _, (fun u hu => by cases hu), fun q hq => by simp only [addN] at hq; omega⟩, ?_⟩
        simp only [RV]
        exact ⟨none, 0, hnm, b', rfl, rfl, rfl⟩
      · refine fin _ _ (some ⟨W.heap.size, 0, none⟩, cap) none g3 (.inl rfl) (fun b hb => by simp [baseBlk] at hb; omega) hr fun E' he hnm => ⟨⟨_, cap, news, hnm, g2, hone, hrow E' he⟩, ?_⟩
        simp only [RV]
        refine ⟨_, cap, hnm, 0, cap, rfl, ?_, by omega, fun _ => by simp, by simp⟩
        rcases g2.2 with ⟨hv, _⟩ | ⟨g, cap', cur, hv, _, _, h4, _⟩
        · simp at hv
        · simp only [Value.slice.injEq, true_and] at hv; rw [hv.2]; exact h4
    | some a =>
      obtain ⟨o', mm, rfl, g1, g2, g3, g4⟩ := h6
      have hmm : mm = k := by simpa using g4
      subst hmm
      have hform : a.off = 0 ∧ a.spot = none ∧ (n' = 0 ∨ True) := by
        rcases h2.2 with ⟨hv, _⟩ | ⟨g, cap, cur, hv, _⟩
        · simp at hv
        · simp only [Value.slice.injEq, Option.some.injEq] at hv; rw [hv.1]; exact ⟨rfl, rfl, .inr trivial⟩
      have hcx : (Value.slice (some ⟨a.block, o', none⟩) n' mm) = .slice (some a) n' mm ∨ mm = 0 := by
        by_cases e : mm = 0
        · exact .inr e
        · left
          have := g3 e
          rw [this, hform.1]
          obtain ⟨ab, ao, asp⟩ := a
          simp only at hform
          simp [hform.1, hform.2.1]
      rcases hcx with hcx | hcx
      · rw [hcx]
        rw [hcx] at fin
        obtain ⟨v', W', hr, g5, g6, g7⟩ := run_app_own (P := P) (ty := ty) ht hi h2 hs hb
        have hv' : ∃ x cap, v' = .slice x (n' + m) cap ∧ (x = none → cap = 0 ∧ n' + m = 0) ∧ (∀ y, x = some y → y.off = 0 ∧ y.spot = none ∧ n' + m ≤ cap) := by
          rcases g5.2 with ⟨rfl, h0⟩ | ⟨g, cap, cur, rfl, _, _, h7, _⟩
          · exact ⟨none, 0, by rw [h0], (fun _ => ⟨rfl, h0⟩), fun y hy => by cases hy⟩
          · exact ⟨_, cap, rfl, (fun h => by cases h), fun y hy => by cases hy; exact ⟨rfl, rfl, h7⟩⟩
        obtain ⟨x, cap, rfl, hx0, hx1⟩ := hv'
        refine fin _ W' (x, cap) (some a.block) g6 (.inr (by simp [blkOf, h1])) (fun b hb => ?_) hr fun E' he hnm => ⟨⟨x, cap, xs ++ news, hnm, by rw [addN_eq]; exact g5, hone, hrow E' he⟩, ?_⟩
        · cases x with
          | none => cases hb
          | some y =>
            have hb : y.block = b := Option.some.inj hb
            subst hb
            rcases g7 with g7 | g7
            · left; simpa [Value.ownBlock] using g7.symm
            · right; simp only [Value.ownBlock, Option.some.injEq] at g7; omega
        · simp only [RV]
          refine ⟨x, cap, hnm, ?_⟩
          rw [addN_eq]
          cases x with
          | none => obtain ⟨rfl, h0⟩ := hx0 rfl; rw [h0]; exact ⟨none, rfl, rfl, rfl⟩
          | some y =>
            obtain ⟨y1, y2, y3⟩ := hx1 y rfl
            refine ⟨0, cap, ?_, y3, by omega, fun _ => by simp [y1], by simp⟩
            obtain ⟨yb, yo, ys⟩ := y
            simp only at y1 y2
            rw [y1, y2]
      · subst hcx
        have hn0 : n' = 0 := by omega
        subst hn0
        obtain ⟨v', W', hr, h⟩ := run_app_empty (P := P) (ty := ty) (b' := some ⟨a.block, o', none⟩) ht hi hs (by omega)
        have hxs : xs = [] := List.eq_nil_of_length_eq_zero (by simpa using hlen)
        subst hxs
        rcases h with ⟨rfl, rfl, rfl⟩ | ⟨cap, rfl, g5, g6⟩
        · have hnn : news = [] := List.eq_nil_of_length_eq_zero (by simpa using hs.len)
          refine fin _ _ (none, 0) none ⟨rfl, rfl, rfl, Nat.le_refl _, fun _ _ _ => rfl⟩ (.inl rfl) (fun b hb => by cases hb) hr fun E' he hnm => ⟨⟨none, 0, [], hnm, World.ownsRow_nil _ _ _ _, (fun u hu => by cases hu), fun q hq => by simp only [addN] at hq; omega⟩, ?_⟩
          simp only [RV]
          exact ⟨none, 0, hnm, _, rfl, rfl, rfl⟩
        · refine fin _ _ (some ⟨W.heap.size, 0, none⟩, cap) none g6 (.inl rfl) (fun b hb => by simp [baseBlk] at hb; omega) hr fun E' he hnm => ⟨⟨_, cap, news, hnm, g5, hone, hrow E' he⟩, ?_⟩
          simp only [RV]
          refine ⟨_, cap, hnm, 0, cap, rfl, ?_, by omega, fun _ => by simp, by simp⟩
          rcases g5.2 with ⟨hv, _⟩ | ⟨g, cap', cur, hv, _, _, h4, _⟩
          · simp at hv
          · simp only [Value.slice.injEq, true_and] at hv; rw [hv.2]; exact h4
  · rename_i id i es' 
    simp only [RV] at hx
    obtain ⟨b, k, h1, h2⟩ := hx
    have hcx : ∃ b', cx = .slice b' 0 0 := by
      cases b with
      | none => obtain ⟨b', rfl, _⟩ := h2; exact ⟨b', rfl⟩
      | some a => obtain ⟨o, m, rfl, _, _, _, h3⟩ := h2; exact ⟨_, by rw [show m = 0 from h3]⟩
    obtain ⟨b', rfl⟩ := hcx
    exact app_empty_ok r ht hi hs
  · exact SemAt.fail
end
end Go.Proofs.Ytbgbjgedjmhcaaa
