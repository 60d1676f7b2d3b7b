/- The engine, part P: sets as maps. No conditions but those of each theorem. -/
import Derived.Test.YtbgbjgedjmhcaaaSyJ
import Derived.MapKept
namespace Go.Proofs.Ytbgbjgedjmhcaaa
open Go.RowKit Go.MapKept
set_option linter.unusedVariables false
set_option linter.unusedSimpArgs false
section
variable {α : Type} [DecidableEq α]
/-- keys of one kind -/
structure KeyKind (d : TypeDesc) (kf : Value → Option α) (mk : α → Value) : Prop where
  kf_mk : ∀ n, kf (mk n) = some n
  same : ∀ n m, Instr.sameNow d (mk n) (mk m) = some (decide (n = m))
  bits : ∀ n, Instr.sameBits 10000 (mk n) (mk n) = true
  key : ∀ n, IsKey d (mk n)
def EntOK (mk : α → Value) (es : List MapEntry) : Prop := ∀ e ∈ es, ∃ n b, e.key = mk n ∧ e.val = .bool b
theorem find_spec {d : TypeDesc} {kf : Value → Option α} {mk : α → Value} (K : KeyKind d kf mk) (n : α) : ∀ (es : List MapEntry) (i : Nat), EntOK mk es →
    (Instr.findNow d (mk n) es i = some none ∧ lookK kf es n = false ∧ ∀ b c m, lookK kf (es ++ [⟨mk n, .bool b, c⟩]) m = if m = n then b else lookK kf es m) ∨
    (∃ j, Instr.findNow d (mk n) es i = some (some (i + j, .bool (lookK kf es n))) ∧ (es[j]?).map (·.key) = some (mk n) ∧ ∀ b m, lookK kf (es.modify j fun e => { e with key := mk n, val := .bool b }) m = if m = n then b else lookK kf es m)
  | [], i, _ => .inl ⟨rfl, rfl, fun b c m => by
      simp only [List.nil_append, lookK, K.kf_mk, boolOf]
      by_cases e : n = m
      · rw [if_pos e, if_pos e.symm]
      · rw [if_neg e, if_neg (fun h => e h.symm)]⟩
  | e :: es, i, h => by
    obtain ⟨m0, b0, h1, h2⟩ := h e List.mem_cons_self
    have ih := find_spec K n es (i + 1) (fun x hx => h x (List.mem_cons_of_mem _ hx))
    by_cases hn : n = m0
    · right
      subst hn
      refine ⟨0, ?_, by simp [h1], fun b m => ?_⟩
      · simp only [Instr.findNow, h1, K.same, decide_true, lookK, K.kf_mk, if_true, h2, boolOf, Nat.add_zero]
      · simp only [List.modify_zero_cons, lookK, K.kf_mk, boolOf, h1]
        by_cases e : n = m
        · rw [if_pos e, if_pos e.symm]
        · rw [if_neg e, if_neg (fun h => e h.symm), if_neg e]
    · have hs : decide (n = m0) = false := by simpa using hn
      have hf : Instr.findNow d (mk n) (e :: es) i = Instr.findNow d (mk n) es (i + 1) := by
        simp only [Instr.findNow, h1, K.same, hs]
      have hl : ∀ l m, lookK kf (e :: l) m = if m0 = m then b0 else lookK kf l m := fun l m => by
        simp only [lookK, h1, K.kf_mk, h2, boolOf]
      rw [hf, hl, if_neg (fun e => hn e.symm)]
      have two : ∀ (b : Bool) (m : α) (x : Bool), (if m0 = m then b0 else if m = n then b else x) = if m = n then b else if m0 = m then b0 else x := fun b m x => by
        by_cases e1 : m0 = m
        · rw [if_pos e1, if_pos e1, if_neg (fun e2 => hn (by rw [← e2, ← e1]))]
        · rw [if_neg e1, if_neg e1]
      rcases ih with ⟨g1, g2, g3⟩ | ⟨j, g1, g2, g3⟩
      · refine .inl ⟨g1, g2, fun b c m => ?_⟩
        rw [List.cons_append, hl, g3, hl, two]
      · refine .inr ⟨j + 1, by rw [g1]; congr 3; omega, by simpa using g2, fun b m => ?_⟩
        rw [List.modify_succ_cons, hl, g3, hl, two]
end
theorem keysI (kd : IntKind) : KeyKind (.int kd) kfI (fun n => Value.int kd n) := ⟨fun _ => rfl, fun n m => by simp only [Instr.sameNow, if_true]; rfl, fun n => by simp [Instr.sameBits], fun n => by simp [IsKey]⟩
theorem keysS : KeyKind .string kfS (fun n => Value.string n) := ⟨fun _ => rfl, fun n m => by
    simp only [Instr.sameNow]
    congr 1
    by_cases e : n = m
    · rw [decide_eq_true e]; exact (bytes_beq n m).2 e
    · rw [decide_eq_false e]; exact Bool.eq_false_iff.2 fun h => e ((bytes_beq n m).1 h), fun n => by simp only [Instr.sameBits]; exact (bytes_beq n n).2 rfl, fun n => by simp [IsKey]⟩
def mapTy (P : Program) (t : TypeId) : Option (TypeId × TypeId) := match P.underlying t with
  | some (.map k e) => some (k, e)
  | _ => none
theorem mapTy_ok {P : Program} {t k e : TypeId} (h : mapTy P t = some (k, e)) : P.underlying t = some (.map k e) := by
  unfold mapTy at h
  split at h
  · simp only [Option.some.injEq, Prod.mk.injEq] at h
    rename_i h2; rw [h2, h.1, h.2]
  · cases h
def keyInt (P : Program) (k : TypeId) : Option IntKind := match P.underlying k with
  | some (.int kd) => some kd
  | _ => none
theorem keyInt_ok {P : Program} {k : TypeId} {kd : IntKind} (h : keyInt P k = some kd) : P.underlying k = some (.int kd) := by
  unfold keyInt at h
  split at h
  · simp only [Option.some.injEq] at h
    rename_i h2; rw [h2, h]
  · cases h
def keyStr (P : Program) (k : TypeId) : Bool := match P.underlying k with
  | some .string => true
  | _ => false
theorem keyStr_ok {P : Program} {k : TypeId} (h : keyStr P k = true) : P.underlying k = some .string := by
  unfold keyStr at h
  split at h
  · assumption
  · cases h
def elemBool (P : Program) (e : TypeId) : Bool := match P.info? e with
  | some i => match i.zero with
    | some (.bool b) => !b
    | _ => false
  | none => false
section
variable {P : Program} {E : Env} {s : St} {W : World} {sem : Sem Value}
theorem elemBool_ok {e : TypeId} (h : elemBool P e = true) : (zeroValue e).run P W = .ok (.bool false) W := by
  unfold elemBool at h
  split at h
  · rename_i i hi
    split at h
    · rename_i b hz
      have hb : b = false := by simpa using h
      subst hb
      have : (typeInfo e).run P W = .ok i W := by
        simp [typeInfo, hi]
      simp only [zeroValue, Sem.run_bind, this, Result.andThen_ok, hz, Sem.run_pure]
    · cases h
  · cases h
/-- a new map -/
def makeMapA (P : Program) (nm : Nat) (t : TypeId) : Ac AV := match mapTy P t with
  | some (k, e) => match elemBool P e with
    | true => match keyInt P k with
      | some kd => .new nm (.obj (.iset kd fun _ => false)) (.ret (.mp nm))
      | none => match keyStr P k with
        | true => .new nm (.obj (.sset fun _ => false)) (.ret (.mp nm))
        | false => .fail
    | false => .fail
  | none => .fail
theorem makeMap_ok (r : RH E s.heap W) (nm : Nat) (t : TypeId) : SemAt P E s W (Instr.makeMap t none) (makeMapA P nm t) := by
  unfold makeMapA
  have run : (Instr.makeMap t none).run P W = .ok (.map (some W.heap.size)) (W.alloc (.map #[] 0)) := rfl
  split
  case h_2 => exact SemAt.fail
  split
  case h_2 => exact SemAt.fail
  split
  · refine SemAt.new r (k := 0) run fun E' he hn => ⟨⟨_, _, _, hn, heap_alloc_new W _, #[], 0, rfl, fun e h => by simp at h, fun n => rfl⟩, ?_⟩
    simp only [RV]
    exact ⟨_, _, hn, rfl⟩
  · split
    · refine SemAt.new r (k := 0) run fun E' he hn => ⟨⟨_, _, _, hn, heap_alloc_new W _, #[], 0, rfl, fun e h => by simp at h, fun n => rfl⟩, ?_⟩
      simp only [RV]
      exact ⟨_, _, hn, rfl⟩
    · exact SemAt.fail
/-- what a set tells of a key -/
def lookupA (P : Program) (t : TypeId) (m key : AV) (ok : Bool) : Ac AV := match ok with
  | true => .fail
  | false => match mapTy P t with
    | some (k, e) => match elemBool P e with
      | true => match m with
        | .mp id => .get id fun o => match o with
          | .obj (.iset kd g) => match key with
            | .val (.int kd' n) => match keyInt P k with
              | some kd2 => match sameK kd kd', sameK kd kd2 with
                | true, true => .ret (.val (.bool (g n)))
                | _, _ => .fail
              | none => .fail
            | _ => .fail
          | .obj (.sset g) => match key with
            | .val (.string n) => match keyStr P k with
              | true => .ret (.val (.bool (g n)))
              | false => .fail
            | _ => .fail
          | _ => .fail
        | _ => .fail
      | false => .fail
    | none => .fail
theorem look_run {α : Type} [DecidableEq α] {d : TypeDesc} {kf : Value → Option α} {mk : α → Value} (K : KeyKind d kf mk) {t k e : TypeId} {b : Nat} {es : Array MapEntry} {c : Nat} {n : α} (ht : P.underlying t = some (.map k e)) (hk : P.underlying k = some d) (he : elemBool P e = true) (hb : W.heap[b]? = some (.map es c)) (hes : EntOK mk es.toList) : (Instr.lookup t (.map (some b)) (mk n) false).run P W = .ok (.bool (lookK kf es.toList n)) W := by
  have h1 := Go.MapKept.run_checkKey (w := W) hk (K.key n) es.isEmpty 9999
  simp only [Instr.lookup, Sem.run_bind, run_underlying ht, Result.andThen_ok, Go.MapKept.run_getObj_map hb, Sem.run_pure, h1]
  rcases find_spec K n es.toList 0 hes with ⟨g1, g2, g3⟩ | ⟨j, g1, g2, g3⟩
  · simp only [Go.MapKept.run_findKey (w := W) hk g1, Result.andThen_ok, Sem.run_bind, elemBool_ok he, Sem.run_pure, g2]
    rfl
  · simp only [Go.MapKept.run_findKey (w := W) hk g1, Result.andThen_ok, Sem.run_bind, Sem.run_pure]
    rfl
theorem lookup_ok (r : RH E s.heap W) (t : TypeId) {m key : AV} {cm ck : Value} (ok : Bool) (hm : RV E m cm) (hk : RV E key ck) : SemAt P E s W (Instr.lookup t cm ck ok) (lookupA P t m key ok) := by
  unfold lookupA
  split
  · exact SemAt.fail
  split
  case h_2 => exact SemAt.fail
  rename_i k e hmt
  have hmt := mapTy_ok hmt
  split
  case h_2 => exact SemAt.fail
  rename_i heb
  split
  case h_2 => exact SemAt.fail
  rename_i id
  refine SemAt.get fun o ho => ?_
  have hh := r.holds id o ho
  simp only [RV] at hm
  obtain ⟨a, q, e1, rfl⟩ := hm
  split
  · rename_i kd g
    obtain ⟨b, k', ob, g1, g2, es, c, rfl, g4, g5⟩ := hh
    rw [e1] at g1
    simp only [Option.some.injEq, Prod.mk.injEq] at g1
    obtain ⟨rfl, _⟩ := g1
    split
    case h_2 => exact SemAt.fail
    rename_i kd' n
    simp only [RV] at hk
    subst hk
    split
    case h_2 => exact SemAt.fail
    rename_i kd2 hkk
    split
    case h_2 => exact SemAt.fail
    rename_i s1 s2
    have s1 := sameK_ok s1
    have s2 := sameK_ok s2
    subst s1; subst s2
    exact SemAt.ret r (look_run (keysI kd) hmt (keyInt_ok hkk) heb g2 g4) (by simp only [RV]; rw [g5])
  · rename_i g
    obtain ⟨b, k', ob, g1, g2, es, c, rfl, g4, g5⟩ := hh
    rw [e1] at g1
    simp only [Option.some.injEq, Prod.mk.injEq] at g1
    obtain ⟨rfl, _⟩ := g1
    split
    case h_2 => exact SemAt.fail
    rename_i n
    simp only [RV] at hk
    subst hk
    split
    case h_2 => exact SemAt.fail
    rename_i hkk
    exact SemAt.ret r (look_run keysS hmt (keyStr_ok hkk) heb g2 g4) (by simp only [RV]; rw [g5])
  · exact SemAt.fail
/-- an entry of a set is written -/
def updA (P : Program) (t : TypeId) (m key v : AV) : Ac AV := match mapTy P t with
  | some (k, e) => match m with
    | .mp id => .get id fun o => match o with
      | .obj (.iset kd g) => match key, v with
        | .val (.int kd' n), .val (.bool b) => match keyInt P k with
          | some kd2 => match sameK kd kd', sameK kd kd2 with
            | true, true => .put id (.obj (.iset kd fun y => if y = n then b else g y)) (.ret undefA)
            | _, _ => .fail
          | none => .fail
        | _, _ => .fail
      | .obj (.sset g) => match key, v with
        | .val (.string n), .val (.bool b) => match keyStr P k with
          | true => .put id (.obj (.sset fun y => if y = n then b else g y)) (.ret undefA)
          | false => .fail
        | _, _ => .fail
      | _ => .fail
    | _ => .fail
  | none => .fail
theorem upd_run {α : Type} [DecidableEq α] {d : TypeDesc} {kf : Value → Option α} {mk : α → Value} (K : KeyKind d kf mk) {t k e : TypeId} {b : Nat} {es : Array MapEntry} {c : Nat} {n : α} {x : Bool} (ht : P.underlying t = some (.map k e)) (hk : P.underlying k = some d) (hb : W.heap[b]? = some (.map es c)) (hes : EntOK mk es.toList) :
    ∃ es' c', (do Instr.mapUpdate t (.map (some b)) (mk n) (.bool x); pure undef : Sem Value).run P W = .ok undef { W with heap := W.heap.setIfInBounds b (.map es' c') } ∧ EntOK mk es'.toList ∧ ∀ m, lookK kf es'.toList m = if m = n then x else lookK kf es.toList m := by
  have h1 := Go.MapKept.run_checkKey (w := W) hk (K.key n) false 9999
  rcases find_spec K n es.toList 0 hes with ⟨g1, g2, g3⟩ | ⟨j, g1, g2, g3⟩
  · refine ⟨es.push ⟨mk n, .bool x, c⟩, c + 1, ?_, ?_, ?_⟩
    · simp only [Instr.mapUpdate, Sem.run_bind, run_underlying ht, Result.andThen_ok, Go.MapKept.run_getObj_map hb, h1, Go.MapKept.run_findKey (w := W) hk g1, Go.MapKept.run_setObj_map _ hb, Sem.run_pure]
    · intro e he
      rw [Array.toList_push] at he
      rcases List.mem_append.1 he with h | h
      · exact hes e h
      · rw [List.mem_singleton.1 h]; exact ⟨n, x, rfl, rfl⟩
    · intro m
      rw [Array.toList_push]; exact g3 x c m
  · refine ⟨es.modify j fun e => { e with key := mk n, val := .bool x }, c, ?_, ?_, ?_⟩
    · have hkey : ((es[0 + j]?).map (·.key)).getD (mk n) = mk n := by
        rw [Nat.zero_add]
        have : (es[j]?).map (·.key) = some (mk n) := by simpa using g2
        rw [this]; rfl
      have hst : (Instr.keyThatStays (mk n) (mk n)).run P W = .ok (mk n) W := by
        simp only [Instr.keyThatStays, K.bits, if_true, Sem.run_pure]
      simp only [Instr.mapUpdate, Sem.run_bind, run_underlying ht, Result.andThen_ok, Go.MapKept.run_getObj_map hb, h1, Go.MapKept.run_findKey (w := W) hk g1, hkey, hst, Go.MapKept.run_setObj_map _ hb, Sem.run_pure]
      rw [Nat.zero_add]
    · intro e he
      rw [Array.toList_modify] at he
      obtain ⟨i, hi, rfl⟩ := List.getElem_of_mem he
      rw [List.getElem_modify]
      split
      · exact ⟨n, x, rfl, rfl⟩
      · exact hes _ (List.getElem_mem _)
    · intro m
      rw [Array.toList_modify]; exact g3 x m
theorem grown_set (W : World) (b : Nat) (o : Obj) : W.grownBy { W with heap := W.heap.setIfInBounds b o } (some b) :=
  ⟨rfl, rfl, rfl, by simp, fun k _ hk => by
    have hne : b ≠ k := fun e => hk (by rw [e])
    simp [hne]⟩
theorem upd_ok (r : RH E s.heap W) (t : TypeId) {m key v : AV} {cm ck cv : Value} (hm : RV E m cm) (hk : RV E key ck) (hv : RV E v cv) : SemAt P E s W (do Instr.mapUpdate t cm ck cv; pure undef) (updA P t m key v) := by
  unfold updA
  split
  case h_2 => exact SemAt.fail
  rename_i k e hmt
  have hmt := mapTy_ok hmt
  split
  case h_2 => exact SemAt.fail
  rename_i id
  refine SemAt.get fun o ho => ?_
  have hh := r.holds id o ho
  simp only [RV] at hm
  obtain ⟨a, q, e1, rfl⟩ := hm
  split
  · rename_i kd g
    obtain ⟨b, k', ob, g1, g2, es, c, rfl, g4, g5⟩ := hh
    rw [e1] at g1
    simp only [Option.some.injEq, Prod.mk.injEq] at g1
    obtain ⟨rfl, _⟩ := g1
    split
    case h_2 => exact SemAt.fail
    rename_i kd' n x
    simp only [RV] at hk hv
    subst hk; subst hv
    split
    case h_2 => exact SemAt.fail
    rename_i kd2 hkk
    split
    case h_2 => exact SemAt.fail
    rename_i s1 s2
    have s1 := sameK_ok s1
    have s2 := sameK_ok s2
    subst s1; subst s2
    obtain ⟨es', c', u1, u2, u3⟩ := upd_run (P := P) (keysI kd) (n := n) (x := x) hmt (keyInt_ok hkk) g2 g4
    have hlt := (Array.getElem?_eq_some_iff.1 g2).1
    refine SemAt.put r ho rfl (b := b) (by simp [blkOf, e1]) u1 (grown_set W b _) ⟨b, k', _, by rw [e1]; simp_all, ?_, es', c', rfl, u2, fun m => ?_⟩ (by simp [undefA, RV])
    · simp [hlt]
    · rw [u3, g5]
  · rename_i g
    obtain ⟨b, k', ob, g1, g2, es, c, rfl, g4, g5⟩ := hh
    rw [e1] at g1
    simp only [Option.some.injEq, Prod.mk.injEq] at g1
    obtain ⟨rfl, _⟩ := g1
    split
    case h_2 => exact SemAt.fail
    rename_i n x
    simp only [RV] at hk hv
    subst hk; subst hv
    split
    case h_2 => exact SemAt.fail
    rename_i hkk
    obtain ⟨es', c', u1, u2, u3⟩ := upd_run (P := P) keysS (n := n) (x := x) hmt (keyStr_ok hkk) g2 g4
    have hlt := (Array.getElem?_eq_some_iff.1 g2).1
    refine SemAt.put r ho rfl (b := b) (by simp [blkOf, e1]) u1 (grown_set W b _) ⟨b, k', _, by rw [e1]; simp_all, ?_, es', c', rfl, u2, fun m => ?_⟩ (by simp [undefA, RV])
    · simp [hlt]
    · rw [u3, g5]
  · exact SemAt.fail
/-! ### copy -/
def copyRow (row : Nat → List AV) (i k : Nat) (row2 : Nat → List AV) : Nat → List AV := fun q => if i ≤ q ∧ q < i + k then row2 (q - i) else row q
def copyA (P : Program) (t : TypeId) (x y : AV) : Ac AV := match P.underlying t with
  | some (.slice e) => match tySize P e with
    | none => .fail
    | some es => match x, y with
      | .sl id i es' n c, .sl id2 i2 es2 m c2 => match es' == es, es2 == es with
        | true, true => .get id2 fun o2 => srcA o2 i2 es m fun row2 => .get id fun o => match o with
          | .vec ty es'' N row => match es'' == es with
            | true => .need (i + min n m ≤ N) (.put id (.vec ty es N (copyRow row i (min n m) row2)) (.ret (.val (.int .i64 ((min n m : Nat) : Int)))))
            | false => .fail
          | _ => .fail
        | _, _ => .fail
      | _, _ => .fail
  | _ => .fail
theorem cells_take (xs : List Value) (es k q : Nat) (h : q < k) : cellsAt (xs.take (k * es)) es q = cellsAt xs es q := by
  have := cells_shift xs es 0 k q h
  simpa using this
theorem cells_copy (xs vs : List Value) (es N i k : Nat) (hl : xs.length = N * es) (hv : vs.length = k * es) (hle : i + k ≤ N) (q : Nat) (hq : q < N) :
    cellsAt (xs.take (i * es) ++ vs ++ xs.drop (i * es + vs.length)) es q = if i ≤ q ∧ q < i + k then cellsAt vs es (q - i) else cellsAt xs es q := by
  have h1 : i * es ≤ N * es := Nat.mul_le_mul_right _ (by omega)
  have h2 : (xs.take (i * es) ++ vs).length = (i + k) * es := by
    rw [List.length_append, List.length_take, hl, hv, Nat.add_mul, Nat.min_eq_left h1]
  rw [cells_cat _ _ es (i + k) q h2]
  by_cases c1 : q < i + k
  · rw [if_pos c1, cells_cat _ _ es i q (by rw [List.length_take, hl, Nat.min_eq_left h1])]
    by_cases c2 : q < i
    · rw [if_pos c2, if_neg (by omega), cells_take _ _ _ _ c2]
    · rw [if_neg c2, if_pos (by omega)]
  · rw [if_neg c1, if_neg (by omega)]
    have h3 : i * es + vs.length = (i + k) * es := by rw [hv, Nat.add_mul]
    rw [h3]
    unfold cellsAt
    rw [List.drop_drop]
    have : (i + k) * es + (q - (i + k)) * es = q * es := by rw [← Nat.add_mul]; congr 1; omega
    rw [this]
theorem SemAt.put0 (r : RH E s.heap W) {id : Nat} {o o0 : Ob} {v : AV} {cv : Value} (hf : find s.heap id = some o0) (ho : o0.owned = true) (ho2 : o.owned = true) (h : sem.run P W = .ok cv W)
    (hh : Holds E W id o) (hv : RV E v cv) (hbx : o.bx = o0.bx := by rfl) : SemAt P E s W sem (.put id o (.ret v)) := fun out ho' _ hn => by
  simp only [Ac.run, hf, Option.some.injEq] at ho'
  subst ho'
  have rh : RH E (upd s.heap id o) W := by
    refine ⟨fun x p hp => ?_, fun a b p q hp hq hne hw c hc hc2 => ?_⟩
    · rw [find_upd] at hp
      by_cases e : id = x
      · rw [if_pos e] at hp; obtain rfl := Option.some.inj hp; rw [← e]; exact hh
      · rw [if_neg e] at hp; exact r.holds x p hp
    · rw [find_upd] at hp hq
      have key : ∀ y z, (if id = y then some o else find s.heap y) = some z → ∃ z', find s.heap y = some z' ∧ (z.owned = true → z'.owned = true) ∧ z'.bx = z.bx := fun y z hz => by
        by_cases e : id = y
        · rw [if_pos e] at hz; obtain rfl := Option.some.inj hz; exact ⟨o0, by rw [← e]; exact hf, fun _ => ho, hbx.symm⟩
        · rw [if_neg e] at hz; exact ⟨z, hz, fun h => h, rfl⟩
      obtain ⟨p', h1, h2, h5⟩ := key a p hp
      obtain ⟨q', h3, h4, h6⟩ := key b q hq
      exact r.apart a b p' q' h1 h3 hne (h2 hw) c (hc.congr h5 rfl) (hc2.congr h6 rfl)
  refine ⟨rfl, cv, W, E, h, Ext.refl E, hv, rh, ⟨rfl, rfl, rfl, Nat.le_refl _, fun _ _ _ => rfl, fun x p b hp hb => ?_⟩⟩
  rw [find_upd] at hp
  by_cases e : id = x
  · rw [if_pos e] at hp; obtain rfl := Option.some.inj hp; exact .inl ⟨id, o0, hf, fun _ => ho, by rw [e]; exact hb.congr hbx.symm rfl⟩
  · rw [if_neg e] at hp; exact .inl ⟨x, p, hp, fun h => h, hb⟩
/-- elements of a slice of the call's own are written -/
theorem vec_write (r : RH E s.heap W) {id vty es N p k kk : Nat} {row row2 : Nat → List AV} {v : AV} {cv : Value} {a : Addr} {vs : List Value} (ho : find s.heap id = some (.vec vty es N row)) (hE : E id = some (some a, kk))
    (hvl : vs.length = k * es) (hone : ∀ u ∈ vs, u.oneCell' = true) (hrow : ∀ q, q < k → RVs E (row2 q) (cellsAt vs es q)) (hle : p + k ≤ N)
    (hrun : ∀ cur : Array Value, a.off = 0 → W.heap[a.block]? = some (.cells cur vty (0, 0)) → N ≤ kk → cur.size = kk * es → sem.run P W = .ok cv (W.setRow a.block (cur.toList.take (p * es) ++ vs ++ cur.toList.drop (p * es + vs.length)).toArray)) (hv : RV E v cv) : SemAt P E s W sem (.put id (.vec vty es N (copyRow row p k row2)) (.ret v)) := by
  obtain ⟨b', k', xs, g1, g2, g3, g4⟩ := r.holds id _ ho
  rw [hE] at g1
  simp only [Option.some.injEq, Prod.mk.injEq] at g1
  obtain ⟨rfl, rfl⟩ := g1
  rcases g2.2 with ⟨hv', _⟩ | ⟨g, cap, cur, hv', hg0, hcur, hnc, hcm, hsz, htk⟩
  · simp at hv'
  simp only [Value.slice.injEq, Option.some.injEq, true_and] at hv'
  obtain ⟨rfl, rfl⟩ := hv'
  have hlN := g2.1
  have m1 : (p + k) * es ≤ N * es := Nat.mul_le_mul_right _ hle
  have m2 : N * es ≤ kk * es := Nat.mul_le_mul_right _ hnc
  rw [Nat.add_mul] at m1
  have hrun := hrun cur rfl hcur hnc (by simpa using hsz)
  refine SemAt.put r ho rfl (b := g) (by simp [blkOf, hE]) hrun (grown_setRow _ _ _)
    ⟨_, _, xs.take (p * es) ++ vs ++ xs.drop (p * es + vs.length), hE, ⟨?_, .inr ⟨g, kk, _, rfl, hg0, setRow_heap W g _ _ vty _ hcur, hnc, hcm, ?_, ?_⟩⟩, ?_, ?_⟩ hv
  · simp only [List.length_append, List.length_take, List.length_drop] at *
    omega
  · simp only [List.size_toArray, List.length_append, List.length_take, List.length_drop, Array.length_toList] at *
    omega
  · rw [← htk]
    apply List.ext_getElem?
    intro d
    have l1 : (List.take (p * es) cur.toList).length = p * es := by rw [List.length_take]; simp; omega
    have l2 : (List.take (p * es) (List.take (N * es) cur.toList)).length = p * es := by rw [List.length_take, List.length_take]; simp; omega
    rw [List.getElem?_take, app3, app3, l1, l2]
    by_cases hd : d < N * es
    · rw [if_pos hd]
      by_cases h6 : d < p * es
      · rw [if_pos h6, if_pos h6, List.getElem?_take, List.getElem?_take, if_pos h6, if_pos h6, List.getElem?_take, if_pos hd]
      · rw [if_neg h6, if_neg h6]
        by_cases h7 : d - p * es < vs.length
        · rw [if_pos h7, if_pos h7]
        · rw [if_neg h7, if_neg h7, List.getElem?_drop, List.getElem?_drop, List.getElem?_take, if_pos (by omega)]
    · rw [if_neg hd, if_neg (by omega), if_neg (by omega), List.getElem?_eq_none]
      rw [List.length_drop, List.length_take, Array.length_toList]
      omega
  · intro u hu
    rcases List.mem_append.1 hu with hu | hu
    · rcases List.mem_append.1 hu with hu | hu
      · exact g3 u (List.mem_of_mem_take hu)
      · exact hone u hu
    · exact g3 u (List.mem_of_mem_drop hu)
  · intro q hq
    rw [cells_copy xs _ es N p k hlN hvl hle q hq]
    unfold copyRow
    by_cases c : p ≤ q ∧ q < p + k
    · rw [if_pos c, if_pos c]; exact hrow _ (by omega)
    · rw [if_neg c, if_neg c]; exact g4 q hq
/-- nothing is written -/
theorem vec_none (r : RH E s.heap W) {id vty es N p : Nat} {row row2 : Nat → List AV} {v : AV} {cv : Value} (ho : find s.heap id = some (.vec vty es N row)) (hrun : sem.run P W = .ok cv W) (hv : RV E v cv) : SemAt P E s W sem (.put id (.vec vty es N (copyRow row p 0 row2)) (.ret v)) := by
  obtain ⟨b', k', xs, g1, g2, g3, g4⟩ := r.holds id _ ho
  refine SemAt.put0 r ho rfl rfl hrun ⟨b', k', xs, g1, g2, g3, fun q hq => ?_⟩ hv
  unfold copyRow
  rw [if_neg (by omega)]
  exact g4 q hq
theorem copy_ok (r : RH E s.heap W) (t t2 ty : TypeId) {x y : AV} {cx cy : Value} (hx : RV E x cx) (hy : RV E y cy) : SemAt P E s W (Builtin.copy_ #[t, t2] ty #[cx, cy]) (copyA P t x y) := by
  unfold copyA
  split
  case h_2 => exact SemAt.fail
  rename_i e ht
  split
  · exact SemAt.fail
  rename_i es hz
  split
  case h_2 => exact SemAt.fail
  rename_i id i es' n c id2 i2 es2 m c2
  split
  case h_2 => exact SemAt.fail
  rename_i he1 he2
  have he1 : es' = es := by simpa using he1
  have he2 : es2 = es := by simpa using he2
  subst he1; subst he2
  refine SemAt.get fun o2 ho2 => src_ok (r.holds id2 o2 ho2) hy _ fun row2 news hs => SemAt.get fun o ho => ?_
  have hh := r.holds id o ho
  split
  case h_2 => exact SemAt.fail
  rename_i vty es'' N row
  split
  case h_2 => exact SemAt.fail
  rename_i he3
  have he3 : es'' = es2 := by simpa using he3
  subst he3
  refine SemAt.need fun hle => ?_
  have hlen : (Builtin.lenOf cy).run P W = .ok m W := by
    rcases hs.addr with ⟨ad, mm, rfl, _⟩ | ⟨rfl, rfl⟩ <;> rfl
  have hvl : (news.take (min n m * es'')).length = min n m * es'' := by
    rw [List.length_take, hs.len]
    exact Nat.min_eq_left (Nat.mul_le_mul_right _ (Nat.min_le_right _ _))
  have hfirst : (Builtin.firstCells es'' (min n m) cy).run P W = .ok (news.take (min n m * es'')).toArray W := by
    rcases hs.addr with ⟨ad, mm, rfl, hcell⟩ | ⟨rfl, rfl⟩
    · exact run_firstCells_some (w := W) es'' (min n m) ad m mm _ hvl (fun j v hv => hcell j v (by
        rw [List.getElem?_take] at hv
        split at hv
        · exact hv
        · cases hv))
    · simp [Builtin.firstCells]
  have hone : ∀ u ∈ news.take (min n m * es''), u.oneCell' = true := fun u hu => hs.one u (List.mem_of_mem_take hu)
  have hrow : ∀ q, q < min n m → RVs E (row2 q) (cellsAt (news.take (min n m * es'')) es'' q) := fun q hq => by
    rw [cells_take _ _ _ _ hq]; exact hs.rows q (by omega)
  have hx' := hx
  simp only [RV] at hx
  obtain ⟨b, kk, hE, hsl⟩ := hx
  obtain ⟨b', k', xs, g1, g2, g3, g4⟩ := hh
  rw [hE] at g1
  simp only [Option.some.injEq, Prod.mk.injEq] at g1
  obtain ⟨rfl, rfl⟩ := g1
  generalize hkk : min n m = k at *
  by_cases h0 : k = 0
  · -- nothing is copied
    subst h0
    have hnil : news.take (0 * es'') = [] := by simp
    rw [hnil] at hfirst
    have hrun : (Builtin.copy_ #[t, t2] ty #[cx, cy]).run P W = .ok (goInt 0) W := by
      cases b with
      | none =>
        obtain ⟨bb, rfl, rfl, _⟩ := hsl
        cases bb <;> simp [Builtin.copy_, run_underlying ht, run_size hz, hlen, hfirst, storeCells]
      | some a =>
        obtain ⟨of, mm, rfl, _⟩ := hsl
        have e0 : n.min m = 0 := hkk
        have e1 : m.min n = 0 := by rw [← hkk]; exact Nat.min_comm m n
        simp [Builtin.copy_, run_underlying ht, run_size hz, hlen, hfirst, storeCells, e1]
    refine SemAt.put0 r ho rfl rfl hrun ⟨b, kk, xs, hE, g2, g3, fun q hq => ?_⟩ (by simp [RV, goInt])
    unfold copyRow
    rw [if_neg (by omega)]
    exact g4 q hq
  · cases b with
    | none =>
      obtain ⟨bb, rfl, rfl, _⟩ := hsl
      exfalso; omega
    | some a =>
      obtain ⟨of, mm, rfl, q1, q2, q3, _⟩ := hsl
      have hoff := q3 (by omega)
      subst hoff
      have e1 : m.min n = k := by rw [← hkk]; exact Nat.min_comm m n
      refine vec_write r ho hE (cv := goInt k) hvl hone hrow hle (fun cur ha hcur hnc hsz => ?_) (by simp [RV, goInt])
      have m1 : (i + k) * es'' ≤ N * es'' := Nat.mul_le_mul_right _ hle
      have m2 : N * es'' ≤ kk * es'' := Nat.mul_le_mul_right _ hnc
      rw [Nat.add_mul] at m1
      have hst := run_storeCells_at (P := P) a.block (i * es'') vty (news.take (k * es'')) 0 cur W hcur (by rw [hvl]; omega) hone
      simp only [Nat.add_zero] at hst
      simp [Builtin.copy_, run_underlying ht, run_size hz, hlen, hfirst, e1, ha, hst]
/-! ### append where there is room; clear -/
def appInA (P : Program) (t : TypeId) (x y : AV) : Ac AV := match P.underlying t with
  | some (.slice e) => match infoOK P e with
    | none => .fail
    | some es => match x, y with
      | .sl id i es' n none, .sl id2 i2 es2 m c2 => match es' == es, es2 == es with
        | true, true => .get id2 fun o2 => srcA o2 i2 es m fun row2 => .get id fun o => match o with
          | .vec ty es'' N row => match es'' == es with
            | true => .need (i + n + m ≤ N) (.put id (.vec ty es N (copyRow row (i + n) m row2)) (.ret (.sl id i es (addN n m) none)))
            | false => .fail
          | _ => .fail
        | _, _ => .fail
      | _, _ => .fail
  | _ => .fail
theorem appIn_ok (r : RH E s.heap W) (t ty : TypeId) {x y : AV} {cx cy : Value} (hx : RV E x cx) (hy : RV E y cy) : SemAt P E s W (Builtin.append_ #[t, t] ty #[cx, cy]) (appInA P t x y) := by
  unfold appInA
  split
  case h_2 => exact SemAt.fail
  rename_i e ht
  split
  · exact SemAt.fail
  rename_i es hi
  split
  case h_2 => exact SemAt.fail
  rename_i id i es' n id2 i2 es2 m c2
  split
  case h_2 => exact SemAt.fail
  rename_i he1 he2
  have he1 : es' = es := by simpa using he1
  have he2 : es2 = es := by simpa using he2
  subst he1; subst he2
  refine SemAt.get fun o2 ho2 => src_ok (r.holds id2 o2 ho2) hy _ fun row2 news hs => SemAt.get fun o ho => ?_
  split
  case h_2 => exact SemAt.fail
  rename_i vty es'' N row
  split
  case h_2 => exact SemAt.fail
  rename_i he3
  have he3 : es'' = es2 := by simpa using he3
  subst he3
  refine SemAt.need fun hle => ?_
  obtain ⟨ti, z, hi1, hz, hsz1, hby, hzc, hpos⟩ := infoOK_ok hi
  have hlen : (Builtin.lenOf cy).run P W = .ok m W := by
    rcases hs.addr with ⟨ad, mm, rfl, _⟩ | ⟨rfl, rfl⟩ <;> rfl
  have hfirst : (Builtin.firstCells es'' m cy).run P W = .ok news.toArray W := by
    rcases hs.addr with ⟨ad, mm, rfl, hcell⟩ | ⟨rfl, rfl⟩
    · exact run_firstCells_some (w := W) es'' m ad m mm _ hs.len hcell
    · have : news = [] := List.eq_nil_of_length_eq_zero (by simpa using hs.len)
      rw [this]; simp [Builtin.firstCells]
  simp only [RV] at hx
  obtain ⟨b, kk, hE, hsl⟩ := hx
  have hNk : ∀ a, b = some a → N ≤ kk ∧ a.off = 0 := fun a hb => by
    obtain ⟨b', k', xs, g1, g2, g3, g4⟩ := r.holds id _ ho
    rw [hE, hb] at g1
    simp only [Option.some.injEq, Prod.mk.injEq] at g1
    obtain ⟨rfl, rfl⟩ := g1
    rcases g2.2 with ⟨hv', _⟩ | ⟨g, cap, cur, hv', hg0, hcur, hnc, _⟩
    · simp at hv'
    · simp only [Value.slice.injEq, Option.some.injEq, true_and] at hv'
      obtain ⟨rfl, rfl⟩ := hv'
      exact ⟨hnc, rfl⟩
  cases b with
  | none =>
    obtain ⟨bb, rfl, rfl, rfl⟩ := hsl
    have hm : m = 0 := by
      obtain ⟨b', k', xs, g1, g2, g3, g4⟩ := r.holds id _ ho
      rw [hE] at g1
      simp only [Option.some.injEq, Prod.mk.injEq] at g1
      obtain ⟨rfl, rfl⟩ := g1
      rcases g2.2 with ⟨_, h0⟩ | ⟨g, cap, cur, hv', _⟩
      · omega
      · simp at hv'
    subst hm
    have hn : news = [] := List.eq_nil_of_length_eq_zero (by simpa using hs.len)
    subst hn
    refine vec_none r ho (cv := .slice bb 0 0) ?_ ?_
    · cases bb <;> simp [Builtin.append_, run_underlying ht, sizeOf, typeInfo, hi1, hsz1, hlen, hfirst, storeCells]
    · simp only [RV, addN_eq]
      exact ⟨none, kk, hE, bb, rfl, rfl, rfl⟩
  | some a =>
    obtain ⟨of, mm, rfl, q1, q2, q3, q4⟩ := hsl
    obtain ⟨hNk, ha0⟩ := hNk a rfl
    dsimp only at q4
    have hroom : n + m ≤ mm := by omega
    have hres : RV E (.sl id i es'' (addN n m) none) (.slice (some ⟨a.block, of, none⟩) (n + m) mm) := by
      simp only [RV, addN_eq]
      exact ⟨some a, kk, hE, of, mm, rfl, hroom, q2, q3, q4⟩
    by_cases h0 : m = 0
    · subst h0
      have hn : news = [] := List.eq_nil_of_length_eq_zero (by simpa using hs.len)
      subst hn
      refine vec_none r ho (cv := .slice (some ⟨a.block, of, none⟩) (n + 0) mm) ?_ hres
      have : n ≤ mm := q1
      simp [Builtin.append_, run_underlying ht, sizeOf, typeInfo, hi1, hsz1, hlen, hfirst, storeCells, this]
    · have hoff := q3 (by omega)
      subst hoff
      refine vec_write r ho hE hs.len hs.one hs.rows hle (fun cur ha hcur hnc hsz => ?_) hres
      have m1 : (i + n + m) * es'' ≤ N * es'' := Nat.mul_le_mul_right _ hle
      have m2 : N * es'' ≤ kk * es'' := Nat.mul_le_mul_right _ hnc
      rw [Nat.add_mul] at m1
      have hst := run_storeCells_at (P := P) a.block ((i + n) * es'') vty news 0 cur W hcur (by rw [hs.len]; omega) hs.one
      simp only [Nat.add_zero] at hst
      have hadd : (⟨a.block, i * es'', none⟩ : Addr).add (n * es'') = ⟨a.block, (i + n) * es'', none⟩ := by
        rw [add_at (⟨a.block, 0, none⟩ : Addr), Nat.add_mul]
      simp [Builtin.append_, run_underlying ht, sizeOf, typeInfo, hi1, hsz1, hlen, hfirst, hroom, ha, hadd, hst]
def clearA (P : Program) (t : TypeId) (x : AV) : Ac AV := match P.underlying t with
  | some (.slice e) => match infoOK P e, zeroA P e with
    | some es, some zs => match x, allB one1 zs with
      | .sl id i es' n c, true => match es' == es with
        | true => .get id fun o => match o with
          | .vec ty es'' N row => match es'' == es with
            | true => .need (i + n ≤ N) (.put id (.vec ty es N (copyRow row i n fun _ => zs)) (.ret undefA))
            | false => .fail
          | _ => .fail
        | false => .fail
      | _, _ => .fail
    | _, _ => .fail
  | _ => .fail
theorem zcells (z : Array Value) (es n : Nat) (hz : z.size = es) (hpos : 0 < es) : (Builtin.zeroCells z n).toList.length = n * es ∧ ∀ j, j < n * es → (Builtin.zeroCells z n).toList[j]? = z.toList[j % es]? := by
  refine ⟨by simp [Builtin.zeroCells, hz], fun j hj => ?_⟩
  have hlt : j % es < z.size := by rw [hz]; exact Nat.mod_lt _ hpos
  simp only [Builtin.zeroCells, hz, Array.toList_map, Array.toList_range, List.getElem?_map, List.getElem?_range hj, Option.map_some]
  rw [getElem!_pos z (j % es) hlt]
  simp [hlt]
theorem clear_ok (r : RH E s.heap W) (t ty : TypeId) {x : AV} {cx : Value} (hx : RV E x cx) : SemAt P E s W (Builtin.clear_ #[t] ty #[cx]) (clearA P t x) := by
  unfold clearA
  split
  case h_2 => exact SemAt.fail
  rename_i e ht
  split
  case h_2 => exact SemAt.fail
  rename_i es zs hi hzs
  split
  case h_2 => exact SemAt.fail
  rename_i id i es' n c h1
  split
  case h_2 => exact SemAt.fail
  rename_i he1
  have he1 : es' = es := by simpa using he1
  subst he1
  refine SemAt.get fun o ho => ?_
  split
  case h_2 => exact SemAt.fail
  rename_i vty es'' N row
  split
  case h_2 => exact SemAt.fail
  rename_i he3
  have he3 : es'' = es' := by simpa using he3
  subst he3
  refine SemAt.need fun hle => ?_
  obtain ⟨ti, z, hi1, hz, hsz1, hby, hzc, hpos⟩ := infoOK_ok hi
  obtain ⟨i', z', hi1', hz', rfl⟩ := zeroA_ok hzs
  rw [hi1] at hi1'
  obtain rfl := Option.some.inj hi1'
  rw [hz] at hz'
  obtain rfl := Option.some.inj hz'
  have hzv : (zeroValue e).run P W = .ok z W := by simp [zeroValue, typeInfo, hi1, hz]
  obtain ⟨zl, zg⟩ := zcells z.cells es'' n hzc hpos
  simp only [RV] at hx
  obtain ⟨b, kk, hE, hsl⟩ := hx
  by_cases h0 : n = 0
  · subst h0
    refine vec_none r ho (cv := undef) ?_ (by simp [undefA, RV])
    cases b with
    | none =>
      obtain ⟨bb, rfl, _, _⟩ := hsl
      cases bb <;> simp [Builtin.clear_, run_underlying ht, undef]
    | some a =>
      obtain ⟨of, mm, rfl, _⟩ := hsl
      simp [Builtin.clear_, run_underlying ht, undef]
  · cases b with
    | none =>
      obtain ⟨bb, rfl, h, _⟩ := hsl
      exact absurd h h0
    | some a =>
      obtain ⟨of, mm, rfl, q1, q2, q3, q4⟩ := hsl
      have hoff := q3 (by omega)
      subst hoff
      have hone : ∀ u ∈ (Builtin.zeroCells z.cells n).toList, u.oneCell' = true := fun u hu => by
        obtain ⟨j, hj⟩ := List.getElem?_of_mem hu
        have hlt : j < n * es'' := by have := (List.getElem?_eq_some_iff.1 hj).1; omega
        rw [zg j hlt] at hj
        have hm := List.mem_of_getElem? hj
        have := allB_ok h1 (.val u) (List.mem_map.2 ⟨u, hm, rfl⟩)
        simpa [one1] using this
      refine vec_write r ho hE (cv := undef) zl hone (fun q hq => ?_) hle (fun cur ha hcur hnc hsz => ?_) (by simp [undefA, RV])
      · have hq2 : q * es'' + es'' ≤ n * es'' := by rw [← Nat.succ_mul]; exact Nat.mul_le_mul_right _ hq
        have : cellsAt (Builtin.zeroCells z.cells n).toList es'' q = z.cells.toList := by
          apply List.ext_getElem?
          intro d
          unfold cellsAt
          rw [List.getElem?_take]
          by_cases hd : d < es''
          · rw [if_pos hd, List.getElem?_drop, zg _ (by omega)]
            congr 1
            rw [Nat.mul_comm, Nat.mul_add_mod]
            exact Nat.mod_eq_of_lt hd
          · rw [if_neg hd, List.getElem?_eq_none]
            simp [hzc]; omega
        rw [this]
        exact RVs.vals _
      · have m1 : (i + n) * es'' ≤ N * es'' := Nat.mul_le_mul_right _ hle
        have m2 : N * es'' ≤ kk * es'' := Nat.mul_le_mul_right _ hnc
        rw [Nat.add_mul] at m1
        have hst := run_storeCells_at (P := P) a.block (i * es'') vty (Builtin.zeroCells z.cells n).toList 0 cur W hcur (by rw [zl]; omega) hone
        simp only [Nat.add_zero] at hst
        cases n with
        | zero => exact absurd rfl h0
        | succ n => simp [Builtin.clear_, run_underlying ht, hzv, ha, hst, undef]
/-! ### a slice told up to its capacity -/
def sliceInA (P : Program) (t : TypeId) (x : AV) (lo hi mx : Option AV) : Ac AV := match P.underlying t with
  | some (.slice e) => match tySize P e with
    | none => .fail
    | some q => match x, lo, hi, mx with
      | .sl id i es n none, some (.val (.int _ z)), some (.val (.int _ y)), none => match q == es with
        | true => .get id fun o => match o with
          | .vec _ es' N _ => match es == es' with
            | true => .need (0 ≤ z ∧ z ≤ y ∧ (i : Int) + y ≤ N) (.ret (.sl id (addN i z.toNat) es (y.toNat - z.toNat) none))
            | false => .fail
          | _ => .fail
        | false => .fail
      | _, _, _, _ => .fail
  | _ => .fail
theorem sliceIn_ok (r : RH E s.heap W) (t : TypeId) {x : AV} {c : Value} (hx : RV E x c) {lo hi mx : Option AV} {cl ch cm : Option Value} (hl : (lo = none ∧ cl = none) ∨ ∃ v w, lo = some v ∧ cl = some w ∧ RV E v w) (hh : (hi = none ∧ ch = none) ∨ ∃ v w, hi = some v ∧ ch = some w ∧ RV E v w) (hm : (mx = none ∧ cm = none) ∨ ∃ v w, mx = some v ∧ cm = some w ∧ RV E v w) :
    SemAt P E s W (Instr.sliceAt t c cl ch cm) (sliceInA P t x lo hi mx) := by
  unfold sliceInA
  split
  case h_2 => exact SemAt.fail
  rename_i e hu
  split
  · exact SemAt.fail
  rename_i q hq
  split
  case h_2 => exact SemAt.fail
  rename_i id i es n kz z ky y
  split
  case h_2 => exact SemAt.fail
  rename_i hqe
  have hqe' : q = es := by simpa using hqe
  subst hqe'
  obtain rfl : cl = some (.int kz z) := by
    rcases hl with ⟨h, _⟩ | ⟨v, w, h, rfl, h2⟩
    · cases h
    · cases h; simp only [RV] at h2; rw [h2]
  obtain rfl : ch = some (.int ky y) := by
    rcases hh with ⟨h, _⟩ | ⟨v, w, h, rfl, h2⟩
    · cases h
    · cases h; simp only [RV] at h2; rw [h2]
  obtain rfl : cm = none := by
    rcases hm with ⟨_, h⟩ | ⟨v, w, h, _⟩
    · exact h
    · cases h
  refine SemAt.get fun o ho => ?_
  split
  case h_2 => exact SemAt.fail
  rename_i vty es' N row
  split
  case h_2 => exact SemAt.fail
  rename_i hes
  have hes' : q = es' := by simpa using hes
  subst hes'
  refine SemAt.need fun hb => ?_
  simp only [RV] at hx
  obtain ⟨b, k, he, h5⟩ := hx
  obtain ⟨b', k', xs, g1, g2, g3, g4⟩ := r.holds id _ ho
  rw [he] at g1
  simp only [Option.some.injEq, Prod.mk.injEq] at g1
  obtain ⟨rfl, rfl⟩ := g1
  have hbd : ∀ cap : Nat, y ≤ (cap : Int) → (Instr.sliceBounds true n cap (some (.int kz z)) (some (.int ky y)) none).run P W = .ok (z.toNat, y.toNat, cap) W := fun cap hc => by
    have hb2 := bound_ok (P := P) (k := ky) (code := BoundsCode.sliceAcap) (show 0 ≤ y by omega) hc W
    simp [Instr.sliceBounds, hb2, bound_ok (P := P) (k := kz) hb.1 (show z ≤ (y.toNat : Int) by omega)]
  cases b with
  | none =>
    obtain ⟨bb, rfl, rfl, rfl⟩ := h5
    have hN : N = 0 := by
      rcases g2.2 with ⟨_, h0⟩ | ⟨g, cap, cur, hv', _⟩
      · exact h0
      · simp at hv'
    have hy : y = 0 := by omega
    have hz : z = 0 := by omega
    subst hy; subst hz
    have := hbd 0 (by simp)
    refine SemAt.ret r (cv := .slice bb 0 0) ?_ ?_
    · simp at this
      simp [Instr.sliceAt, Instr.slice, run_underlying hu, this, run_size hq]
    · simp only [RV]
      exact ⟨none, k, he, bb, rfl, rfl, rfl⟩
  | some a =>
    obtain ⟨o, m', rfl, h6, h7, h8, h9⟩ := h5
    dsimp only at h9
    have hNk : N ≤ k := by
      rcases g2.2 with ⟨hv', _⟩ | ⟨g, cap, cur, hv', hg0, hcur, hnc, _⟩
      · simp at hv'
      · simp only [Value.slice.injEq, Option.some.injEq, true_and] at hv'
        rw [hv'.2]; exact hnc
    have hs := hbd m' (by omega)
    refine SemAt.ret r (cv := .slice (some ⟨a.block, if m' = z.toNat then o else o + z.toNat * q, none⟩) (y.toNat - z.toNat) (m' - z.toNat)) ?_ ?_
    · simp only [Instr.sliceAt, Instr.slice, run_underlying hu, hs, run_size hq, Sem.run_bind, Result.andThen_ok, Sem.run_pure, Option.map_some]
      congr 2
      by_cases e : m' = z.toNat
      · rw [if_pos e, if_pos e]
      · rw [if_neg e, if_neg e, add_at]
    · simp only [RV]
      refine ⟨some a, k, he, _, m' - z.toNat, rfl, by omega, by rw [addN_eq]; omega, fun hne => ?_, by rw [addN_eq]; omega⟩
      rw [if_neg (by omega), h8 (by omega), addN_eq, Nat.add_mul]
      omega
end
end Go.Proofs.Ytbgbjgedjmhcaaa
