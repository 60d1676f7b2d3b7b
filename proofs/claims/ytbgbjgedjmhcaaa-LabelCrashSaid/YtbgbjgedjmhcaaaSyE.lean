/- The engine, part E: pointers held against each other, pointers seen as unsafe ones, bytes read as a string, strings appended, cells at a place that is not written out. No conditions but those of each theorem. -/
import Derived.Test.YtbgbjgedjmhcaaaSyP
import Derived.Lib.Builder
import Derived.Lib.UnsafeStr
import Derived.Lib.AppendStr
import Derived.Laws.Externs
import Derived.Laws.BytesArg
import Derived.ChangeKeysEq
namespace Go.Proofs.Ytbgbjgedjmhcaaa
open Go.RowKit
set_option linter.unusedVariables false
set_option linter.unusedSimpArgs false
section
variable {P : Program} {E : Env} {s : St} {W : World} {sem : Sem Value}

/-! ### A pointer against itself -/
def ptrSame (P : Program) (t : TypeId) (x y : AV) (op : BinOp) : Option Bool := match x, y with
  | .ptr i a e j, .ptr i' a' e' j' => match P.underlying t with
    | some (.pointer te) => match P.info? te with
      | some _ => match i == i', a == a', e == e', j == j', op with
        | true, true, true, true, .eql => some true
        | true, true, true, true, .neq => some false
        | _, _, _, _, _ => none
      | none => none
    | _ => none
  | _, _ => none
theorem run_eql_ptr (W : World) {tp te : TypeId} {j : TypeInfo} (a : Addr) (hp : P.underlying tp = some (.pointer te)) (hte : P.info? te = some j) : (Op.equal tp (.pointer (some a)) (.pointer (some a))).run P W = .ok true W := by
  have h : ∀ d : Nat, (Op.equalIn (d + 1) tp (.pointer (some a)) (.pointer (some a))).run P W = .ok true W := fun d => by
    simp [Op.equalIn, run_underlying hp, sizeOf, typeInfo, hte, run_sameAddr_same]
  simp [Op.equal, Op.maxDepth, h 9999]
def binP (P : Program) (h : Hint) (op : BinOp) (t : TypeId) (x y : AV) : Ac AV := match ptrSame P t x y op with
  | some b => .ret (.val (.bool b))
  | none => binA P h op t x y
theorem binP_ok (r : RH E s.heap W) (h : Hint) (op : BinOp) (t : TypeId) (ox oy : Operand) {x y : AV} {cx cy : Value} (hx : RV E x cx) (hy : RV E y cy) : SemAt P E s W (do eqGuard op t ox oy cx cy; binOp op t cx cy) (binP P h op t x y) := by
  unfold binP
  split
  case h_2 => exact bin_ok r h op t ox oy hx hy
  rename_i b hb
  unfold ptrSame at hb
  split at hb
  case h_2 => cases hb
  rename_i i a e j i' a' e' j'
  split at hb
  case h_2 => cases hb
  rename_i te hu
  split at hb
  case h_2 => cases hb
  rename_i inf hi
  have same : i = i' → a = a' → e = e' → j = j' → ∃ ad, cx = .pointer (some ad) ∧ cy = .pointer (some ad) := by
    rintro rfl rfl rfl rfl
    simp only [RV] at hx hy
    obtain ⟨a1, k1, h1, rfl⟩ := hx
    obtain ⟨a2, k2, h2, rfl⟩ := hy
    rw [h1] at h2
    simp only [Option.some.injEq, Prod.mk.injEq] at h2
    obtain ⟨rfl, rfl⟩ := h2
    exact ⟨_, rfl, rfl⟩
  split at hb
  case h_3 => cases hb
  · rename_i g1 g2 g3 g4
    simp only [Option.some.injEq] at hb
    subst hb
    obtain ⟨ad, rfl, rfl⟩ := same (by simpa using g1) (by simpa using g2) (by simpa using g3) (by simpa using g4)
    refine SemAt.after (guard_no _ _ _ _ _ _ _ (by intros; simp) (by simp)) (SemAt.ret r (cv := .bool true) ?_ (by simp only [RV]))
    have := run_eql_ptr (P := P) W ad hu hi
    show (do pure (.bool (← Op.equal t _ _)) : Sem Value).run P W = _
    rw [Sem.run_bind, this]; rfl
  · rename_i g1 g2 g3 g4
    simp only [Option.some.injEq] at hb
    subst hb
    obtain ⟨ad, rfl, rfl⟩ := same (by simpa using g1) (by simpa using g2) (by simpa using g3) (by simpa using g4)
    refine SemAt.after (guard_no _ _ _ _ _ _ _ (by intros; simp) (by simp)) (SemAt.ret r (cv := .bool false) ?_ (by simp only [RV]))
    exact Lib.run_neq_ptr_same W ad hu hi

/-! ### Pointers seen as unsafe ones; bytes turned into a string -/
def strRow (t : ByteArray) : Nat → List AV := fun q => [.val (.int .u8 (byteAt t q))]
/-- the elements are the string's bytes -/
def RowStr (t : ByteArray) (n : Nat) (row : Nat → List AV) : Prop := t.size = n ∧ ∀ q, q < n → row q = strRow t q
def convP (P : Program) (h : Hint) (src dst : TypeId) (x : AV) : Ac AV := match x with
  | .ptr id 0 0 0 => match P.underlying src, P.underlying dst with
    | some (.pointer t), some .unsafePointer => match tySize P t with
      | some (_ + 1) => .get id fun o => match o with
        | .blk _ (_ :: _) => .ret (.ptr id 0 0 0)
        | _ => .fail
      | _ => .fail
    | some .unsafePointer, some (.pointer u) => match P.info? u with
      | some _ => .get id fun o => match o with
        | .blk ty cs => match liesAt P P.depth ty (cs.length / P.cellsOf ty) 0 u 1 with
          | true => .ret (.ptr id 0 0 0)
          | false => .fail
        | _ => .fail
      | none => .fail
    | _, _ => .fail
  | x => convA P h src dst x
theorem blk_shape {id ty : Nat} {cs : List AV} (hh : Holds E W id (.blk ty cs)) : ∃ b k, E id = some (some ⟨b, 0, none⟩, k) ∧ W.shape? b = some (ty, cs.length) := by
  obtain ⟨b, k, xs, h1, h2, h3, _⟩ := hh
  exact ⟨b, k, h1, by simp [World.shape?, h2, h3.length]⟩
theorem convP_ok (r : RH E s.heap W) (h : Hint) (src dst : TypeId) {x : AV} {c : Value} (hx : RV E x c) : SemAt P E s W (convert src dst c) (convP P h src dst x) := by
  unfold convP
  split
  case h_2 => exact conv_ok r h src dst hx
  rename_i id
  have hx0 := hx
  simp only [RV] at hx
  obtain ⟨a, k, he, rfl⟩ := hx
  split
  · rename_i t hs hd
    split
    case h_2 => exact SemAt.fail
    rename_i n hz
    refine SemAt.get fun o ho => ?_
    split
    case h_2 => exact SemAt.fail
    rename_i ty v cs
    obtain ⟨b, k', h1, h2⟩ := blk_shape (r.holds id _ ho)
    rw [he] at h1
    simp only [Option.some.injEq, Prod.mk.injEq] at h1
    obtain ⟨rfl, rfl⟩ := h1
    unfold tySize at hz
    cases hi : P.info? t with
    | none => rw [hi] at hz; cases hz
    | some i =>
      rw [hi] at hz
      simp only [Option.some.injEq] at hz
      exact SemAt.ret r (Lib.run_to_unsafe W _ hs hd hi (by rw [hz]; exact Nat.succ_ne_zero _) h2 (by simp)) hx0
  · rename_i u hs hd
    split
    case h_2 => exact SemAt.fail
    rename_i i hi
    refine SemAt.get fun o ho => ?_
    split
    case h_2 => exact SemAt.fail
    rename_i ty cs
    split
    case h_2 => exact SemAt.fail
    rename_i hl
    obtain ⟨b, k', h1, h2⟩ := blk_shape (r.holds id _ ho)
    rw [he] at h1
    simp only [Option.some.injEq, Prod.mk.injEq] at h1
    obtain ⟨rfl, rfl⟩ := h1
    exact SemAt.ret r (Lib.run_from_unsafe W _ hs hd hi h2 (by simpa using hl)) hx0
  · exact SemAt.fail

/-! ### An object is given away -/
theorem SemAt.away (r : RH E s.heap W) {id b : Nat} {o0 : Ob} {v : AV} {cv : Value} {W' : World} (hf : find s.heap id = some o0) (ho : o0.owned = true) (hb : blkOf E id = some b) (h : sem.run P W = .ok cv W') (g : W.grownBy W' (some b)) (hv : RV E v cv) (hbx : o0.bx = none := by rfl) : SemAt P E s W sem (.del id (.ret v)) := fun out hout _ hn => by
  simp only [Ac.run, Option.some.injEq] at hout
  subst hout
  have hd : ∀ x y, find (del s.heap id) x = some y → x ≠ id ∧ find s.heap x = some y := fun x y hxy => by
    rw [find_del] at hxy
    split at hxy
    · cases hxy
    · rename_i hne; exact ⟨fun e => hne e.symm, hxy⟩
  have hfo : Foot E W id o0 b := by simp only [Foot, hbx, FootB]; exact hb
  have hk : ∀ x y, find (del s.heap id) x = some y → ∀ b', Foot E W x y b' → W'.heap[b']? = W.heap[b']? := fun x y hxy b' hb' => by
    obtain ⟨h1, h2⟩ := hd x y hxy
    refine g.block b' (Holds.blk_lt hb' (r.holds x y h2)) fun e => ?_
    simp only [Option.some.injEq] at e
    subst e
    exact r.apart id x o0 y hf h2 (fun e => h1 e.symm) ho _ hfo hb'
  have hft : ∀ x y, find (del s.heap id) x = some y → ∀ b', Foot E W' x y b' → Foot E W x y b' := fun x y hxy b' hb' => Foot.kept g.size (hk x y hxy) (r.holds x y (hd x y hxy).2) b' hb'
  refine ⟨rfl, cv, W', E, h, Ext.refl E, hv, ⟨fun x y hxy => ?_, fun x y p q h1 h2 hne hw b' hb1 hb2 => r.apart x y p q (hd x p h1).2 (hd y q h2).2 hne hw b' (hft x p h1 b' hb1) (hft y q h2 b' hb2)⟩, ⟨g.os, g.tape, g.output, g.size, fun b' hlt hno => ?_, fun x y b' h1 h3 => ?_⟩⟩
  · exact (r.holds x y (hd x y hxy).2).kept g.size (hk x y hxy)
  · refine g.block b' hlt fun e => ?_
    simp only [Option.some.injEq] at e
    subst e
    exact hno id o0 hf ho hfo
  · exact .inl ⟨x, y, (hd x y h1).2, fun h => h, hft x y h1 b' h3⟩
theorem grownBy_freeze (W : World) (g n : Nat) : W.grownBy (W.freeze ⟨g, 0, none⟩ n) (some g) := by
  unfold World.freeze
  split
  · exact ⟨rfl, rfl, rfl, Nat.le_refl _, fun _ _ _ => rfl⟩
  · refine ⟨rfl, rfl, rfl, by simp, fun k hk hne => ?_⟩
    have : g ≠ k := fun e => hne (by rw [e])
    simp only [Array.getElem?_modify]
    rw [if_neg this]

/-! ### unsafe.SliceData, unsafe.String -/
def uSlDataA (x : AV) : Ac AV := match x with
  | .val (.slice none 0 0) => .ret (.val (.pointer none))
  | .sl id i es n _ => .need (1 ≤ n) (.ret (.ptr id i es 0))
  | _ => .fail
theorem uSlData_ok (r : RH E s.heap W) (ts : Array TypeId) (ty : TypeId) {x : AV} {c : Value} (hx : RV E x c) : SemAt P E s W (Builtin.unsafeSliceData_ ts ty #[c]) (uSlDataA x) := by
  unfold uSlDataA
  split
  · simp only [RV] at hx
    subst hx
    exact SemAt.ret r (Lib.run_unsafeSliceData_nil W ts ty 0 0) (by simp only [RV])
  · rename_i id i es n cc
    refine SemAt.need fun hn => ?_
    simp only [RV] at hx
    obtain ⟨b, k, he, h2⟩ := hx
    cases b with
    | none => obtain ⟨_, _, h0, _⟩ := h2; omega
    | some a =>
      obtain ⟨o, m, rfl, h3, h4, h5, _⟩ := h2
      refine SemAt.ret r (Lib.run_unsafeSliceData_row W ts ty _ n m (by omega)) ?_
      simp only [RV]
      exact ⟨a, k, he, by rw [h5 (by omega), Nat.add_zero]⟩
  · exact SemAt.fail
def uStringA (P : Program) (h : Hint) (ts : List TypeId) (x n : AV) : Ac AV := match x, n with
  | .val (.pointer none), .val (.int .i64 z) => .need (z = 0) (.ret (.val (.string ByteArray.empty)))
  | .ptr id 0 1 0, .val (.int .i64 z) => match h, ts with
    | .is (.val (.string t)), [pt, _] => match P.underlying pt with
      | some (.pointer e) => .get id fun o => match o with
        | .vec ty 1 m row => match ty == e, P.cellsOf e == 1 with
          | true, true => .need (z = (m : Int) ∧ 1 ≤ m ∧ m ≤ 9223372036854775807 ∧ RowStr t m row) (.del id (.ret (.val (.string t))))
          | _, _ => .fail
        | _ => .fail
      | _ => .fail
    | _, _ => .fail
  | _, _ => .fail
theorem uString_ok (r : RH E s.heap W) (h : Hint) (ts : Array TypeId) (ty : TypeId) {x n : AV} {cx cn : Value} (hx : RV E x cx) (hn : RV E n cn) (hts : ∃ pt it, ts = #[pt, it]) : SemAt P E s W (Builtin.unsafeString_ ts ty #[cx, cn]) (uStringA P h ts.toList x n) := by
  obtain ⟨pt, it, rfl⟩ := hts
  unfold uStringA
  split
  · rename_i z
    refine SemAt.need fun hz => ?_
    simp only [RV] at hx hn
    subst hx hn hz
    exact SemAt.ret r (Lib.run_unsafeString_none W pt it ty none) (by simp only [RV])
  · rename_i id z
    split
    case h_2 => exact SemAt.fail
    rename_i t pt' it' hl
    simp only [List.cons.injEq, and_true] at hl
    obtain ⟨rfl, rfl⟩ := hl
    split
    case h_2 => exact SemAt.fail
    rename_i e hp
    refine SemAt.get fun o ho => ?_
    split
    case h_2 => exact SemAt.fail
    rename_i ty2 m row
    split
    case h_2 => exact SemAt.fail
    rename_i hte hce
    have hte' : ty2 = e := by simpa using hte
    subst hte'
    refine SemAt.need fun hq => ?_
    obtain ⟨rfl, hm1, hm2, hsz, hrow⟩ := hq
    obtain ⟨b, k, xs, h1, h2, h3, h4⟩ := r.holds id _ ho
    simp only [RV] at hx hn
    obtain ⟨a, k', he, rfl⟩ := hx
    subst hn
    rw [h1] at he
    simp only [Option.some.injEq, Prod.mk.injEq] at he
    obtain ⟨rfl, rfl⟩ := he
    rcases h2.2 with ⟨hv, _⟩ | ⟨g, cap, cur, hv, hg0, hg, hnc, hcm, hsz2, htk⟩
    · simp at hv
    simp only [Value.slice.injEq, Option.some.injEq, true_and] at hv
    obtain ⟨rfl, rfl⟩ := hv
    have hsh : W.shape? g = some (ty2, cur.size) := by simp [World.shape?, hg]
    have hlen : t.data.toList.length = m := by simpa using hsz
    have hcell : ∀ j (y : UInt8), t.data.toList[j]? = some y → W.cell? ((⟨g, 0, none⟩ : Addr).add j) = some (.int .u8 y.toNat) := fun j y hy => by
      have hj : j < m := by have := (List.getElem?_eq_some_iff.1 hy).1; omega
      refine h2.cells (g := g) rfl j _ ?_
      have h6 := h4 j hj
      rw [hrow j hj] at h6
      simp only [strRow, RVs, RV] at h6
      obtain ⟨u, l, e1, rfl, rfl⟩ := h6
      have h7 : (cellsAt xs 1 j)[0]? = some (.int .u8 (byteAt t j)) := by rw [e1]; rfl
      have h8 := cellsAt_get h7
      rw [Nat.mul_one, Nat.add_zero] at h8
      rw [h8]
      simp only [byteAt, hy, Option.getD_some]
    have hrun := Lib.run_unsafeString_row (P := P) W pt it ty ty2 hp (by simpa using hce) g cur.size hsh t.data.toList (fun e => by rw [e] at hlen; simp at hlen; omega) (by rw [hlen, hsz2]; omega) (by omega) hcell
    rw [hlen] at hrun
    simp only [Nat.zero_mul, Nat.zero_add, Nat.add_zero]
    have hstr : (⟨t.data.toList.toArray⟩ : ByteArray) = t := by rcases t with ⟨⟨l⟩⟩; rfl
    rw [hstr] at hrun
    exact SemAt.away r ho rfl (by simp [blkOf, h1]) hrun (grownBy_freeze W g m) (by simp only [RV])
  · exact SemAt.fail

/-! ### A string's bytes appended -/
theorem run_app_str {t u ty e : TypeId} {i : TypeInfo} (ht : P.underlying t = some (.slice e)) (hu : P.underlying u = some .string) (hi : P.info? e = some i) (hz : i.zero = some (.int .u8 0)) (hsize : i.size = 1) (hby : i.bytes = 1)
    {v : Value} {n : Nat} {xs : List Value} (hown : W.ownsRow 0 e 1 v n xs) (hn : 1 ≤ n) (t1 : ByteArray) (hb : n + t1.size ≤ 1099511627776) :
    ∃ g' cap' W', (Builtin.append_ #[t, u] ty #[v, .string t1]).run P W = .ok (.slice (some ⟨g', 0, none⟩) (n + t1.size) cap') W' ∧ W'.ownsRow 0 e 1 (.slice (some ⟨g', 0, none⟩) (n + t1.size) cap') (n + t1.size) (xs ++ Lib.strCells t1) ∧ W.grownBy W' v.ownBlock ∧ (some g' = v.ownBlock ∨ g' = W.heap.size) ∧ n + t1.size ≤ cap' := by
  obtain ⟨v', W', hr, h2, h3, _⟩ := Lib.run_append_own_string (P := P) W 0 t u ty e i ht hu hi hz hsize hby v n xs hown t1 (by unfold maxLen; omega) (by omega) (Nat.zero_le _)
  have hxl : xs.length = n := by simpa using hown.1
  rcases hown.2 with ⟨rfl, h0⟩ | ⟨g, cap, cur, rfl, hbg, hg, hnc, hcm, hcs, htake⟩
  · omega
  · have hcs' : cur.size = cap := by simpa using hcs
    by_cases hroom : n + t1.size ≤ cap
    · have hr2 := Lib.run_append_room_string (P := P) W t u ty e i ht hu hi hsize g n cap cur hg t1 hroom (by omega)
      rw [hr] at hr2
      simp only [Result.ok.injEq] at hr2
      obtain ⟨rfl, _⟩ := hr2
      exact ⟨g, cap, W', hr, h2, h3, .inl rfl, hroom⟩
    · have holds : ∀ j u, xs[j]? = some u → W.cell? ((⟨g, 0, none⟩ : Addr).add j) = some u := hown.cells (g := g) rfl
      have hr2 := Lib.run_append_grow_string (P := P) W t u ty e i (.int .u8 0) ht hu hi hz ⟨g, 0, none⟩ n cap xs (by rw [hsize]; simpa using hxl) holds t1 (by omega) (by omega) (by rw [hby]; exact growslice_fits (by omega) (by omega))
      rw [hr] at hr2
      simp only [Result.ok.injEq] at hr2
      obtain ⟨rfl, _⟩ := hr2
      exact ⟨_, _, W', hr, h2, h3, .inr rfl, grownCap_ge W _ _ _⟩
def isByteTy (P : Program) (e : TypeId) : Bool := match P.info? e with
  | some i => match i.zero with
    | some (.int .u8 0) => i.size == 1 && i.bytes == 1
    | _ => false
  | none => false
theorem isByteTy_ok {e : TypeId} (h : isByteTy P e = true) : ∃ i, P.info? e = some i ∧ i.zero = some (.int .u8 0) ∧ i.size = 1 ∧ i.bytes = 1 := by
  unfold isByteTy at h
  split at h
  · rename_i i hi
    split at h
    · rename_i hz
      simp only [Bool.and_eq_true, beq_iff_eq] at h
      exact ⟨i, hi, hz, h.1, h.2⟩
    · cases h
  · cases h
def appSA (P : Program) (nm : Nat) (t u : TypeId) (x y : AV) : Ac AV := match P.underlying t, P.underlying u with
  | some (.slice e), some .string => match isByteTy P e, x, y with
    | true, .sl id 0 1 n none, .val (.string t1) => .get id fun o => match o with
      | .vec e' 1 n' row => match e' == e with
        | true => .need (n' = n ∧ 1 ≤ n ∧ n + t1.size ≤ 1099511627776) (.del id (.new nm (.vec e 1 (addN n t1.size) (catR n row (strRow t1))) (.ret (.sl nm 0 1 (addN n t1.size) none))))
        | false => .fail
      | _ => .fail
    | _, _, _ => .fail
  | _, _ => .fail
theorem strCells_at (t1 : ByteArray) (q : Nat) (hq : q < t1.size) : cellsAt (Lib.strCells t1) 1 q = [.int .u8 (byteAt t1 q)] := by
  have hl : q < t1.data.toList.length := by simpa using hq
  unfold cellsAt Lib.strCells byteAt
  rw [Nat.mul_one, List.drop_eq_getElem_cons (by simpa using hl), List.getElem?_eq_getElem hl]
  simp
theorem appS_ok (r : RH E s.heap W) (nm : Nat) (t u ty : TypeId) {x y : AV} {cx cy : Value} (hx : RV E x cx) (hy : RV E y cy) : SemAt P E s W (Builtin.append_ #[t, u] ty #[cx, cy]) (appSA P nm t u x y) := by
  unfold appSA
  split
  case h_2 => exact SemAt.fail
  rename_i e ht hu
  split
  case h_2 => exact SemAt.fail
  rename_i id n t1 hbt
  obtain ⟨i, hi, hz, hsize, hby⟩ := isByteTy_ok hbt
  refine SemAt.get fun o ho => ?_
  split
  case h_2 => exact SemAt.fail
  rename_i e' n' row
  split
  case h_2 => exact SemAt.fail
  rename_i hee
  have hee' : e' = e := by simpa using hee
  subst hee'
  refine SemAt.need fun hq => ?_
  obtain ⟨rfl, hn1, hb⟩ := hq
  intro out hout _ hnw
  simp only [Ac.run] at hout
  split at hout
  · cases hout
  rename_i q hq
  split at hq
  · cases hq
  rename_i hf
  simp only [Option.some.injEq] at hq
  subst hq
  simp only [Option.some.injEq] at hout
  subst hout
  have hne := hnw nm (by simp)
  obtain ⟨b, k, xs, h1, h2, h3, h4⟩ := r.holds id _ ho
  simp only [RV] at hx hy
  subst hy
  obtain ⟨b2, k2, h5, h6⟩ := hx
  rw [h1] at h5
  simp only [Option.some.injEq, Prod.mk.injEq] at h5
  obtain ⟨rfl, rfl⟩ := h5
  have hnd : nm ≠ id := fun e => by rw [e, h1] at hne; cases hne
  have hxl : xs.length = n' := by simpa using h2.1
  cases b with
  | none => obtain ⟨_, _, h0, _⟩ := h6; omega
  | some a =>
    obtain ⟨o', mm, rfl, g1, g2, g3, g4⟩ := h6
    have hmm : mm = k := by simpa using g4
    subst hmm
    have hform : a = ⟨a.block, 0, none⟩ := by
      rcases h2.2 with ⟨hv, _⟩ | ⟨g, cap, cur, hv, _⟩
      · simp at hv
      · simp only [Value.slice.injEq, Option.some.injEq] at hv; rw [hv.1]
    have hcx : (Value.slice (some ⟨a.block, o', none⟩) n' mm) = .slice (some a) n' mm := by
      rw [g3 (by omega), hform]
    rw [hcx]
    obtain ⟨g', cap', W', hr, q2, q3, q4, q5⟩ := run_app_str (P := P) (ty := ty) ht hu hi hz hsize hby h2 hn1 t1 hb
    have hxt := nw_set E nm (some ⟨g', 0, none⟩, cap') hne
    have hown : (Value.slice (some a) n' mm).ownBlock = some a.block := rfl
    rw [hown] at q3 q4
    have hholds : ∀ E' : Env, (∀ i x, E i = some x → E' i = some x) → E' nm = some (some ⟨g', 0, none⟩, cap') → Holds E' W' nm (.vec e' 1 (addN n' t1.size) (catR n' row (strRow t1))) := fun E' he hnm => by
      refine ⟨_, cap', xs ++ Lib.strCells t1, hnm, by rw [addN_eq]; exact q2, fun z hz => (List.mem_append.1 hz).elim (h3 z) (Lib.strCells_oneCell t1 z), fun j hj => ?_⟩
      rw [catR_at, cells_cat xs (Lib.strCells t1) 1 n' j (by rw [hxl, Nat.mul_one])]
      rw [addN_eq] at hj
      by_cases e : j < n'
      · rw [if_pos e, if_pos e]; exact (h4.mono he) j e
      · rw [if_neg e, if_neg e, strCells_at t1 _ (by omega)]
        simp only [strRow, RVs, RV]
        exact ⟨_, _, rfl, rfl, rfl⟩
    obtain ⟨f1, f2⟩ := RH.change (h' := upd (del s.heap id) nm (.vec e' 1 (addN n' t1.size) (catR n' row (strRow t1)))) r hxt q3 (fun b hb => by
        simp only [Option.some.injEq] at hb
        refine ⟨id, _, ho, rfl, by simp [Foot, Ob.bx, FootB, blkOf, h1, hb], .inr ?_⟩
        rw [find_upd, if_neg hnd, find_del, if_pos rfl]) (by rw [find_upd]; simp) (fun x hx y hy => by
        rw [find_upd, if_neg (fun e => hx e.symm), find_del] at hy
        split at hy
        · cases hy
        · exact hy) (hholds _ hxt.1 (by simp)) (fun b hb => by
        simp only [Foot, Ob.bx, FootB, blkOf, if_pos, Option.some.injEq] at hb
        rcases q4 with q4 | q4
        · left; rw [← hb]; exact q4.symm
        · right; omega)
    refine ⟨rfl, _, W', _, hr, hxt, ?_, f1, f2⟩
    simp only [RV]
    refine ⟨some ⟨g', 0, none⟩, cap', by simp, ?_⟩
    rw [addN_eq]
    exact ⟨0, cap', rfl, q5, by omega, fun _ => by simp, by simp⟩

/-! ### Bytes read as a string -/
/-- a slice of bytes turned into a string -/
def bytesStrA (P : Program) (t : ByteArray) (src dst : TypeId) (x : AV) : Ac AV := match x with
  | .sl id i 1 n _ => match P.underlying src, P.underlying dst with
    | some (.slice e), some .string => match P.underlying e with
      | some (.int .u8) => .get id fun o => srcA o i 1 n fun row => .need (RowStr t n row) (.ret (.val (.string t)))
      | _ => .fail
    | _, _ => .fail
  | _ => .fail
theorem bytesStr_ok (r : RH E s.heap W) (t : ByteArray) (src dst : TypeId) {x : AV} {c : Value} (hx : RV E x c) : SemAt P E s W (convert src dst c) (bytesStrA P t src dst x) := by
  unfold bytesStrA
  split
  case h_2 => exact SemAt.fail
  rename_i id i n cc
  split
  case h_2 => exact SemAt.fail
  rename_i e hs hd
  split
  case h_2 => exact SemAt.fail
  rename_i he
  refine SemAt.get fun o ho => src_ok (r.holds id o ho) hx _ fun row news hS => SemAt.need fun hq => ?_
  obtain ⟨hsz, hrow⟩ := hq
  have hlen : t.data.toList.length = n := by simpa using hsz
  have hnl := hS.len
  refine SemAt.ret r (cv := .string t) ?_ (by simp only [RV])
  rcases hS.addr with ⟨ad, mm, rfl, hc⟩ | ⟨rfl, rfl⟩
  · have hl : (loadCells ad n).run P W = .ok ((t.data.toList.map fun b => (b.toNat : Int)).map (Value.int .u8)).toArray W := by
      have := run_loadCells_list (P := P) W ad ((t.data.toList.map fun b => (b.toNat : Int)).map (Value.int .u8)) (fun j v hj => by
        have hjl : j < n := by have := (List.getElem?_eq_some_iff.1 hj).1; simp at this; omega
        have h6 := hS.rows j hjl
        rw [hrow j hjl] at h6
        simp only [strRow, RVs, RV] at h6
        obtain ⟨u, l, e1, rfl, rfl⟩ := h6
        have h7 : (cellsAt news 1 j)[0]? = some (.int .u8 (byteAt t j)) := by rw [e1]; rfl
        have h8 := cellsAt_get h7
        rw [Nat.mul_one, Nat.add_zero] at h8
        rw [hc j _ h8]
        have hjl2 : j < t.data.toList.length := by omega
        simp only [List.getElem?_map, List.getElem?_eq_getElem hjl2, Option.map_some, Option.some.injEq] at hj
        simp only [byteAt, List.getElem?_eq_getElem hjl2, Option.getD_some, hj])
      simpa [hlen] using this
    rw [run_convert_bytes_string W src dst e _ n mm hs he hd, run_bytesToString W _ n mm _ hl, foldl_push_bytes]
    have e2 : (List.map (fun n : Int => UInt8.ofNat n.toNat) (t.data.toList.map fun b => (b.toNat : Int))) = t.data.toList := by
      rw [List.map_map]
      conv => rhs; rw [← List.map_id t.data.toList]
      congr 1
      funext b
      simp
    rw [e2]
    simp only [ByteArray.empty, ByteArray.emptyWithCapacity]
    rcases t with ⟨⟨l⟩⟩
    simp
    rfl
  · have : t = ByteArray.empty := by
      rcases t with ⟨⟨l⟩⟩
      have : l = [] := List.eq_nil_of_length_eq_zero (by simpa using hlen)
      subst this
      rfl
    rw [this]
    exact run_convert_bytes_nil W src e hs he 0 0 dst hd
def convH (P : Program) (h : Hint) (src dst : TypeId) (x : AV) : Ac AV := match h with
  | .is v => match v with
    | .val (.string t) => bytesStrA P t src dst x
    | _ => convP P h src dst x
  | h => convP P h src dst x
theorem convH_ok (r : RH E s.heap W) (h : Hint) (src dst : TypeId) {x : AV} {c : Value} (hx : RV E x c) : SemAt P E s W (convert src dst c) (convH P h src dst x) := by
  unfold convH
  split
  · split
    · exact bytesStr_ok r _ src dst hx
    · exact convP_ok r _ src dst hx
  · exact convP_ok r h src dst hx
/-! ### A store into a block, the new cells told -/
def storeH (P : Program) (h : Hint) (t : TypeId) (addr v : AV) : Ac AV := match h with
  | .row ys => match addr with
    | .ptr id 0 _ j => match cellsOf v, tySize P t with
      | some [c], some 1 => match one1 c with
        | true => .get id fun o => match o with
          | .blk ty xs => .need (j + 1 ≤ xs.length ∧ putC xs j [c] = ys) (.put id (.blk ty ys) (.ret undefA))
          | _ => .fail
        | false => .fail
      | _, _ => .fail
    | _ => .fail
  | _ => storeA P t addr v
theorem storeH_ok (r : RH E s.heap W) (h : Hint) {t : TypeId} {addr v : AV} {ca cv : Value} (ha : RV E addr ca) (hv : RV E v cv) : SemAt P E s W (do Instr.storeAt t ca cv; pure undef) (storeH P h t addr v) := by
  unfold storeH
  split
  case h_2 => exact store_ok r ha hv
  rename_i ys
  split
  case h_2 => exact SemAt.fail
  rename_i id es j
  simp only [RV] at ha
  obtain ⟨a, k, he, rfl⟩ := ha
  split
  case h_2 => exact SemAt.fail
  rename_i c0 hcs hz
  split
  case h_2 => exact SemAt.fail
  rename_i h1
  have hrc := cellsOf_ok hcs hv
  have hn : cv.cells.toList.length = 1 := by rw [hrc.length]; rfl
  have hone : ∀ u ∈ cv.cells.toList, u.oneCell' = true := fun u hu => by
    obtain ⟨q, hq⟩ := List.getElem?_of_mem hu
    have hq2 : q < [c0].length := by have := (List.getElem?_eq_some_iff.1 hq).1; rw [hrc.length] at this; exact this
    have hq0 : q = 0 := by simpa using hq2
    subst hq0
    obtain ⟨y, hy, hy2⟩ := hrc.get 0 c0 rfl
    rw [hq] at hy
    obtain rfl := Option.some.inj hy
    exact one1_ok h1 hy2
  rw [← hn] at hz
  refine SemAt.get fun o ho => ?_
  have hh := r.holds id o ho
  cases o with
  | obj => exact SemAt.fail
  | box => exact SemAt.fail
  | ro => exact SemAt.fail
  | vec => exact SemAt.fail
  | blk ty xs =>
    dsimp only
    refine SemAt.need fun hq => ?_
    obtain ⟨hfit, rfl⟩ := hq
    obtain ⟨b, k', ys, h2, h3, h4, h5⟩ := hh
    rw [he] at h2
    simp only [Option.some.injEq, Prod.mk.injEq] at h2
    obtain ⟨rfl, rfl⟩ := h2
    have hyl := h4.length
    refine SemAt.put r ho rfl (cv := undef) (b := b) (by simp [blkOf, he]) ?_ (grown_setRow _ _ _) ⟨b, k, (ys.take j ++ cv.cells.toList ++ ys.drop (j + cv.cells.toList.length)), he, setRow_heap W b _ _ ty _ h3, ?_⟩ (by simp only [RV, undefA])
    · have := storeVar_run (P := P) (W := W) (t := t) (o := j) hz h3 (by rw [List.size_toArray]; omega) hone
      simp only [Instr.storeAt, Instr.sureAddr, Sem.run_bind, Sem.run_pure, Result.andThen_ok, Nat.zero_mul, Nat.zero_add, this]
    · refine ⟨by simpa using h4.put hrc j, ?_⟩
      have hn2 : cv.cells.size = 1 := by simpa using hn
      rw [h5]
      simp
      omega
/-! ### Structs that hold structs -/
def eqFields2 (P : Program) (xs ys : List AV) : List Field → Option Bool
  | [] => some true
  | f :: fs => match eqFields2 P xs ys fs with
    | none => none
    | some c => match f.name == "_", tyAgg P f.type with
      | false, some false => match nth xs f.offset, nth ys f.offset with
        | some x, some y => match kindOK P f.type x, eqCell x y with
          | true, some b => some (b && c)
          | _, _ => none
        | _, _ => none
      | false, some true => match P.underlying f.type, tySize P f.type with
        | some (.struct gs), some n => match P.stoodInHeld f.type, eqFields P ((xs.drop f.offset).take n) ((ys.drop f.offset).take n) gs.toList with
          | false, some b => some (b && c)
          | _, _ => none
        | _, _ => none
      | _, _ => none
theorem eqFields2_ok (d : Nat) {xs ys : List AV} {vx vy : List Value} (hx : RVs E xs vx) (hy : RVs E ys vy) (W : World) : ∀ (fs : List Field) (b : Bool), eqFields2 P xs ys fs = some b → (Op.eqFields (d + 2) vx.toArray vy.toArray fs).run P W = .ok b W
  | [], b, h => by
    simp only [eqFields2, Option.some.injEq] at h
    subst h
    simp [Op.eqFields]
  | f :: fs, b, h => by
    unfold eqFields2 at h
    split at h
    · cases h
    rename_i c1 hr
    have ih := eqFields2_ok d hx hy W fs c1 hr
    split at h
    case h_3 => cases h
    · rename_i hn ha
      split at h
      case h_2 => cases h
      rename_i x y hfx hfy
      split at h
      case h_2 => cases h
      rename_i b1 hk he
      simp only [Option.some.injEq] at h
      subst h
      obtain ⟨u, hu, hu2⟩ := hx.get _ _ hfx
      obtain ⟨v, hv, hv2⟩ := hy.get _ _ hfy
      have hne : (f.name ≠ "_") = True := by simpa using hn
      have p1 : (part f.type vx.toArray f.offset).run P W = .ok u W := by
        have : vx.toArray[f.offset]? = some u := by simpa using hu
        simp only [part, Sem.run_bind, run_isAgg ha, Result.andThen_ok, Bool.false_eq_true, if_false, this, Sem.run_pure]
      have p2 : (part f.type vy.toArray f.offset).run P W = .ok v W := by
        have : vy.toArray[f.offset]? = some v := by simpa using hv
        simp only [part, Sem.run_bind, run_isAgg ha, Result.andThen_ok, Bool.false_eq_true, if_false, this, Sem.run_pure]
      have p3 := eqCell_ok (P := P) (d + 1) hk he hu2 hv2 W
      simp only [Op.eqFields, hne, if_true, Sem.run_bind, p1, p2, p3, Result.andThen_ok]
      cases b1
      · simp
      · simpa using ih
    · rename_i hn ha
      split at h
      case h_2 => cases h
      rename_i gs n hu hz
      split at h
      case h_2 => cases h
      rename_i b1 hs he
      simp only [Option.some.injEq] at h
      subst h
      have hne : (f.name ≠ "_") = True := by simpa using hn
      have ag : ∀ (zs : List Value), (part f.type zs.toArray f.offset).run P W = .ok (.agg ((zs.drop f.offset).take n).toArray) W := fun zs => by
        have e : zs.toArray.extract f.offset (f.offset + n) = ((zs.drop f.offset).take n).toArray := by
          apply Array.ext'
          simp [List.take_drop]
        simp only [part, Sem.run_bind, run_isAgg ha, run_size hz, Result.andThen_ok, if_true, Sem.run_pure, e]
      have hf : P.fieldsOf f.type = gs := by simp [Program.fieldsOf, hu]
      have p3 := run_equalIn_struct (P := P) W (d + 1) f.type ((vx.drop f.offset).take n).toArray ((vy.drop f.offset).take n).toArray (by rw [hf]; exact hu) hs
      rw [hf, eqFields_ok d ((hx.drop _).take n) ((hy.drop _).take n) W _ _ he] at p3
      simp only [Op.eqFields, hne, if_true, Sem.run_bind, ag, p3, Result.andThen_ok]
      cases b1
      · simp
      · simpa using ih
def aggEq2 (P : Program) (t : TypeId) (xs ys : List AV) : Option Bool := match P.underlying t with
  | some (.struct fs) => match P.stoodInHeld t, P.eqGuardType P.depth t with
    | false, false => eqFields2 P xs ys fs.toList
    | _, _ => none
  | _ => none
def binQ (P : Program) (h : Hint) (op : BinOp) (t : TypeId) (x y : AV) : Ac AV := match x, y with
  | .agg xs, .agg ys => match aggEq P t xs ys with
    | some _ => binP P h op t x y
    | none => match aggEq2 P t xs ys, op with
      | some b, .eql => cmpA h b
      | some b, .neq => cmpA h (!b)
      | _, _ => .fail
  | x, y => binP P h op t x y
theorem binQ_ok (r : RH E s.heap W) (h : Hint) (op : BinOp) (t : TypeId) (ox oy : Operand) {x y : AV} {cx cy : Value} (hx : RV E x cx) (hy : RV E y cy) : SemAt P E s W (do eqGuard op t ox oy cx cy; binOp op t cx cy) (binQ P h op t x y) := by
  unfold binQ
  split
  case h_2 => exact binP_ok r h op t ox oy hx hy
  rename_i xs ys
  split
  · exact binP_ok r h op t ox oy hx hy
  simp only [RV] at hx hy
  obtain ⟨vx, rfl, hx⟩ := hx
  obtain ⟨vy, rfl, hy⟩ := hy
  cases hb : aggEq2 P t xs ys with
  | none => exact SemAt.fail
  | some b =>
    have hb2 := hb
    unfold aggEq2 at hb2
    split at hb2
    case h_2 => cases hb2
    rename_i fs hu
    split at hb2
    case h_2 => cases hb2
    rename_i hs hg
    have hgd : (eqGuard op t ox oy (.agg vx.toArray) (.agg vy.toArray)).run P W = .ok () W := run_eqGuard_agg W op t ox oy _ _ hg
    have hf : P.fieldsOf t = fs := by simp [Program.fieldsOf, hu]
    have he := run_equalIn_struct (P := P) W 9999 t vx.toArray vy.toArray (by rw [hf]; exact hu) hs
    rw [hf, eqFields2_ok 9997 hx hy W _ _ hb2] at he
    cases op <;> first | exact SemAt.fail | skip
    · exact SemAt.after hgd (cmp_ok r h (by rw [run_eql_struct, he]; rfl))
    · exact SemAt.after hgd (cmp_ok r h (by rw [run_neq_struct, he]; rfl))
/-- one of both operands is a constant -/
def isConst : Operand → Bool
  | .const _ => true
  | _ => false
/-- nil against nil, of an interface -/
def nilIf (P : Program) (t : TypeId) (c : Bool) (x y : AV) (op : BinOp) : Option Bool := match P.underlying t, c, x, y, op with
  | some (.interface _), true, .val .nilIface, .val .nilIface, .eql => some true
  | some (.interface _), true, .val .nilIface, .val .nilIface, .neq => some false
  | _, _, _, _, _ => none
def binR (P : Program) (h : Hint) (op : BinOp) (t : TypeId) (ox oy : Operand) (x y : AV) : Ac AV := match nilIf P t (isConst ox || isConst oy) x y op with
  | some b => .ret (.val (.bool b))
  | none => binQ P h op t x y
theorem binR_ok (r : RH E s.heap W) (h : Hint) (op : BinOp) (t : TypeId) (ox oy : Operand) {x y : AV} {cx cy : Value} (hx : RV E x cx) (hy : RV E y cy) : SemAt P E s W (do eqGuard op t ox oy cx cy; binOp op t cx cy) (binR P h op t ox oy x y) := by
  unfold binR
  cases hn : nilIf P t (isConst ox || isConst oy) x y op with
  | none => exact binQ_ok r h op t ox oy hx hy
  | some b =>
    unfold nilIf at hn
    split at hn
    case h_3 => cases hn
    all_goals
      rename_i hu hc
      simp only [Option.some.injEq] at hn
      subst hn
      simp only [RV] at hx hy
      subst hx hy
      have hg : (∃ v, ox = .const v) ∨ (∃ v, oy = .const v) := by
        cases ox <;> cases oy <;> simp [isConst] at hc ⊢
      have he : (Op.equal t .nilIface .nilIface).run P W = .ok true W := by
        unfold Op.equal Op.maxDepth Op.equalIn
        rw [Sem.run_bind, run_underlying hu]
        rfl
    · refine SemAt.after (s := s) (pre := eqGuard .eql t ox oy .nilIface .nilIface) ?_ (SemAt.ret r (cv := .bool true) ?_ (by simp [RV]))
      · unfold eqGuard
        rcases hg with ⟨v, rfl⟩ | ⟨v, rfl⟩ <;> simp
      · show (do pure (.bool (← Op.equal t .nilIface .nilIface)) : Sem Value).run P W = _
        rw [Sem.run_bind, he]; rfl
    · refine SemAt.after (s := s) (pre := eqGuard .neq t ox oy .nilIface .nilIface) ?_ (SemAt.ret r (cv := .bool false) ?_ (by simp [RV]))
      · unfold eqGuard
        rcases hg with ⟨v, rfl⟩ | ⟨v, rfl⟩ <;> simp
      · show (do pure (.bool (!(← Op.equal t .nilIface .nilIface))) : Sem Value).run P W = _
        rw [Sem.run_bind, he]; rfl
end

/-! ### A variable that is an array, told as a slice that is only read -/
section
variable {P : Program} {E : Env} {s : St} {W : World} {sem : Sem Value}
theorem SemAt.alias (r : RH E s.heap W) {id nm b k k0 : Nat} {o0 o : Ob} {v : AV} {cv : Value} (hf : find s.heap id = some o0) (ho : o0.owned = true) (hE : E id = some (some ⟨b, 0, none⟩, k0)) (h : sem.run P W = .ok cv W)
    (hh : ∀ E', (∀ i x, E i = some x → E' i = some x) → E' nm = some (some ⟨b, 0, none⟩, k) → Holds E' W nm o ∧ RV E' v cv) (hbx : o.bx = none := by rfl) (hbx0 : o0.bx = none := by rfl) : SemAt P E s W sem (.del id (.new nm o (.ret v))) := fun out hout _ hn => by
  simp only [Ac.run] at hout
  split at hout
  · cases hout
  · rename_i hq
    split at hq
    · cases hq
    · simp only [Option.some.injEq] at hq
      subst hq
      simp only [Option.some.injEq] at hout
      subst hout
      have hne := hn nm (by simp)
      have hidn : id ≠ nm := fun e => by rw [e, hne] at hE; cases hE
      have hx := nw_set E nm (some ⟨b, 0, none⟩, k) hne
      obtain ⟨h1, h2⟩ := hh _ hx.1 (by simp)
      have hfd : ∀ x, find (upd (del s.heap id) nm o) x = if nm = x then some o else if id = x then none else find s.heap x := fun x => by rw [find_upd, find_del]
      obtain ⟨q1, q2⟩ := RH.change (h' := upd (del s.heap id) nm o) (row := some b) r hx ⟨rfl, rfl, rfl, Nat.le_refl _, fun _ _ _ => rfl⟩
        (fun b' hb' => by cases hb'; exact ⟨id, o0, hf, ho, by simp [Foot, hbx0, FootB, blkOf, hE], .inr (by rw [hfd, if_neg (fun e => hidn e.symm), if_pos rfl])⟩)
        (by rw [hfd, if_pos rfl])
        (fun x hx' y hy => by
          rw [hfd, if_neg (fun e => hx' e.symm)] at hy
          split at hy
          · cases hy
          · exact hy) h1 (fun b' hb' => .inl (by simp [Foot, hbx, FootB, blkOf] at hb'; rw [hb']))
      exact ⟨rfl, cv, W, _, h, hx, h2, q1, q2⟩
def plainV : AV → Bool
  | .val (.int _ _) => true
  | .val (.bool _) => true
  | .val (.string _) => true
  | _ => false
theorem plain_one : ∀ (cs : List AV) (xs : List Value), (∀ x ∈ cs, plainV x = true) → RVs E cs xs → ∀ u ∈ xs, u.oneCell' = true
  | [], xs, _, h => by
    simp only [RVs] at h
    subst h
    intro u hu
    cases hu
  | c :: cs, xs, hc, h => by
    simp only [RVs] at h
    obtain ⟨y, l, rfl, h1, h2⟩ := h
    intro u hu
    rcases List.mem_cons.1 hu with rfl | hu
    · have := hc c List.mem_cons_self
      unfold plainV at this
      split at this
      · simp only [RV] at h1; rw [h1]; rfl
      · simp only [RV] at h1; rw [h1]; rfl
      · simp only [RV] at h1; rw [h1]; rfl
      · cases this
    · exact plain_one cs l (fun x hx => hc x (List.mem_cons_of_mem _ hx)) h2 u hu
def sliceArrA (P : Program) (nm : Nat) (t : TypeId) (id : Nat) : Ac AV := match P.underlying t with
  | some (.array n e) => match tySize P e with
    | some q => .get id fun o => match o with
      | .blk ty cs => match Nat.beq cs.length (n * q), allB plainV cs with
        | true, true => .del id (.new nm (.ro q n (rowsOf cs q)) (.ret (.sl nm 0 q n none)))
        | _, _ => .fail
      | _ => .fail
    | none => .fail
  | _ => .fail
theorem sliceArr_ok (r : RH E s.heap W) (nm : Nat) (t : TypeId) (id : Nat) {c : Value} (hx : RV E (.ptr id 0 0 0) c) : SemAt P E s W (Instr.sliceAt t c none none none) (sliceArrA P nm t id) := by
  unfold sliceArrA
  split
  case h_2 => exact SemAt.fail
  rename_i n e hu
  split
  case h_2 => exact SemAt.fail
  rename_i q hq
  refine SemAt.get fun o ho => ?_
  split
  case h_2 => exact SemAt.fail
  rename_i ty cs
  split
  case h_2 => exact SemAt.fail
  rename_i hl hp
  have hl : cs.length = n * q := Nat.eq_of_beq_eq_true hl
  obtain ⟨b, k, xs, h1, h2, h3, _⟩ := r.holds id _ ho
  simp only [RV] at hx
  obtain ⟨a, k', h4, rfl⟩ := hx
  rw [h1] at h4
  simp only [Option.some.injEq, Prod.mk.injEq] at h4
  obtain ⟨rfl, rfl⟩ := h4
  have hxl : xs.length = n * q := by rw [h3.length, hl]
  have hrun : (Instr.sliceAt t (.pointer (some ⟨b, 0, none⟩)) none none none).run P W = .ok (.slice (some ⟨b, 0, none⟩) n n) W := by
    have hb := bounds_ok (P := P) (E := E) (n := n) (cap := n) (lo := none) (hi := none) (cl := none) (ch := none) (l := none) (h := none) (.none) (.none) false (Nat.le_refl _) trivial trivial W
    have e1 : loN none = 0 := rfl
    have e2 : hiN n none = n := rfl
    rw [e1, e2] at hb
    simp only [Instr.sliceAt, run_underlying hu, Sem.run_bind, Result.andThen_ok, Instr.sureAddr, Sem.run_pure, hb, run_size hq]
    by_cases h0 : n = 0
    · simp [h0]
    · simp [h0, Addr.add]
  refine SemAt.alias r (k := n) ho rfl h1 (by simpa using hrun) fun E' he hn => ⟨⟨_, _, xs, hn, hxl, .inr ⟨_, rfl, (Array.getElem?_eq_some_iff.1 h2).1, Nat.le_refl _, fun j u hu => ?_⟩, plain_one cs xs (allB_ok hp) h3, fun p hp' => (((RVs.mono he _ _ h3).drop _).take _)⟩, ?_⟩
  · have := cell_of_row W b (0 + j) xs.toArray ty (0, 0) h2
    rw [this]
    simpa using hu
  · simp only [RV]
    exact ⟨_, _, hn, 0, n, rfl, Nat.le_refl _, by omega, fun _ => by simp, by simp⟩
/-- a part of an array that a pointer leads to, told as a slice of the block -/
def sliceArrB (P : Program) (t : TypeId) (id : Nat) (lo hi : Option AV) : Ac AV := match obOf lo, obOf hi with
  | some l, some h => match P.underlying t with
    | some (.array n e) => match tySize P e with
      | some q => .get id fun o => match o with
        | .blk _ cs => match Nat.beq cs.length n, Nat.beq q 1 with
          | true, true => needHi h n (needLo l h n (.ret (.sl id (loN l) 1 (subN (hiN n h) l) none)))
          | _, _ => .fail
        | _ => .fail
      | none => .fail
    | _ => .fail
  | _, _ => .fail
theorem sliceArrB_ok (r : RH E s.heap W) (t : TypeId) (id : Nat) {c : Value} (hx : RV E (.ptr id 0 0 0) c) {lo hi : Option AV} {cl ch : Option Value} (hl : (lo = none ∧ cl = none) ∨ ∃ v w, lo = some v ∧ cl = some w ∧ RV E v w) (hh : (hi = none ∧ ch = none) ∨ ∃ v w, hi = some v ∧ ch = some w ∧ RV E v w) : SemAt P E s W (Instr.sliceAt t c cl ch none) (sliceArrB P t id lo hi) := by
  unfold sliceArrB
  split
  case h_2 => exact SemAt.fail
  rename_i l h e1 e2
  have hl := obOf_ok e1 hl
  have hh := obOf_ok e2 hh
  split
  case h_2 => exact SemAt.fail
  rename_i n e hu
  split
  case h_2 => exact SemAt.fail
  rename_i q hq
  refine SemAt.get fun o ho => ?_
  split
  case h_2 => exact SemAt.fail
  rename_i ty cs
  split
  case h_2 => exact SemAt.fail
  rename_i hcl hq1
  have hcl : cs.length = n := Nat.eq_of_beq_eq_true hcl
  have hq1 : q = 1 := Nat.eq_of_beq_eq_true hq1
  subst hq1
  obtain ⟨b, k, xs, h1, h2, h3, h4⟩ := r.holds id _ ho
  simp only [RV] at hx
  obtain ⟨a, k', h5, rfl⟩ := hx
  rw [h1] at h5
  simp only [Option.some.injEq, Prod.mk.injEq] at h5
  obtain ⟨rfl, rfl⟩ := h5
  have hk : k = n := by rw [h4, h3.length, hcl]
  refine needs_ok fun g1 g2 g3 g4 => ?_
  have hb := bounds_ok (P := P) hl hh false (Nat.le_refl n) g1 g2 W
  refine SemAt.ret r (cv := .slice (some ⟨b, if n = loN l then 0 else 0 + loN l * 1, none⟩) (hiN n h - loN l) (n - loN l)) ?_ ?_
  · simp only [Instr.sliceAt, run_underlying hu, Sem.run_bind, Result.andThen_ok, Instr.sureAddr, Sem.run_pure, hb, run_size hq, Nat.zero_mul, Nat.zero_add]
    by_cases e0 : n = loN l
    · rw [if_pos e0, if_pos e0]
    · rw [if_neg e0, if_neg e0]; simp [Addr.add]
      exact fun e => e.symm
  · simp only [RV]
    refine ⟨some ⟨b, 0, none⟩, k, h1, if n = loN l then 0 else 0 + loN l * 1, n - loN l, by rw [subN_eq], ?_, ?_, fun hne => ?_, ?_⟩
    · rw [subN_eq]; omega
    · omega
    · rw [if_neg (by omega)]
    · dsimp only; omega
/-- an array that a slice's elements are read as -/
def arrPtrA (P : Program) (t : TypeId) (x : AV) : Ac AV := match P.underlying t with
  | some (.array n _) => match x with
    | .sl id i es m _ => match Nat.ble 1 n with
      | true => .need (n ≤ m) (.ret (.ptr id i es 0))
      | false => .fail
    | _ => .fail
  | _ => .fail
theorem arrPtr_ok (r : RH E s.heap W) (t : TypeId) {x : AV} {c : Value} (hx : RV E x c) : SemAt P E s W (Instr.arrayAt t c) (arrPtrA P t x) := by
  unfold arrPtrA
  split
  case h_2 => exact SemAt.fail
  rename_i n e hu
  split
  case h_2 => exact SemAt.fail
  rename_i id i es m cc
  split
  case h_2 => exact SemAt.fail
  rename_i hn
  have hn : 1 ≤ n := Nat.le_of_ble_eq_true hn
  refine SemAt.need fun hm => ?_
  simp only [RV] at hx
  obtain ⟨b, k, he, h5⟩ := hx
  cases b with
  | none => obtain ⟨b', rfl, h0, _⟩ := h5; omega
  | some a =>
    obtain ⟨o, m', rfl, h6, h7, h8, h9⟩ := h5
    have ho := h8 (by omega)
    refine SemAt.ret r (cv := .pointer (some ⟨a.block, o, none⟩)) ?_ ?_
    · simp only [Instr.arrayAt, Sem.run_bind, run_underlying hu, Result.andThen_ok]
      rw [if_neg (by omega)]; rfl
    · simp only [RV]
      exact ⟨a, k, he, by rw [ho, Nat.add_zero]⟩
/-- elements of one cell, one behind the other -/
def rowsUp (row : Nat → List AV) (i : Nat) : Nat → List AV
  | 0 => []
  | k + 1 => rowsUp row i k ++ row (addN i k)
theorem rowsUp_rvs {row : Nat → List AV} {xs : List Value} {N : Nat} (h : RowsOK E 1 N row xs) (i : Nat) : ∀ k, i + k ≤ N → RVs E (rowsUp row i k) ((xs.drop i).take k) := by
  intro k
  induction k with
  | zero => intro _; simp [rowsUp, RVs]
  | succ k ih =>
    intro hk
    have h1 := ih (by omega)
    have h3 := h (i + k) (by omega)
    simp only [cellsAt, Nat.mul_one] at h3
    rw [List.take_add, List.drop_drop]
    unfold rowsUp
    rw [addN_eq]
    exact h1.append h3
/-- a variable is read; an array that is a slice's elements -/
def loadR (P : Program) (h : Hint) (t : TypeId) (v : AV) : Ac AV := match P.underlying t with
  | some (.array n _) => match v with
    | .ptr id i 1 0 => .get id fun o => match o with
      | .vec _ 1 N row => .need (i + n ≤ N) (partA P t (rowsUp row i n))
      | .ro 1 N row => .need (i + n ≤ N) (partA P t (rowsUp row i n))
      | _ => loadH P h t v
    | _ => loadH P h t v
  | _ => loadH P h t v
theorem loadR_ok (r : RH E s.heap W) (h : Hint) {t : TypeId} {v : AV} {c : Value} (hv : RV E v c) : SemAt P E s W (Instr.loadAt t c) (loadR P h t v) := by
  unfold loadR
  split
  case h_2 => exact loadH_ok r h hv
  rename_i n e hu
  split
  case h_2 => exact loadH_ok r h hv
  rename_i id i
  refine SemAt.get fun o ho => ?_
  have hv0 := hv
  simp only [RV] at hv
  obtain ⟨a, k, he, rfl⟩ := hv
  split
  case h_3 => exact loadH_ok r h hv0
  · rename_i ty N row
    obtain ⟨b, kk, xs, h1, h2, h3, h4⟩ := r.holds id _ ho
    rw [he] at h1
    simp only [Option.some.injEq, Prod.mk.injEq] at h1
    obtain ⟨rfl, rfl⟩ := h1
    refine SemAt.need fun hi => ?_
    have h5 := h2.cells (g := a.block) rfl
    have hoff : a.off = 0 := by
      rcases h2.2 with ⟨hv, _⟩ | ⟨g, cap, cur, hv, _⟩
      · simp at hv
      · simp only [Value.slice.injEq, Option.some.injEq] at hv; rw [hv.1]
    refine (loadVar_ok (a := a) (n := a.off + (i * 1 + 0)) (xs := (xs.drop i).take n) (rowsUp_rvs h4 i n hi) (fun d u hu => ?_) (by simp only [Instr.loadAt, Instr.sureAddr, Sem.run_bind, Sem.run_pure, Result.andThen_ok])).at r
    rw [List.getElem?_take] at hu
    split at hu
    case isFalse => cases hu
    rw [List.getElem?_drop] at hu
    have := h5 _ u hu
    rw [add_at (⟨a.block, 0, none⟩ : Addr)] at this
    rw [hoff]
    simpa [Nat.add_assoc] using this
  · rename_i N row
    obtain ⟨b, kk, xs, h1, h2, h3, h4, h5⟩ := r.holds id _ ho
    rw [he] at h1
    simp only [Option.some.injEq, Prod.mk.injEq] at h1
    obtain ⟨rfl, rfl⟩ := h1
    refine SemAt.need fun hi => ?_
    rcases h3 with ⟨h0, _⟩ | ⟨a', ha, h6, h7, h8⟩
    · cases h0
    · simp only [Option.some.injEq] at ha
      subst ha
      refine (loadVar_ok (a := a) (n := a.off + (i * 1 + 0)) (xs := (xs.drop i).take n) (rowsUp_rvs h5 i n hi) (fun d u hu => ?_) (by simp only [Instr.loadAt, Instr.sureAddr, Sem.run_bind, Sem.run_pure, Result.andThen_ok])).at r
      rw [List.getElem?_take] at hu
      split at hu
      case isFalse => cases hu
      rw [List.getElem?_drop] at hu
      have := h8 _ u hu
      simpa [Nat.add_assoc] using this
/-- arrays of plain elements held against each other -/
def eqItemsF (P : Program) (e : TypeId) (xs ys : List AV) : List Nat → Option Bool
  | [] => some true
  | i :: is => match eqItemsF P e xs ys is, nth xs i, nth ys i with
    | some c, some x, some y => match kindOK P e x, eqCell x y with
      | true, some b => some (b && c)
      | _, _ => none
    | _, _, _ => none
theorem eqItemsF_ok (d : Nat) {e : TypeId} (he : tyAgg P e = some false) {xs ys : List AV} {vx vy : List Value} (hx : RVs E xs vx) (hy : RVs E ys vy) (W : World) : ∀ (is : List Nat) (b : Bool), eqItemsF P e xs ys is = some b → (Op.eqItems (d + 1) e 1 vx.toArray vy.toArray is).run P W = .ok b W
  | [], b, h => by
    simp only [eqItemsF, Option.some.injEq] at h
    subst h
    simp [Op.eqItems]
  | i :: is, b, h => by
    unfold eqItemsF at h
    split at h
    case h_2 => cases h
    rename_i c x y hr hfx hfy
    have ih := eqItemsF_ok d he hx hy W is c hr
    split at h
    case h_2 => cases h
    rename_i b1 hk hc
    simp only [Option.some.injEq] at h
    subst h
    obtain ⟨u, hu, hu2⟩ := hx.get _ _ hfx
    obtain ⟨v, hv, hv2⟩ := hy.get _ _ hfy
    have p1 : (part e vx.toArray (i * 1)).run P W = .ok u W := by
      have : vx.toArray[i * 1]? = some u := by simpa using hu
      simp only [part, Sem.run_bind, run_isAgg he, Result.andThen_ok, Bool.false_eq_true, if_false, this, Sem.run_pure]
    have p2 : (part e vy.toArray (i * 1)).run P W = .ok v W := by
      have : vy.toArray[i * 1]? = some v := by simpa using hv
      simp only [part, Sem.run_bind, run_isAgg he, Result.andThen_ok, Bool.false_eq_true, if_false, this, Sem.run_pure]
    have p3 := eqCell_ok (P := P) d hk hc hu2 hv2 W
    simp only [Op.eqItems, Sem.run_bind, p1, p2, p3, Result.andThen_ok]
    cases b1
    · simp
    · simpa using ih
def upL : Nat → List Nat → List Nat
  | 0, l => l
  | k + 1, l => upL k (k :: l)
theorem upL_eq : ∀ (k : Nat) (l : List Nat), upL k l = List.range k ++ l
  | 0, l => by simp [upL]
  | k + 1, l => by rw [upL, upL_eq k, List.range_succ]; simp
def arrEq (P : Program) (t : TypeId) (xs ys : List AV) : Option Bool := match P.underlying t with
  | some (.array n e) => match P.info? e, Nat.beq (P.cellsOf e) 1, tyAgg P e, P.eqGuardType P.depth t with
    | some _, true, some false, false => eqItemsF P e xs ys (upL n [])
    | _, _, _, _ => none
  | _ => none
def binS (P : Program) (h : Hint) (op : BinOp) (t : TypeId) (ox oy : Operand) (x y : AV) : Ac AV := match x, y with
  | .agg xs, .agg ys => match arrEq P t xs ys, op with
    | some b, .eql => .ret (.val (.bool b))
    | some b, .neq => .ret (.val (.bool (!b)))
    | _, _ => binR P h op t ox oy x y
  | x, y => binR P h op t ox oy x y
theorem binS_ok (r : RH E s.heap W) (h : Hint) (op : BinOp) (t : TypeId) (ox oy : Operand) {x y : AV} {cx cy : Value} (hx : RV E x cx) (hy : RV E y cy) : SemAt P E s W (do eqGuard op t ox oy cx cy; binOp op t cx cy) (binS P h op t ox oy x y) := by
  unfold binS
  split
  case h_2 => exact binR_ok r h op t ox oy hx hy
  rename_i xs ys
  have key : ∀ b, arrEq P t xs ys = some b → ∃ vx vy : List Value, cx = .agg vx.toArray ∧ cy = .agg vy.toArray ∧ (∀ op, (eqGuard op t ox oy (.agg vx.toArray) (.agg vy.toArray)).run P W = .ok () W) ∧ (Op.equalIn 10000 t (.agg vx.toArray) (.agg vy.toArray)).run P W = .ok b W := fun b hb => by
    simp only [RV] at hx hy
    obtain ⟨vx, rfl, hx⟩ := hx
    obtain ⟨vy, rfl, hy⟩ := hy
    unfold arrEq at hb
    split at hb
    case h_2 => cases hb
    rename_i n e hu
    split at hb
    case h_2 => cases hb
    rename_i i hi hc ha hg
    have hc : P.cellsOf e = 1 := Nat.eq_of_beq_eq_true hc
    refine ⟨vx, vy, rfl, rfl, fun op => run_eqGuard_agg W op t ox oy _ _ hg, ?_⟩
    have h1 := run_equalIn_array (P := P) W 9999 vx.toArray vy.toArray hu hi
    rw [hc] at h1
    rw [h1]
    have h2 := eqItemsF_ok 9998 ha hx hy W _ _ hb
    rwa [upL_eq, List.append_nil] at h2
  split
  · rename_i b hb
    obtain ⟨vx, vy, rfl, rfl, hg, he⟩ := key b hb
    exact SemAt.after (hg _) (SemAt.ret r (by rw [run_eql_struct, he]; rfl) (by simp only [RV]))
  · rename_i b hb
    obtain ⟨vx, vy, rfl, rfl, hg, he⟩ := key b hb
    exact SemAt.after (hg _) (SemAt.ret r (by rw [run_neq_struct, he]; rfl) (by simp only [RV]))
  · exact binR_ok r h _ t ox oy hx hy
end
end Go.Proofs.Ytbgbjgedjmhcaaa
