/- What the law needs, one text behind the other. No conditions but those of each theorem. -/
import Derived.Lib.Builder
import Derived.Lib.UnsafeStr
import Derived.Lib.AppendStr
import Derived.Laws.Externs
import Derived.Laws.BytesArg
import Derived.ChangeKeysEq
import Derived.Maps.AppendAt
import Derived.Lib.AppendZeros
import Derived.OwnWalkIn
import Derived.Scope
import Derived.Test.YtbgbjgedjmhcaaaKDa
set_option linter.unnecessarySimpa false
set_option linter.unusedSimpArgs false
set_option linter.unusedVariables false
set_option maxHeartbeats 16000000
set_option maxRecDepth 10000
namespace Go.Proofs.Ytbgbjgedjmhcaaa
open Go.RowKit
section
variable {P : Program} {E : Env} {s : St} {W : World} {sem : Sem Value}
def ptrSame (P : Program) (t : TypeId) (x y : AV) (op : BinOp) : Option Bool := match x, y with
  | .ptr i a e j, .ptr i' a' e' j' => match P.underlying t with
    | some (.pointer te) => match P.info? te with
      | some _ => match i == i', a == a', e == e', j == j', op with
        | true, true, true, true, .eql => some true
        | true, true, true, true, .neq => some false
        | _, _, _, _, _ => none
      | none => none
    | _ => none
  | _, _ => none
theorem run_eql_ptr (W : World) {tp te : TypeId} {j : TypeInfo} (a : Addr) (hp : P.underlying tp = some (.pointer te)) (hte : P.info? te = some j) : (Op.equal tp (.pointer (some a)) (.pointer (some a))).run P W = .ok true W := by
  have h : ∀ d : Nat, (Op.equalIn (d + 1) tp (.pointer (some a)) (.pointer (some a))).run P W = .ok true W := fun d => by
    simp [Op.equalIn, run_underlying hp, sizeOf, typeInfo, hte, run_sameAddr_same]
  simp [Op.equal, Op.maxDepth, h 9999]
def binP (P : Program) (h : Hint) (op : BinOp) (t : TypeId) (x y : AV) : Ac AV := match ptrSame P t x y op with
  | some b => .ret (.val (.bool b))
  | none => binA P h op t x y
theorem binP_ok (r : RH E s.heap W) (h : Hint) (op : BinOp) (t : TypeId) (ox oy : Operand) {x y : AV} {cx cy : Value} (hx : RV E x cx) (hy : RV E y cy) : SemAt P E s W (do eqGuard op t ox oy cx cy; binOp op t cx cy) (binP P h op t x y) := by
  unfold binP
  split
  case h_2 => exact bin_ok r h op t ox oy hx hy
  rename_i b hb
  unfold ptrSame at hb
  split at hb
  case h_2 => cases hb
  rename_i i a e j i' a' e' j'
  split at hb
  case h_2 => cases hb
  rename_i te hu
  split at hb
  case h_2 => cases hb
  rename_i inf hi
  have same : i = i' → a = a' → e = e' → j = j' → ∃ ad, cx = .pointer (some ad) ∧ cy = .pointer (some ad) := by
    rintro rfl rfl rfl rfl
    simp only [RV] at hx hy
    obtain ⟨a1, k1, h1, rfl⟩ := hx
    obtain ⟨a2, k2, h2, rfl⟩ := hy
    rw [h1] at h2
    simp only [Option.some.injEq, Prod.mk.injEq] at h2
    obtain ⟨rfl, rfl⟩ := h2
    exact ⟨_, rfl, rfl⟩
  split at hb
  case h_3 => cases hb
  · rename_i g1 g2 g3 g4
    simp only [Option.some.injEq] at hb
    subst hb
    obtain ⟨ad, rfl, rfl⟩ := same (by simpa using g1) (by simpa using g2) (by simpa using g3) (by simpa using g4)
    refine SemAt.after (guard_no _ _ _ _ _ _ _ (by intros; simp) (by simp)) (SemAt.ret r (cv := .bool true) ?_ (by simp only [RV]))
    have := run_eql_ptr (P := P) W ad hu hi
    show (do pure (.bool (← Op.equal t _ _)) : Sem Value).run P W = _
    rw [Sem.run_bind, this]; rfl
  · rename_i g1 g2 g3 g4
    simp only [Option.some.injEq] at hb
    subst hb
    obtain ⟨ad, rfl, rfl⟩ := same (by simpa using g1) (by simpa using g2) (by simpa using g3) (by simpa using g4)
    refine SemAt.after (guard_no _ _ _ _ _ _ _ (by intros; simp) (by simp)) (SemAt.ret r (cv := .bool false) ?_ (by simp only [RV]))
    exact Lib.run_neq_ptr_same W ad hu hi
def strRow (t : ByteArray) : Nat → List AV := fun q => [.val (.int .u8 (byteAt t q))]
def RowStr (t : ByteArray) (n : Nat) (row : Nat → List AV) : Prop := t.size = n ∧ ∀ q, q < n → row q = strRow t q
def convP (P : Program) (h : Hint) (src dst : TypeId) (x : AV) : Ac AV := match x with
  | .ptr id 0 0 0 => match P.underlying src, P.underlying dst with
    | some (.pointer t), some .unsafePointer => match tySize P t with
      | some (_ + 1) => .get id fun o => match o with
        | .blk _ (_ :: _) => .ret (.ptr id 0 0 0)
        | _ => .fail
      | _ => .fail
    | some .unsafePointer, some (.pointer u) => match P.info? u with
      | some _ => .get id fun o => match o with
        | .blk ty cs => match liesAt P P.depth ty (cs.length / P.cellsOf ty) 0 u 1 with
          | true => .ret (.ptr id 0 0 0)
          | false => .fail
        | _ => .fail
      | none => .fail
    | _, _ => .fail
  | x => convA P h src dst x
theorem blk_shape {id ty : Nat} {cs : List AV} (hh : Holds E W id (.blk ty cs)) : ∃ b k, E id = some (some ⟨b, 0, none⟩, k) ∧ W.shape? b = some (ty, cs.length) := by
  obtain ⟨b, k, xs, h1, h2, h3, _⟩ := hh
  exact ⟨b, k, h1, by simp [World.shape?, h2, h3.length]⟩
theorem convP_ok (r : RH E s.heap W) (h : Hint) (src dst : TypeId) {x : AV} {c : Value} (hx : RV E x c) : SemAt P E s W (convert src dst c) (convP P h src dst x) := by
  unfold convP
  split
  case h_2 => exact conv_ok r h src dst hx
  rename_i id
  have hx0 := hx
  simp only [RV] at hx
  obtain ⟨a, k, he, rfl⟩ := hx
  split
  · rename_i t hs hd
    split
    case h_2 => exact SemAt.fail
    rename_i n hz
    refine SemAt.get fun o ho => ?_
    split
    case h_2 => exact SemAt.fail
    rename_i ty v cs
    obtain ⟨b, k', h1, h2⟩ := blk_shape (r.holds id _ ho)
    rw [he] at h1
    simp only [Option.some.injEq, Prod.mk.injEq] at h1
    obtain ⟨rfl, rfl⟩ := h1
    unfold tySize at hz
    cases hi : P.info? t with
    | none => rw [hi] at hz; cases hz
    | some i =>
      rw [hi] at hz
      simp only [Option.some.injEq] at hz
      exact SemAt.ret r (Lib.run_to_unsafe W _ hs hd hi (by rw [hz]; exact Nat.succ_ne_zero _) h2 (by simp)) hx0
  · rename_i u hs hd
    split
    case h_2 => exact SemAt.fail
    rename_i i hi
    refine SemAt.get fun o ho => ?_
    split
    case h_2 => exact SemAt.fail
    rename_i ty cs
    split
    case h_2 => exact SemAt.fail
    rename_i hl
    obtain ⟨b, k', h1, h2⟩ := blk_shape (r.holds id _ ho)
    rw [he] at h1
    simp only [Option.some.injEq, Prod.mk.injEq] at h1
    obtain ⟨rfl, rfl⟩ := h1
    exact SemAt.ret r (Lib.run_from_unsafe W _ hs hd hi h2 (by simpa using hl)) hx0
  · exact SemAt.fail
theorem SemAt.away (r : RH E s.heap W) {id b : Nat} {o0 : Ob} {v : AV} {cv : Value} {W' : World} (hf : find s.heap id = some o0) (ho : o0.owned = true) (hb : blkOf E id = some b) (h : sem.run P W = .ok cv W') (g : W.grownBy W' (some b)) (hv : RV E v cv) (hbx : o0.bx = none := by rfl) : SemAt P E s W sem (.del id (.ret v)) := fun out hout _ hn => by
  simp only [Ac.run, Option.some.injEq] at hout
  subst hout
  have hd : ∀ x y, find (del s.heap id) x = some y → x ≠ id ∧ find s.heap x = some y := fun x y hxy => by
    rw [find_del] at hxy
    split at hxy
    · cases hxy
    · rename_i hne; exact ⟨fun e => hne e.symm, hxy⟩
  have hfo : Foot E W id o0 b := by simp only [Foot, hbx, FootB]; exact hb
  have hk : ∀ x y, find (del s.heap id) x = some y → ∀ b', Foot E W x y b' → W'.heap[b']? = W.heap[b']? := fun x y hxy b' hb' => by
    obtain ⟨h1, h2⟩ := hd x y hxy
    refine g.block b' (Holds.blk_lt hb' (r.holds x y h2)) fun e => ?_
    simp only [Option.some.injEq] at e
    subst e
    exact r.apart id x o0 y hf h2 (fun e => h1 e.symm) ho _ hfo hb'
  have hft : ∀ x y, find (del s.heap id) x = some y → ∀ b', Foot E W' x y b' → Foot E W x y b' := fun x y hxy b' hb' => Foot.kept g.size (hk x y hxy) (r.holds x y (hd x y hxy).2) b' hb'
  refine ⟨rfl, cv, W', E, h, Ext.refl E, hv, ⟨fun x y hxy => ?_, fun x y p q h1 h2 hne hw b' hb1 hb2 => r.apart x y p q (hd x p h1).2 (hd y q h2).2 hne hw b' (hft x p h1 b' hb1) (hft y q h2 b' hb2)⟩, ⟨g.os, g.tape, g.output, g.size, fun b' hlt hno => ?_, fun x y b' h1 h3 => ?_⟩⟩
  · exact (r.holds x y (hd x y hxy).2).kept g.size (hk x y hxy)
  · refine g.block b' hlt fun e => ?_
    simp only [Option.some.injEq] at e
    subst e
    exact hno id o0 hf ho hfo
  · exact .inl ⟨x, y, (hd x y h1).2, fun h => h, hft x y h1 b' h3⟩
theorem grownBy_freeze (W : World) (g n : Nat) : W.grownBy (W.freeze ⟨g, 0, none⟩ n) (some g) := by
  unfold World.freeze
  split
  · exact ⟨rfl, rfl, rfl, Nat.le_refl _, fun _ _ _ => rfl⟩
  · refine ⟨rfl, rfl, rfl, by simp, fun k hk hne => ?_⟩
    have : g ≠ k := fun e => hne (by rw [e])
    simp only [Array.getElem?_modify]
    rw [if_neg this]
def uSlDataA (x : AV) : Ac AV := match x with
  | .val (.slice none 0 0) => .ret (.val (.pointer none))
  | .sl id i es n _ => .need (1 ≤ n) (.ret (.ptr id i es 0))
  | _ => .fail
theorem uSlData_ok (r : RH E s.heap W) (ts : Array TypeId) (ty : TypeId) {x : AV} {c : Value} (hx : RV E x c) : SemAt P E s W (Builtin.unsafeSliceData_ ts ty #[c]) (uSlDataA x) := by
  unfold uSlDataA
  split
  · simp only [RV] at hx
    subst hx
    exact SemAt.ret r (Lib.run_unsafeSliceData_nil W ts ty 0 0) (by simp only [RV])
  · rename_i id i es n cc
    refine SemAt.need fun hn => ?_
    simp only [RV] at hx
    obtain ⟨b, k, he, h2⟩ := hx
    cases b with
    | none => obtain ⟨_, _, h0, _⟩ := h2; omega
    | some a =>
      obtain ⟨o, m, rfl, h3, h4, h5, _⟩ := h2
      refine SemAt.ret r (Lib.run_unsafeSliceData_row W ts ty _ n m (by omega)) ?_
      simp only [RV]
      exact ⟨a, k, he, by rw [h5 (by omega), Nat.add_zero]⟩
  · exact SemAt.fail
def uStringA (P : Program) (h : Hint) (ts : List TypeId) (x n : AV) : Ac AV := match x, n with
  | .val (.pointer none), .val (.int .i64 z) => .need (z = 0) (.ret (.val (.string ByteArray.empty)))
  | .ptr id 0 1 0, .val (.int .i64 z) => match h, ts with
    | .is (.val (.string t)), [pt, _] => match P.underlying pt with
      | some (.pointer e) => .get id fun o => match o with
        | .vec ty 1 m row => match ty == e, P.cellsOf e == 1 with
          | true, true => .need (z = (m : Int) ∧ 1 ≤ m ∧ m ≤ 9223372036854775807 ∧ RowStr t m row) (.del id (.ret (.val (.string t))))
          | _, _ => .fail
        | _ => .fail
      | _ => .fail
    | _, _ => .fail
  | _, _ => .fail
theorem uString_ok (r : RH E s.heap W) (h : Hint) (ts : Array TypeId) (ty : TypeId) {x n : AV} {cx cn : Value} (hx : RV E x cx) (hn : RV E n cn) (hts : ∃ pt it, ts = #[pt, it]) : SemAt P E s W (Builtin.unsafeString_ ts ty #[cx, cn]) (uStringA P h ts.toList x n) := by
  obtain ⟨pt, it, rfl⟩ := hts
  unfold uStringA
  split
  · rename_i z
    refine SemAt.need fun hz => ?_
    simp only [RV] at hx hn
    subst hx hn hz
    exact SemAt.ret r (Lib.run_unsafeString_none W pt it ty none) (by simp only [RV])
  · rename_i id z
    split
    case h_2 => exact SemAt.fail
    rename_i t pt' it' hl
    simp only [List.cons.injEq, and_true] at hl
    obtain ⟨rfl, rfl⟩ := hl
    split
    case h_2 => exact SemAt.fail
    rename_i e hp
    refine SemAt.get fun o ho => ?_
    split
    case h_2 => exact SemAt.fail
    rename_i ty2 m row
    split
    case h_2 => exact SemAt.fail
    rename_i hte hce
    have hte' : ty2 = e := by simpa using hte
    subst hte'
    refine SemAt.need fun hq => ?_
    obtain ⟨rfl, hm1, hm2, hsz, hrow⟩ := hq
    obtain ⟨b, k, xs, h1, h2, h3, h4⟩ := r.holds id _ ho
    simp only [RV] at hx hn
    obtain ⟨a, k', he, rfl⟩ := hx
    subst hn
    rw [h1] at he
    simp only [Option.some.injEq, Prod.mk.injEq] at he
    obtain ⟨rfl, rfl⟩ := he
    rcases h2.2 with ⟨hv, _⟩ | ⟨g, cap, cur, hv, hg0, hg, hnc, hcm, hsz2, htk⟩
    · simp at hv
    simp only [Value.slice.injEq, Option.some.injEq, true_and] at hv
    obtain ⟨rfl, rfl⟩ := hv
    have hsh : W.shape? g = some (ty2, cur.size) := by simp [World.shape?, hg]
    have hlen : t.data.toList.length = m := by simpa using hsz
    have hcell : ∀ j (y : UInt8), t.data.toList[j]? = some y → W.cell? ((⟨g, 0, none⟩ : Addr).add j) = some (.int .u8 y.toNat) := fun j y hy => by
      have hj : j < m := by have := (List.getElem?_eq_some_iff.1 hy).1; omega
      refine h2.cells (g := g) rfl j _ ?_
      have h6 := h4 j hj
      rw [hrow j hj] at h6
      simp only [strRow, RVs, RV] at h6
      obtain ⟨u, l, e1, rfl, rfl⟩ := h6
      have h7 : (cellsAt xs 1 j)[0]? = some (.int .u8 (byteAt t j)) := by rw [e1]; rfl
      have h8 := cellsAt_get h7
      rw [Nat.mul_one, Nat.add_zero] at h8
      rw [h8]
      simp only [byteAt, hy, Option.getD_some]
    have hrun := Lib.run_unsafeString_row (P := P) W pt it ty ty2 hp (by simpa using hce) g cur.size hsh t.data.toList (fun e => by rw [e] at hlen; simp at hlen; omega) (by rw [hlen, hsz2]; omega) (by omega) hcell
    rw [hlen] at hrun
    simp only [Nat.zero_mul, Nat.zero_add, Nat.add_zero]
    have hstr : (⟨t.data.toList.toArray⟩ : ByteArray) = t := by rcases t with ⟨⟨l⟩⟩; rfl
    rw [hstr] at hrun
    exact SemAt.away r ho rfl (by simp [blkOf, h1]) hrun (grownBy_freeze W g m) (by simp only [RV])
  · exact SemAt.fail
theorem run_app_str {t u ty e : TypeId} {i : TypeInfo} (ht : P.underlying t = some (.slice e)) (hu : P.underlying u = some .string) (hi : P.info? e = some i) (hz : i.zero = some (.int .u8 0)) (hsize : i.size = 1) (hby : i.bytes = 1)
    {v : Value} {n : Nat} {xs : List Value} (hown : W.ownsRow 0 e 1 v n xs) (hn : 1 ≤ n) (t1 : ByteArray) (hb : n + t1.size ≤ 1099511627776) :
    ∃ g' cap' W', (Builtin.append_ #[t, u] ty #[v, .string t1]).run P W = .ok (.slice (some ⟨g', 0, none⟩) (n + t1.size) cap') W' ∧ W'.ownsRow 0 e 1 (.slice (some ⟨g', 0, none⟩) (n + t1.size) cap') (n + t1.size) (xs ++ Lib.strCells t1) ∧ W.grownBy W' v.ownBlock ∧ (some g' = v.ownBlock ∨ g' = W.heap.size) ∧ n + t1.size ≤ cap' := by
  obtain ⟨v', W', hr, h2, h3, _⟩ := Lib.run_append_own_string (P := P) W 0 t u ty e i ht hu hi hz hsize hby v n xs hown t1 (by unfold maxLen; omega) (by omega) (Nat.zero_le _)
  have hxl : xs.length = n := by simpa using hown.1
  rcases hown.2 with ⟨rfl, h0⟩ | ⟨g, cap, cur, rfl, hbg, hg, hnc, hcm, hcs, htake⟩
  · omega
  · have hcs' : cur.size = cap := by simpa using hcs
    by_cases hroom : n + t1.size ≤ cap
    · have hr2 := Lib.run_append_room_string (P := P) W t u ty e i ht hu hi hsize g n cap cur hg t1 hroom (by omega)
      rw [hr] at hr2
      simp only [Result.ok.injEq] at hr2
      obtain ⟨rfl, _⟩ := hr2
      exact ⟨g, cap, W', hr, h2, h3, .inl rfl, hroom⟩
    · have holds : ∀ j u, xs[j]? = some u → W.cell? ((⟨g, 0, none⟩ : Addr).add j) = some u := hown.cells (g := g) rfl
      have hr2 := Lib.run_append_grow_string (P := P) W t u ty e i (.int .u8 0) ht hu hi hz ⟨g, 0, none⟩ n cap xs (by rw [hsize]; simpa using hxl) holds t1 (by omega) (by omega) (by rw [hby]; exact growslice_fits (by omega) (by omega))
      rw [hr] at hr2
      simp only [Result.ok.injEq] at hr2
      obtain ⟨rfl, _⟩ := hr2
      exact ⟨_, _, W', hr, h2, h3, .inr rfl, grownCap_ge W _ _ _⟩
def isByteTy (P : Program) (e : TypeId) : Bool := match P.info? e with
  | some i => match i.zero with
    | some (.int .u8 0) => i.size == 1 && i.bytes == 1
    | _ => false
  | none => false
theorem isByteTy_ok {e : TypeId} (h : isByteTy P e = true) : ∃ i, P.info? e = some i ∧ i.zero = some (.int .u8 0) ∧ i.size = 1 ∧ i.bytes = 1 := by
  unfold isByteTy at h
  split at h
  · rename_i i hi
    split at h
    · rename_i hz
      simp only [Bool.and_eq_true, beq_iff_eq] at h
      exact ⟨i, hi, hz, h.1, h.2⟩
    · cases h
  · cases h
def appSA (P : Program) (nm : Nat) (t u : TypeId) (x y : AV) : Ac AV := match P.underlying t, P.underlying u with
  | some (.slice e), some .string => match isByteTy P e, x, y with
    | true, .sl id 0 1 n none, .val (.string t1) => .get id fun o => match o with
      | .vec e' 1 n' row => match e' == e with
        | true => .need (n' = n ∧ 1 ≤ n ∧ n + t1.size ≤ 1099511627776) (.del id (.new nm (.vec e 1 (addN n t1.size) (catR n row (strRow t1))) (.ret (.sl nm 0 1 (addN n t1.size) none))))
        | false => .fail
      | _ => .fail
    | _, _, _ => .fail
  | _, _ => .fail
theorem strCells_at (t1 : ByteArray) (q : Nat) (hq : q < t1.size) : cellsAt (Lib.strCells t1) 1 q = [.int .u8 (byteAt t1 q)] := by
  have hl : q < t1.data.toList.length := by simpa using hq
  unfold cellsAt Lib.strCells byteAt
  rw [Nat.mul_one, List.drop_eq_getElem_cons (by simpa using hl), List.getElem?_eq_getElem hl]
  simp
theorem appS_ok (r : RH E s.heap W) (nm : Nat) (t u ty : TypeId) {x y : AV} {cx cy : Value} (hx : RV E x cx) (hy : RV E y cy) : SemAt P E s W (Builtin.append_ #[t, u] ty #[cx, cy]) (appSA P nm t u x y) := by
  unfold appSA
  split
  case h_2 => exact SemAt.fail
  rename_i e ht hu
  split
  case h_2 => exact SemAt.fail
  rename_i id n t1 hbt
  obtain ⟨i, hi, hz, hsize, hby⟩ := isByteTy_ok hbt
  refine SemAt.get fun o ho => ?_
  split
  case h_2 => exact SemAt.fail
  rename_i e' n' row
  split
  case h_2 => exact SemAt.fail
  rename_i hee
  have hee' : e' = e := by simpa using hee
  subst hee'
  refine SemAt.need fun hq => ?_
  obtain ⟨rfl, hn1, hb⟩ := hq
  intro out hout _ hnw
  simp only [Ac.run] at hout
  split at hout
  · cases hout
  rename_i q hq
  split at hq
  · cases hq
  rename_i hf
  simp only [Option.some.injEq] at hq
  subst hq
  simp only [Option.some.injEq] at hout
  subst hout
  have hne := hnw nm (by simp)
  obtain ⟨b, k, xs, h1, h2, h3, h4⟩ := r.holds id _ ho
  simp only [RV] at hx hy
  subst hy
  obtain ⟨b2, k2, h5, h6⟩ := hx
  rw [h1] at h5
  simp only [Option.some.injEq, Prod.mk.injEq] at h5
  obtain ⟨rfl, rfl⟩ := h5
  have hnd : nm ≠ id := fun e => by rw [e, h1] at hne; cases hne
  have hxl : xs.length = n' := by simpa using h2.1
  cases b with
  | none => obtain ⟨_, _, h0, _⟩ := h6; omega
  | some a =>
    obtain ⟨o', mm, rfl, g1, g2, g3, g4⟩ := h6
    have hmm : mm = k := by simpa using g4
    subst hmm
    have hform : a = ⟨a.block, 0, none⟩ := by
      rcases h2.2 with ⟨hv, _⟩ | ⟨g, cap, cur, hv, _⟩
      · simp at hv
      · simp only [Value.slice.injEq, Option.some.injEq] at hv; rw [hv.1]
    have hcx : (Value.slice (some ⟨a.block, o', none⟩) n' mm) = .slice (some a) n' mm := by
      rw [g3 (by omega), hform]
    rw [hcx]
    obtain ⟨g', cap', W', hr, q2, q3, q4, q5⟩ := run_app_str (P := P) (ty := ty) ht hu hi hz hsize hby h2 hn1 t1 hb
    have hxt := nw_set E nm (some ⟨g', 0, none⟩, cap') hne
    have hown : (Value.slice (some a) n' mm).ownBlock = some a.block := rfl
    rw [hown] at q3 q4
    have hholds : ∀ E' : Env, (∀ i x, E i = some x → E' i = some x) → E' nm = some (some ⟨g', 0, none⟩, cap') → Holds E' W' nm (.vec e' 1 (addN n' t1.size) (catR n' row (strRow t1))) := fun E' he hnm => by
      refine ⟨_, cap', xs ++ Lib.strCells t1, hnm, by rw [addN_eq]; exact q2, fun z hz => (List.mem_append.1 hz).elim (h3 z) (Lib.strCells_oneCell t1 z), fun j hj => ?_⟩
      rw [catR_at, cells_cat xs (Lib.strCells t1) 1 n' j (by rw [hxl, Nat.mul_one])]
      rw [addN_eq] at hj
      by_cases e : j < n'
      · rw [if_pos e, if_pos e]; exact (h4.mono he) j e
      · rw [if_neg e, if_neg e, strCells_at t1 _ (by omega)]
        simp only [strRow, RVs, RV]
        exact ⟨_, _, rfl, rfl, rfl⟩
    obtain ⟨f1, f2⟩ := RH.change (h' := upd (del s.heap id) nm (.vec e' 1 (addN n' t1.size) (catR n' row (strRow t1)))) r hxt q3 (fun b hb => by
        simp only [Option.some.injEq] at hb
        refine ⟨id, _, ho, rfl, by simp [Foot, Ob.bx, FootB, blkOf, h1, hb], .inr ?_⟩
        rw [find_upd, if_neg hnd, find_del, if_pos rfl]) (by rw [find_upd]; simp) (fun x hx y hy => by
        rw [find_upd, if_neg (fun e => hx e.symm), find_del] at hy
        split at hy
        · cases hy
        · exact hy) (hholds _ hxt.1 (by simp)) (fun b hb => by
        simp only [Foot, Ob.bx, FootB, blkOf, if_pos, Option.some.injEq] at hb
        rcases q4 with q4 | q4
        · left; rw [← hb]; exact q4.symm
        · right; omega)
    refine ⟨rfl, _, W', _, hr, hxt, ?_, f1, f2⟩
    simp only [RV]
    refine ⟨some ⟨g', 0, none⟩, cap', by simp, ?_⟩
    rw [addN_eq]
    exact ⟨0, cap', rfl, q5, by omega, fun _ => by simp, by simp⟩
def bytesStrA (P : Program) (t : ByteArray) (src dst : TypeId) (x : AV) : Ac AV := match x with
  | .sl id i 1 n _ => match P.underlying src, P.underlying dst with
    | some (.slice e), some .string => match P.underlying e with
      | some (.int .u8) => .get id fun o => srcA o i 1 n fun row => .need (RowStr t n row) (.ret (.val (.string t)))
      | _ => .fail
    | _, _ => .fail
  | _ => .fail
theorem bytesStr_ok (r : RH E s.heap W) (t : ByteArray) (src dst : TypeId) {x : AV} {c : Value} (hx : RV E x c) : SemAt P E s W (convert src dst c) (bytesStrA P t src dst x) := by
  unfold bytesStrA
  split
  case h_2 => exact SemAt.fail
  rename_i id i n cc
  split
  case h_2 => exact SemAt.fail
  rename_i e hs hd
  split
  case h_2 => exact SemAt.fail
  rename_i he
  refine SemAt.get fun o ho => src_ok (r.holds id o ho) hx _ fun row news hS => SemAt.need fun hq => ?_
  obtain ⟨hsz, hrow⟩ := hq
  have hlen : t.data.toList.length = n := by simpa using hsz
  have hnl := hS.len
  refine SemAt.ret r (cv := .string t) ?_ (by simp only [RV])
  rcases hS.addr with ⟨ad, mm, rfl, hc⟩ | ⟨rfl, rfl⟩
  · have hl : (loadCells ad n).run P W = .ok ((t.data.toList.map fun b => (b.toNat : Int)).map (Value.int .u8)).toArray W := by
      have := run_loadCells_list (P := P) W ad ((t.data.toList.map fun b => (b.toNat : Int)).map (Value.int .u8)) (fun j v hj => by
        have hjl : j < n := by have := (List.getElem?_eq_some_iff.1 hj).1; simp at this; omega
        have h6 := hS.rows j hjl
        rw [hrow j hjl] at h6
        simp only [strRow, RVs, RV] at h6
        obtain ⟨u, l, e1, rfl, rfl⟩ := h6
        have h7 : (cellsAt news 1 j)[0]? = some (.int .u8 (byteAt t j)) := by rw [e1]; rfl
        have h8 := cellsAt_get h7
        rw [Nat.mul_one, Nat.add_zero] at h8
        rw [hc j _ h8]
        have hjl2 : j < t.data.toList.length := by omega
        simp only [List.getElem?_map, List.getElem?_eq_getElem hjl2, Option.map_some, Option.some.injEq] at hj
        simp only [byteAt, List.getElem?_eq_getElem hjl2, Option.getD_some, hj])
      simpa [hlen] using this
    rw [run_convert_bytes_string W src dst e _ n mm hs he hd, run_bytesToString W _ n mm _ hl, foldl_push_bytes]
    have e2 : (List.map (fun n : Int => UInt8.ofNat n.toNat) (t.data.toList.map fun b => (b.toNat : Int))) = t.data.toList := by
      rw [List.map_map]
      conv => rhs; rw [← List.map_id t.data.toList]
      congr 1
      funext b
      simp
    rw [e2]
    simp only [ByteArray.empty, ByteArray.emptyWithCapacity]
    rcases t with ⟨⟨l⟩⟩
    simp
    rfl
  · have : t = ByteArray.empty := by
      rcases t with ⟨⟨l⟩⟩
      have : l = [] := List.eq_nil_of_length_eq_zero (by simpa using hlen)
      subst this
      rfl
    rw [this]
    exact run_convert_bytes_nil W src e hs he 0 0 dst hd
def convH (P : Program) (h : Hint) (src dst : TypeId) (x : AV) : Ac AV := match h with
  | .is v => match v with
    | .val (.string t) => bytesStrA P t src dst x
    | _ => convP P h src dst x
  | h => convP P h src dst x
theorem convH_ok (r : RH E s.heap W) (h : Hint) (src dst : TypeId) {x : AV} {c : Value} (hx : RV E x c) : SemAt P E s W (convert src dst c) (convH P h src dst x) := by
  unfold convH
  split
  · split
    · exact bytesStr_ok r _ src dst hx
    · exact convP_ok r _ src dst hx
  · exact convP_ok r h src dst hx
def storeH (P : Program) (h : Hint) (t : TypeId) (addr v : AV) : Ac AV := match h with
  | .row ys => match addr with
    | .ptr id 0 _ j => match cellsOf v, tySize P t with
      | some [c], some 1 => match one1 c with
        | true => .get id fun o => match o with
          | .blk ty xs => .need (j + 1 ≤ xs.length ∧ putC xs j [c] = ys) (.put id (.blk ty ys) (.ret undefA))
          | _ => .fail
        | false => .fail
      | _, _ => .fail
    | _ => .fail
  | _ => storeA P t addr v
theorem storeH_ok (r : RH E s.heap W) (h : Hint) {t : TypeId} {addr v : AV} {ca cv : Value} (ha : RV E addr ca) (hv : RV E v cv) : SemAt P E s W (do Instr.storeAt t ca cv; pure undef) (storeH P h t addr v) := by
  unfold storeH
  split
  case h_2 => exact store_ok r ha hv
  rename_i ys
  split
  case h_2 => exact SemAt.fail
  rename_i id es j
  simp only [RV] at ha
  obtain ⟨a, k, he, rfl⟩ := ha
  split
  case h_2 => exact SemAt.fail
  rename_i c0 hcs hz
  split
  case h_2 => exact SemAt.fail
  rename_i h1
  have hrc := cellsOf_ok hcs hv
  have hn : cv.cells.toList.length = 1 := by rw [hrc.length]; rfl
  have hone : ∀ u ∈ cv.cells.toList, u.oneCell' = true := fun u hu => by
    obtain ⟨q, hq⟩ := List.getElem?_of_mem hu
    have hq2 : q < [c0].length := by have := (List.getElem?_eq_some_iff.1 hq).1; rw [hrc.length] at this; exact this
    have hq0 : q = 0 := by simpa using hq2
    subst hq0
    obtain ⟨y, hy, hy2⟩ := hrc.get 0 c0 rfl
    rw [hq] at hy
    obtain rfl := Option.some.inj hy
    exact one1_ok h1 hy2
  rw [← hn] at hz
  refine SemAt.get fun o ho => ?_
  have hh := r.holds id o ho
  cases o with
  | obj => exact SemAt.fail
  | box => exact SemAt.fail
  | lp => exact SemAt.fail
  | ro => exact SemAt.fail
  | vec => exact SemAt.fail
  | blk ty xs =>
    dsimp only
    refine SemAt.need fun hq => ?_
    obtain ⟨hfit, rfl⟩ := hq
    obtain ⟨b, k', ys, h2, h3, h4, h5⟩ := hh
    rw [he] at h2
    simp only [Option.some.injEq, Prod.mk.injEq] at h2
    obtain ⟨rfl, rfl⟩ := h2
    have hyl := h4.length
    refine SemAt.put r ho rfl (cv := undef) (b := b) (by simp [blkOf, he]) ?_ (grown_setRow _ _ _) ⟨b, k, (ys.take j ++ cv.cells.toList ++ ys.drop (j + cv.cells.toList.length)), he, setRow_heap W b _ _ ty _ h3, ?_⟩ (by simp only [RV, undefA])
    · have := storeVar_run (P := P) (W := W) (t := t) (o := j) hz h3 (by rw [List.size_toArray]; omega) hone
      simp only [Instr.storeAt, Instr.sureAddr, Sem.run_bind, Sem.run_pure, Result.andThen_ok, Nat.zero_mul, Nat.zero_add, this]
    · refine ⟨by simpa using h4.put hrc j, ?_⟩
      have hn2 : cv.cells.size = 1 := by simpa using hn
      rw [h5]
      simp
      omega
def eqFields2 (P : Program) (xs ys : List AV) : List Field → Option Bool
  | [] => some true
  | f :: fs => match eqFields2 P xs ys fs with
    | none => none
    | some c => match f.name == "_", tyAgg P f.type with
      | false, some false => match nth xs f.offset, nth ys f.offset with
        | some x, some y => match kindOK P f.type x, eqCell x y with
          | true, some b => some (b && c)
          | _, _ => none
        | _, _ => none
      | false, some true => match P.underlying f.type, tySize P f.type with
        | some (.struct gs), some n => match P.stoodInHeld f.type, eqFields P ((xs.drop f.offset).take n) ((ys.drop f.offset).take n) gs.toList with
          | false, some b => some (b && c)
          | _, _ => none
        | _, _ => none
      | _, _ => none
theorem eqFields2_ok (d : Nat) {xs ys : List AV} {vx vy : List Value} (hx : RVs E xs vx) (hy : RVs E ys vy) (W : World) : ∀ (fs : List Field) (b : Bool), eqFields2 P xs ys fs = some b → (Op.eqFields (d + 2) vx.toArray vy.toArray fs).run P W = .ok b W
  | [], b, h => by
    simp only [eqFields2, Option.some.injEq] at h
    subst h
    simp [Op.eqFields]
  | f :: fs, b, h => by
    unfold eqFields2 at h
    split at h
    · cases h
    rename_i c1 hr
    have ih := eqFields2_ok d hx hy W fs c1 hr
    split at h
    case h_3 => cases h
    · rename_i hn ha
      split at h
      case h_2 => cases h
      rename_i x y hfx hfy
      split at h
      case h_2 => cases h
      rename_i b1 hk he
      simp only [Option.some.injEq] at h
      subst h
      obtain ⟨u, hu, hu2⟩ := hx.get _ _ hfx
      obtain ⟨v, hv, hv2⟩ := hy.get _ _ hfy
      have hne : (f.name ≠ "_") = True := by simpa using hn
      have p1 : (part f.type vx.toArray f.offset).run P W = .ok u W := by
        have : vx.toArray[f.offset]? = some u := by simpa using hu
        simp only [part, Sem.run_bind, run_isAgg ha, Result.andThen_ok, Bool.false_eq_true, if_false, this, Sem.run_pure]
      have p2 : (part f.type vy.toArray f.offset).run P W = .ok v W := by
        have : vy.toArray[f.offset]? = some v := by simpa using hv
        simp only [part, Sem.run_bind, run_isAgg ha, Result.andThen_ok, Bool.false_eq_true, if_false, this, Sem.run_pure]
      have p3 := eqCell_ok (P := P) (d + 1) hk he hu2 hv2 W
      simp only [Op.eqFields, hne, if_true, Sem.run_bind, p1, p2, p3, Result.andThen_ok]
      cases b1
      · simp
      · simpa using ih
    · rename_i hn ha
      split at h
      case h_2 => cases h
      rename_i gs n hu hz
      split at h
      case h_2 => cases h
      rename_i b1 hs he
      simp only [Option.some.injEq] at h
      subst h
      have hne : (f.name ≠ "_") = True := by simpa using hn
      have ag : ∀ (zs : List Value), (part f.type zs.toArray f.offset).run P W = .ok (.agg ((zs.drop f.offset).take n).toArray) W := fun zs => by
        have e : zs.toArray.extract f.offset (f.offset + n) = ((zs.drop f.offset).take n).toArray := by
          apply Array.ext'
          simp [List.take_drop]
        simp only [part, Sem.run_bind, run_isAgg ha, run_size hz, Result.andThen_ok, if_true, Sem.run_pure, e]
      have hf : P.fieldsOf f.type = gs := by simp [Program.fieldsOf, hu]
      have p3 := run_equalIn_struct (P := P) W (d + 1) f.type ((vx.drop f.offset).take n).toArray ((vy.drop f.offset).take n).toArray (by rw [hf]; exact hu) hs
      rw [hf, eqFields_ok d ((hx.drop _).take n) ((hy.drop _).take n) W _ _ he] at p3
      simp only [Op.eqFields, hne, if_true, Sem.run_bind, ag, p3, Result.andThen_ok]
      cases b1
      · simp
      · simpa using ih
def aggEq2 (P : Program) (t : TypeId) (xs ys : List AV) : Option Bool := match P.underlying t with
  | some (.struct fs) => match P.stoodInHeld t, P.eqGuardType P.depth t with
    | false, false => eqFields2 P xs ys fs.toList
    | _, _ => none
  | _ => none
def binQ (P : Program) (h : Hint) (op : BinOp) (t : TypeId) (x y : AV) : Ac AV := match x, y with
  | .agg xs, .agg ys => match aggEq P t xs ys with
    | some _ => binP P h op t x y
    | none => match aggEq2 P t xs ys, op with
      | some b, .eql => cmpA h b
      | some b, .neq => cmpA h (!b)
      | _, _ => .fail
  | x, y => binP P h op t x y
theorem binQ_ok (r : RH E s.heap W) (h : Hint) (op : BinOp) (t : TypeId) (ox oy : Operand) {x y : AV} {cx cy : Value} (hx : RV E x cx) (hy : RV E y cy) : SemAt P E s W (do eqGuard op t ox oy cx cy; binOp op t cx cy) (binQ P h op t x y) := by
  unfold binQ
  split
  case h_2 => exact binP_ok r h op t ox oy hx hy
  rename_i xs ys
  split
  · exact binP_ok r h op t ox oy hx hy
  simp only [RV] at hx hy
  obtain ⟨vx, rfl, hx⟩ := hx
  obtain ⟨vy, rfl, hy⟩ := hy
  cases hb : aggEq2 P t xs ys with
  | none => exact SemAt.fail
  | some b =>
    have hb2 := hb
    unfold aggEq2 at hb2
    split at hb2
    case h_2 => cases hb2
    rename_i fs hu
    split at hb2
    case h_2 => cases hb2
    rename_i hs hg
    have hgd : (eqGuard op t ox oy (.agg vx.toArray) (.agg vy.toArray)).run P W = .ok () W := run_eqGuard_agg W op t ox oy _ _ hg
    have hf : P.fieldsOf t = fs := by simp [Program.fieldsOf, hu]
    have he := run_equalIn_struct (P := P) W 9999 t vx.toArray vy.toArray (by rw [hf]; exact hu) hs
    rw [hf, eqFields2_ok 9997 hx hy W _ _ hb2] at he
    cases op <;> first | exact SemAt.fail | skip
    · exact SemAt.after hgd (cmp_ok r h (by rw [run_eql_struct, he]; rfl))
    · exact SemAt.after hgd (cmp_ok r h (by rw [run_neq_struct, he]; rfl))
def isConst : Operand → Bool
  | .const _ => true
  | _ => false
def nilIf (P : Program) (t : TypeId) (c : Bool) (x y : AV) (op : BinOp) : Option Bool := match P.underlying t, c, x, y, op with
  | some (.interface _), true, .val .nilIface, .val .nilIface, .eql => some true
  | some (.interface _), true, .val .nilIface, .val .nilIface, .neq => some false
  | _, _, _, _, _ => none
def binR (P : Program) (h : Hint) (op : BinOp) (t : TypeId) (ox oy : Operand) (x y : AV) : Ac AV := match nilIf P t (isConst ox || isConst oy) x y op with
  | some b => .ret (.val (.bool b))
  | none => binQ P h op t x y
theorem binR_ok (r : RH E s.heap W) (h : Hint) (op : BinOp) (t : TypeId) (ox oy : Operand) {x y : AV} {cx cy : Value} (hx : RV E x cx) (hy : RV E y cy) : SemAt P E s W (do eqGuard op t ox oy cx cy; binOp op t cx cy) (binR P h op t ox oy x y) := by
  unfold binR
  cases hn : nilIf P t (isConst ox || isConst oy) x y op with
  | none => exact binQ_ok r h op t ox oy hx hy
  | some b =>
    unfold nilIf at hn
    split at hn
    case h_3 => cases hn
    all_goals
      rename_i hu hc
      simp only [Option.some.injEq] at hn
      subst hn
      simp only [RV] at hx hy
      subst hx hy
      have hg : (∃ v, ox = .const v) ∨ (∃ v, oy = .const v) := by
        cases ox <;> cases oy <;> simp [isConst] at hc ⊢
      have he : (Op.equal t .nilIface .nilIface).run P W = .ok true W := by
        unfold Op.equal Op.maxDepth Op.equalIn
        rw [Sem.run_bind, run_underlying hu]
        rfl
    · refine SemAt.after (s := s) (pre := eqGuard .eql t ox oy .nilIface .nilIface) ?_ (SemAt.ret r (cv := .bool true) ?_ (by simp [RV]))
      · unfold eqGuard
        rcases hg with ⟨v, rfl⟩ | ⟨v, rfl⟩ <;> simp
      · show (do pure (.bool (← Op.equal t .nilIface .nilIface)) : Sem Value).run P W = _
        rw [Sem.run_bind, he]; rfl
    · refine SemAt.after (s := s) (pre := eqGuard .neq t ox oy .nilIface .nilIface) ?_ (SemAt.ret r (cv := .bool false) ?_ (by simp [RV]))
      · unfold eqGuard
        rcases hg with ⟨v, rfl⟩ | ⟨v, rfl⟩ <;> simp
      · show (do pure (.bool (!(← Op.equal t .nilIface .nilIface))) : Sem Value).run P W = _
        rw [Sem.run_bind, he]; rfl
end
section
variable {P : Program} {E : Env} {s : St} {W : World} {sem : Sem Value}
theorem SemAt.alias (r : RH E s.heap W) {id nm b k k0 : Nat} {o0 o : Ob} {v : AV} {cv : Value} (hf : find s.heap id = some o0) (ho : o0.owned = true) (hE : E id = some (some ⟨b, 0, none⟩, k0)) (h : sem.run P W = .ok cv W)
    (hh : ∀ E', (∀ i x, E i = some x → E' i = some x) → E' nm = some (some ⟨b, 0, none⟩, k) → Holds E' W nm o ∧ RV E' v cv) (hbx : o.bx = none := by rfl) (hbx0 : o0.bx = none := by rfl) : SemAt P E s W sem (.del id (.new nm o (.ret v))) := fun out hout _ hn => by
  simp only [Ac.run] at hout
  split at hout
  · cases hout
  · rename_i hq
    split at hq
    · cases hq
    · simp only [Option.some.injEq] at hq
      subst hq
      simp only [Option.some.injEq] at hout
      subst hout
      have hne := hn nm (by simp)
      have hidn : id ≠ nm := fun e => by rw [e, hne] at hE; cases hE
      have hx := nw_set E nm (some ⟨b, 0, none⟩, k) hne
      obtain ⟨h1, h2⟩ := hh _ hx.1 (by simp)
      have hfd : ∀ x, find (upd (del s.heap id) nm o) x = if nm = x then some o else if id = x then none else find s.heap x := fun x => by rw [find_upd, find_del]
      obtain ⟨q1, q2⟩ := RH.change (h' := upd (del s.heap id) nm o) (row := some b) r hx ⟨rfl, rfl, rfl, Nat.le_refl _, fun _ _ _ => rfl⟩
        (fun b' hb' => by cases hb'; exact ⟨id, o0, hf, ho, by simp [Foot, hbx0, FootB, blkOf, hE], .inr (by rw [hfd, if_neg (fun e => hidn e.symm), if_pos rfl])⟩)
        (by rw [hfd, if_pos rfl])
        (fun x hx' y hy => by
          rw [hfd, if_neg (fun e => hx' e.symm)] at hy
          split at hy
          · cases hy
          · exact hy) h1 (fun b' hb' => .inl (by simp [Foot, hbx, FootB, blkOf] at hb'; rw [hb']))
      exact ⟨rfl, cv, W, _, h, hx, h2, q1, q2⟩
def plainV : AV → Bool
  | .val (.int _ _) => true
  | .val (.bool _) => true
  | .val (.string _) => true
  | _ => false
theorem plain_one : ∀ (cs : List AV) (xs : List Value), (∀ x ∈ cs, plainV x = true) → RVs E cs xs → ∀ u ∈ xs, u.oneCell' = true
  | [], xs, _, h => by
    simp only [RVs] at h
    subst h
    intro u hu
    cases hu
  | c :: cs, xs, hc, h => by
    simp only [RVs] at h
    obtain ⟨y, l, rfl, h1, h2⟩ := h
    intro u hu
    rcases List.mem_cons.1 hu with rfl | hu
    · have := hc c List.mem_cons_self
      unfold plainV at this
      split at this
      · simp only [RV] at h1; rw [h1]; rfl
      · simp only [RV] at h1; rw [h1]; rfl
      · simp only [RV] at h1; rw [h1]; rfl
      · cases this
    · exact plain_one cs l (fun x hx => hc x (List.mem_cons_of_mem _ hx)) h2 u hu
def sliceArrA (P : Program) (nm : Nat) (t : TypeId) (id : Nat) : Ac AV := match P.underlying t with
  | some (.array n e) => match tySize P e with
    | some q => .get id fun o => match o with
      | .blk ty cs => match Nat.beq cs.length (n * q), allB plainV cs with
        | true, true => .del id (.new nm (.ro q n (rowsOf cs q)) (.ret (.sl nm 0 q n none)))
        | _, _ => .fail
      | _ => .fail
    | none => .fail
  | _ => .fail
theorem sliceArr_ok (r : RH E s.heap W) (nm : Nat) (t : TypeId) (id : Nat) {c : Value} (hx : RV E (.ptr id 0 0 0) c) : SemAt P E s W (Instr.sliceAt t c none none none) (sliceArrA P nm t id) := by
  unfold sliceArrA
  split
  case h_2 => exact SemAt.fail
  rename_i n e hu
  split
  case h_2 => exact SemAt.fail
  rename_i q hq
  refine SemAt.get fun o ho => ?_
  split
  case h_2 => exact SemAt.fail
  rename_i ty cs
  split
  case h_2 => exact SemAt.fail
  rename_i hl hp
  have hl : cs.length = n * q := Nat.eq_of_beq_eq_true hl
  obtain ⟨b, k, xs, h1, h2, h3, _⟩ := r.holds id _ ho
  simp only [RV] at hx
  obtain ⟨a, k', h4, rfl⟩ := hx
  rw [h1] at h4
  simp only [Option.some.injEq, Prod.mk.injEq] at h4
  obtain ⟨rfl, rfl⟩ := h4
  have hxl : xs.length = n * q := by rw [h3.length, hl]
  have hrun : (Instr.sliceAt t (.pointer (some ⟨b, 0, none⟩)) none none none).run P W = .ok (.slice (some ⟨b, 0, none⟩) n n) W := by
    have hb := bounds_ok (P := P) (E := E) (n := n) (cap := n) (lo := none) (hi := none) (cl := none) (ch := none) (l := none) (h := none) (.none) (.none) false (Nat.le_refl _) trivial trivial W
    have e1 : loN none = 0 := rfl
    have e2 : hiN n none = n := rfl
    rw [e1, e2] at hb
    simp only [Instr.sliceAt, run_underlying hu, Sem.run_bind, Result.andThen_ok, Instr.sureAddr, Sem.run_pure, hb, run_size hq]
    by_cases h0 : n = 0
    · simp [h0]
    · simp [h0, Addr.add]
  refine SemAt.alias r (k := n) ho rfl h1 (by simpa using hrun) fun E' he hn => ⟨⟨_, _, xs, hn, hxl, .inr ⟨_, rfl, (Array.getElem?_eq_some_iff.1 h2).1, Nat.le_refl _, fun j u hu => ?_⟩, plain_one cs xs (allB_ok hp) h3, fun p hp' => (((RVs.mono he _ _ h3).drop _).take _)⟩, ?_⟩
  · have := cell_of_row W b (0 + j) xs.toArray ty (0, 0) h2
    rw [this]
    simpa using hu
  · simp only [RV]
    exact ⟨_, _, hn, 0, n, rfl, Nat.le_refl _, by omega, fun _ => by simp, by simp⟩
def sliceArrB (P : Program) (t : TypeId) (id : Nat) (lo hi : Option AV) : Ac AV := match obOf lo, obOf hi with
  | some l, some h => match P.underlying t with
    | some (.array n e) => match tySize P e with
      | some q => .get id fun o => match o with
        | .blk _ cs => match Nat.beq cs.length n, Nat.beq q 1 with
          | true, true => needHi h n (needLo l h n (.ret (.sl id (loN l) 1 (subN (hiN n h) l) none)))
          | _, _ => .fail
        | _ => .fail
      | none => .fail
    | _ => .fail
  | _, _ => .fail
theorem sliceArrB_ok (r : RH E s.heap W) (t : TypeId) (id : Nat) {c : Value} (hx : RV E (.ptr id 0 0 0) c) {lo hi : Option AV} {cl ch : Option Value} (hl : (lo = none ∧ cl = none) ∨ ∃ v w, lo = some v ∧ cl = some w ∧ RV E v w) (hh : (hi = none ∧ ch = none) ∨ ∃ v w, hi = some v ∧ ch = some w ∧ RV E v w) : SemAt P E s W (Instr.sliceAt t c cl ch none) (sliceArrB P t id lo hi) := by
  unfold sliceArrB
  split
  case h_2 => exact SemAt.fail
  rename_i l h e1 e2
  have hl := obOf_ok e1 hl
  have hh := obOf_ok e2 hh
  split
  case h_2 => exact SemAt.fail
  rename_i n e hu
  split
  case h_2 => exact SemAt.fail
  rename_i q hq
  refine SemAt.get fun o ho => ?_
  split
  case h_2 => exact SemAt.fail
  rename_i ty cs
  split
  case h_2 => exact SemAt.fail
  rename_i hcl hq1
  have hcl : cs.length = n := Nat.eq_of_beq_eq_true hcl
  have hq1 : q = 1 := Nat.eq_of_beq_eq_true hq1
  subst hq1
  obtain ⟨b, k, xs, h1, h2, h3, h4⟩ := r.holds id _ ho
  simp only [RV] at hx
  obtain ⟨a, k', h5, rfl⟩ := hx
  rw [h1] at h5
  simp only [Option.some.injEq, Prod.mk.injEq] at h5
  obtain ⟨rfl, rfl⟩ := h5
  have hk : k = n := by rw [h4, h3.length, hcl]
  refine needs_ok fun g1 g2 g3 g4 => ?_
  have hb := bounds_ok (P := P) hl hh false (Nat.le_refl n) g1 g2 W
  refine SemAt.ret r (cv := .slice (some ⟨b, if n = loN l then 0 else 0 + loN l * 1, none⟩) (hiN n h - loN l) (n - loN l)) ?_ ?_
  · simp only [Instr.sliceAt, run_underlying hu, Sem.run_bind, Result.andThen_ok, Instr.sureAddr, Sem.run_pure, hb, run_size hq, Nat.zero_mul, Nat.zero_add]
    by_cases e0 : n = loN l
    · rw [if_pos e0, if_pos e0]
    · rw [if_neg e0, if_neg e0]; simp [Addr.add]
      exact fun e => e.symm
  · simp only [RV]
    refine ⟨some ⟨b, 0, none⟩, k, h1, if n = loN l then 0 else 0 + loN l * 1, n - loN l, by rw [subN_eq], ?_, ?_, fun hne => ?_, ?_⟩
    · rw [subN_eq]; omega
    · omega
    · rw [if_neg (by omega)]
    · dsimp only; omega
def arrPtrA (P : Program) (t : TypeId) (x : AV) : Ac AV := match P.underlying t with
  | some (.array n _) => match x with
    | .sl id i es m _ => match Nat.ble 1 n with
      | true => .need (n ≤ m) (.ret (.ptr id i es 0))
      | false => .fail
    | _ => .fail
  | _ => .fail
theorem arrPtr_ok (r : RH E s.heap W) (t : TypeId) {x : AV} {c : Value} (hx : RV E x c) : SemAt P E s W (Instr.arrayAt t c) (arrPtrA P t x) := by
  unfold arrPtrA
  split
  case h_2 => exact SemAt.fail
  rename_i n e hu
  split
  case h_2 => exact SemAt.fail
  rename_i id i es m cc
  split
  case h_2 => exact SemAt.fail
  rename_i hn
  have hn : 1 ≤ n := Nat.le_of_ble_eq_true hn
  refine SemAt.need fun hm => ?_
  simp only [RV] at hx
  obtain ⟨b, k, he, h5⟩ := hx
  cases b with
  | none => obtain ⟨b', rfl, h0, _⟩ := h5; omega
  | some a =>
    obtain ⟨o, m', rfl, h6, h7, h8, h9⟩ := h5
    have ho := h8 (by omega)
    refine SemAt.ret r (cv := .pointer (some ⟨a.block, o, none⟩)) ?_ ?_
    · simp only [Instr.arrayAt, Sem.run_bind, run_underlying hu, Result.andThen_ok]
      rw [if_neg (by omega)]; rfl
    · simp only [RV]
      exact ⟨a, k, he, by rw [ho, Nat.add_zero]⟩
def rowsUp (row : Nat → List AV) (i : Nat) : Nat → List AV
  | 0 => []
  | k + 1 => rowsUp row i k ++ row (addN i k)
theorem rowsUp_rvs {row : Nat → List AV} {xs : List Value} {N : Nat} (h : RowsOK E 1 N row xs) (i : Nat) : ∀ k, i + k ≤ N → RVs E (rowsUp row i k) ((xs.drop i).take k) := by
  intro k
  induction k with
  | zero => intro _; simp [rowsUp, RVs]
  | succ k ih =>
    intro hk
    have h1 := ih (by omega)
    have h3 := h (i + k) (by omega)
    simp only [cellsAt, Nat.mul_one] at h3
    rw [List.take_add, List.drop_drop]
    unfold rowsUp
    rw [addN_eq]
    exact h1.append h3
def loadR (P : Program) (h : Hint) (t : TypeId) (v : AV) : Ac AV := match P.underlying t with
  | some (.array n _) => match v with
    | .ptr id i 1 0 => .get id fun o => match o with
      | .vec _ 1 N row => .need (i + n ≤ N) (partA P t (rowsUp row i n))
      | .ro 1 N row => .need (i + n ≤ N) (partA P t (rowsUp row i n))
      | _ => loadH P h t v
    | _ => loadH P h t v
  | _ => loadH P h t v
theorem loadR_ok (r : RH E s.heap W) (h : Hint) {t : TypeId} {v : AV} {c : Value} (hv : RV E v c) : SemAt P E s W (Instr.loadAt t c) (loadR P h t v) := by
  unfold loadR
  split
  case h_2 => exact loadH_ok r h hv
  rename_i n e hu
  split
  case h_2 => exact loadH_ok r h hv
  rename_i id i
  refine SemAt.get fun o ho => ?_
  have hv0 := hv
  simp only [RV] at hv
  obtain ⟨a, k, he, rfl⟩ := hv
  split
  case h_3 => exact loadH_ok r h hv0
  · rename_i ty N row
    obtain ⟨b, kk, xs, h1, h2, h3, h4⟩ := r.holds id _ ho
    rw [he] at h1
    simp only [Option.some.injEq, Prod.mk.injEq] at h1
    obtain ⟨rfl, rfl⟩ := h1
    refine SemAt.need fun hi => ?_
    have h5 := h2.cells (g := a.block) rfl
    have hoff : a.off = 0 := by
      rcases h2.2 with ⟨hv, _⟩ | ⟨g, cap, cur, hv, _⟩
      · simp at hv
      · simp only [Value.slice.injEq, Option.some.injEq] at hv; rw [hv.1]
    refine (loadVar_ok (a := a) (n := a.off + (i * 1 + 0)) (xs := (xs.drop i).take n) (rowsUp_rvs h4 i n hi) (fun d u hu => ?_) (by simp only [Instr.loadAt, Instr.sureAddr, Sem.run_bind, Sem.run_pure, Result.andThen_ok])).at r
    rw [List.getElem?_take] at hu
    split at hu
    case isFalse => cases hu
    rw [List.getElem?_drop] at hu
    have := h5 _ u hu
    rw [add_at (⟨a.block, 0, none⟩ : Addr)] at this
    rw [hoff]
    simpa [Nat.add_assoc] using this
  · rename_i N row
    obtain ⟨b, kk, xs, h1, h2, h3, h4, h5⟩ := r.holds id _ ho
    rw [he] at h1
    simp only [Option.some.injEq, Prod.mk.injEq] at h1
    obtain ⟨rfl, rfl⟩ := h1
    refine SemAt.need fun hi => ?_
    rcases h3 with ⟨h0, _⟩ | ⟨a', ha, h6, h7, h8⟩
    · cases h0
    · simp only [Option.some.injEq] at ha
      subst ha
      refine (loadVar_ok (a := a) (n := a.off + (i * 1 + 0)) (xs := (xs.drop i).take n) (rowsUp_rvs h5 i n hi) (fun d u hu => ?_) (by simp only [Instr.loadAt, Instr.sureAddr, Sem.run_bind, Sem.run_pure, Result.andThen_ok])).at r
      rw [List.getElem?_take] at hu
      split at hu
      case isFalse => cases hu
      rw [List.getElem?_drop] at hu
      have := h8 _ u hu
      simpa [Nat.add_assoc] using this
def eqItemsF (P : Program) (e : TypeId) (xs ys : List AV) : List Nat → Option Bool
  | [] => some true
  | i :: is => match eqItemsF P e xs ys is, nth xs i, nth ys i with
    | some c, some x, some y => match kindOK P e x, eqCell x y with
      | true, some b => some (b && c)
      | _, _ => none
    | _, _, _ => none
theorem eqItemsF_ok (d : Nat) {e : TypeId} (he : tyAgg P e = some false) {xs ys : List AV} {vx vy : List Value} (hx : RVs E xs vx) (hy : RVs E ys vy) (W : World) : ∀ (is : List Nat) (b : Bool), eqItemsF P e xs ys is = some b → (Op.eqItems (d + 1) e 1 vx.toArray vy.toArray is).run P W = .ok b W
  | [], b, h => by
    simp only [eqItemsF, Option.some.injEq] at h
    subst h
    simp [Op.eqItems]
  | i :: is, b, h => by
    unfold eqItemsF at h
    split at h
    case h_2 => cases h
    rename_i c x y hr hfx hfy
    have ih := eqItemsF_ok d he hx hy W is c hr
    split at h
    case h_2 => cases h
    rename_i b1 hk hc
    simp only [Option.some.injEq] at h
    subst h
    obtain ⟨u, hu, hu2⟩ := hx.get _ _ hfx
    obtain ⟨v, hv, hv2⟩ := hy.get _ _ hfy
    have p1 : (part e vx.toArray (i * 1)).run P W = .ok u W := by
      have : vx.toArray[i * 1]? = some u := by simpa using hu
      simp only [part, Sem.run_bind, run_isAgg he, Result.andThen_ok, Bool.false_eq_true, if_false, this, Sem.run_pure]
    have p2 : (part e vy.toArray (i * 1)).run P W = .ok v W := by
      have : vy.toArray[i * 1]? = some v := by simpa using hv
      simp only [part, Sem.run_bind, run_isAgg he, Result.andThen_ok, Bool.false_eq_true, if_false, this, Sem.run_pure]
    have p3 := eqCell_ok (P := P) d hk hc hu2 hv2 W
    simp only [Op.eqItems, Sem.run_bind, p1, p2, p3, Result.andThen_ok]
    cases b1
    · simp
    · simpa using ih
def upL : Nat → List Nat → List Nat
  | 0, l => l
  | k + 1, l => upL k (k :: l)
theorem upL_eq : ∀ (k : Nat) (l : List Nat), upL k l = List.range k ++ l
  | 0, l => by simp [upL]
  | k + 1, l => by rw [upL, upL_eq k, List.range_succ]; simp
def arrEq (P : Program) (t : TypeId) (xs ys : List AV) : Option Bool := match P.underlying t with
  | some (.array n e) => match P.info? e, Nat.beq (P.cellsOf e) 1, tyAgg P e, P.eqGuardType P.depth t with
    | some _, true, some false, false => eqItemsF P e xs ys (upL n [])
    | _, _, _, _ => none
  | _ => none
def binS (P : Program) (h : Hint) (op : BinOp) (t : TypeId) (ox oy : Operand) (x y : AV) : Ac AV := match x, y with
  | .agg xs, .agg ys => match arrEq P t xs ys, op with
    | some b, .eql => .ret (.val (.bool b))
    | some b, .neq => .ret (.val (.bool (!b)))
    | _, _ => binR P h op t ox oy x y
  | x, y => binR P h op t ox oy x y
theorem binS_ok (r : RH E s.heap W) (h : Hint) (op : BinOp) (t : TypeId) (ox oy : Operand) {x y : AV} {cx cy : Value} (hx : RV E x cx) (hy : RV E y cy) : SemAt P E s W (do eqGuard op t ox oy cx cy; binOp op t cx cy) (binS P h op t ox oy x y) := by
  unfold binS
  split
  case h_2 => exact binR_ok r h op t ox oy hx hy
  rename_i xs ys
  have key : ∀ b, arrEq P t xs ys = some b → ∃ vx vy : List Value, cx = .agg vx.toArray ∧ cy = .agg vy.toArray ∧ (∀ op, (eqGuard op t ox oy (.agg vx.toArray) (.agg vy.toArray)).run P W = .ok () W) ∧ (Op.equalIn 10000 t (.agg vx.toArray) (.agg vy.toArray)).run P W = .ok b W := fun b hb => by
    simp only [RV] at hx hy
    obtain ⟨vx, rfl, hx⟩ := hx
    obtain ⟨vy, rfl, hy⟩ := hy
    unfold arrEq at hb
    split at hb
    case h_2 => cases hb
    rename_i n e hu
    split at hb
    case h_2 => cases hb
    rename_i i hi hc ha hg
    have hc : P.cellsOf e = 1 := Nat.eq_of_beq_eq_true hc
    refine ⟨vx, vy, rfl, rfl, fun op => run_eqGuard_agg W op t ox oy _ _ hg, ?_⟩
    have h1 := run_equalIn_array (P := P) W 9999 vx.toArray vy.toArray hu hi
    rw [hc] at h1
    rw [h1]
    have h2 := eqItemsF_ok 9998 ha hx hy W _ _ hb
    rwa [upL_eq, List.append_nil] at h2
  split
  · rename_i b hb
    obtain ⟨vx, vy, rfl, rfl, hg, he⟩ := key b hb
    exact SemAt.after (hg _) (SemAt.ret r (by rw [run_eql_struct, he]; rfl) (by simp only [RV]))
  · rename_i b hb
    obtain ⟨vx, vy, rfl, rfl, hg, he⟩ := key b hb
    exact SemAt.after (hg _) (SemAt.ret r (by rw [run_neq_struct, he]; rfl) (by simp only [RV]))
  · exact binR_ok r h _ t ox oy hx hy
end
end Go.Proofs.Ytbgbjgedjmhcaaa
namespace Go.Proofs.Ytbgbjgedjmhcaaa
open Go.RowKit
def hasId (h : Hp) (id : Nat) : Bool := match find h id with
  | some _ => true
  | none => false
def newIds (h : Hp) : List (Nat × Option Ob) → List Nat
  | [] => []
  | (id, some o) :: l => match hasId h id with
    | true => newIds (upd h id o) l
    | false => id :: newIds (upd h id o) l
  | (id, none) :: l => newIds (del h id) l
def applyO (h : Hp) : List (Nat × Option Ob) → Hp
  | [] => h
  | (id, some o) :: l => applyO (upd h id o) l
  | (id, none) :: l => applyO (del h id) l
def CallOK (P : Program) (g : FuncId) (args : List AV) (h : Hp) (ret : AV) (outs : List (Nat × Option Ob)) : Prop :=
  (∀ cargs w, (callFunc g cargs).run P w = .ok (.enter g cargs) w) ∧
  ∀ (E : Env) (W : World) (cargs : List Value), RVs E args cargs → RH E h W → (∀ id ∈ newIds h outs, E id = none) →
    Calls P g cargs.toArray W fun e W' => ∃ cv E', e = .returned cv ∧ Ext E E' (newIds h outs) ∧ RV E' ret cv ∧ RH E' (applyO h outs) W' ∧ Mod E h W E' (applyO h outs) W'
theorem RH.frame {E E' : Env} {H H' h h' : Hp} {W W' : World} {nw : List Nat} (r : RH E H W) (hsub : ∀ id o, find h id = some o → find H id = some o) (hx : Ext E E' nw) (r' : RH E' h' W') (m : Mod E h W E' h' W')
    (hs : ∀ id o, find H' id = some o → find h' id = some o ∨ (find H id = some o ∧ find h id = none)) : RH E' H' W' ∧ Mod E H W E' H' W' := by
  have rest : ∀ id o, find H id = some o → find h id = none → Holds E W id o ∧ Holds E' W' id o ∧ (∀ b, Foot E' W' id o b → Foot E W id o b) ∧ (∀ b, Foot E W id o b → b < W.heap.size ∧ ∀ i p, find h i = some p → p.owned = true → ¬ Foot E W i p b) := fun id o h1 h2 => by
    have hh := r.holds id o h1
    obtain ⟨z, hz⟩ := hh.bound
    have hc : ∀ b, Foot E W id o b → b < W.heap.size ∧ ∀ i p, find h i = some p → p.owned = true → ¬ Foot E W i p b := fun b hb => by
      refine ⟨Holds.blk_lt hb hh, fun i p hi hp hib => ?_⟩
      have hne : i ≠ id := fun e => by rw [e, h2] at hi; cases hi
      exact r.apart i id p o (hsub i p hi) h1 hne hp b hib hb
    have hk : ∀ b, Foot E W id o b → W'.heap[b]? = W.heap[b]? := fun b hb => m.old b (hc b hb).1 (hc b hb).2
    exact ⟨hh, (hh.kept m.size hk).mono hx.1, fun b hb => Foot.kept m.size hk hh b (hb.cg (blkOf_ext hx.1 hz).symm), hc⟩
  have hown : ∀ id o b, find h' id = some o → Foot E' W' id o b → (∃ i p, find h i = some p ∧ (o.owned = true → p.owned = true) ∧ Foot E W i p b) ∨ W.heap.size ≤ b := m.own
  refine ⟨⟨fun id o ho => ?_, fun i j o p hi hj hne ho b hb hb2 => ?_⟩, ⟨m.os, m.tape, m.output, m.size, fun b hb hn => m.old b hb fun i p hi hp => hn i p (hsub i p hi) hp, fun id o b ho hb => ?_⟩⟩
  · rcases hs id o ho with h1 | ⟨h1, h2⟩
    · exact r'.holds id o h1
    · exact (rest id o h1 h2).2.1
  · rcases hs i o hi with h1 | ⟨h1, h2⟩
    · rcases hs j p hj with h3 | ⟨h3, h4⟩
      · exact r'.apart i j o p h1 h3 hne ho b hb hb2
      · obtain ⟨_, _, he, hc⟩ := rest j p h3 h4
        have hb2 := he b hb2
        obtain ⟨c1, c2⟩ := hc b hb2
        rcases hown i o b h1 hb with ⟨k, q, q1, q2, q3⟩ | q
        · exact c2 k q q1 (q2 ho) q3
        · omega
    · obtain ⟨_, _, he, hc⟩ := rest i o h1 h2
      have hb := he b hb
      obtain ⟨c1, _⟩ := hc b hb
      rcases hs j p hj with h3 | ⟨h3, h4⟩
      · rcases hown j p b h3 hb2 with ⟨k, q, q1, _, q3⟩ | q
        · have hki : i ≠ k := fun e => by rw [← e, h2] at q1; cases q1
          exact r.apart i k o q h1 (hsub k q q1) hki ho b hb q3
        · omega
      · obtain ⟨_, _, he2, _⟩ := rest j p h3 h4
        have hb2 := he2 b hb2
        exact r.apart i j o p h1 h3 hne ho b hb hb2
  · rcases hs id o ho with h1 | ⟨h1, h2⟩
    · exact (hown id o b h1 hb).imp_left fun ⟨k, q, q1, q2, q3⟩ => ⟨k, q, hsub k q q1, q2, q3⟩
    · obtain ⟨_, _, he, _⟩ := rest id o h1 h2
      exact .inl ⟨id, o, h1, fun h => h, he b hb⟩
def getAll : List Nat → (Hp → Ac AV) → Ac AV
  | [], k => k []
  | id :: l, k => .get id fun o => getAll l fun h => k ((id, o) :: h)
def putAll (h : Hp) : List (Nat × Option Ob) → AV → Ac AV
  | [], v => .ret v
  | (id, some o) :: l, v => match hasId h id with
    | true => .put id o (putAll (upd h id o) l v)
    | false => .new id o (putAll (upd h id o) l v)
  | (id, none) :: l, v => .del id (putAll (del h id) l v)
def ExtOK (P : Program) (g : FuncId) (args : List AV) (ret : AV) : Prop :=
  ∀ (E : Env) (W : World) (cargs : List Value), RVs E args cargs → ∃ cv, (callFunc g cargs.toArray).run P W = .ok (.value cv) W ∧ RV E ret cv
def YldOK (P : Program) (L : Nat) (args : List AV) (h : Hp) (ret : AV) (outs : List (Nat × Option Ob)) : Prop :=
  ∀ (E : Env) (W : World) (cargs : List Value) (a : Addr) (k : Nat), RVs E args cargs → RH E h W → (∀ id ∈ newIds h outs, E id = none) → E L = some (some a, k) →
    ∃ fn tmps as bd, (Instr.yield a.block cargs.toArray).run P W = .ok (.round a.block fn tmps as bd) W ∧
      ∀ n, RoundIn Fence.wide n P a.block fn tmps as bd W fun e W' => ∃ cv E', e = .returned cv ∧ Ext E E' (newIds h outs) ∧ RV E' ret cv ∧ RH E' (applyO h outs) W' ∧ Mod E h W E' (applyO h outs) W'
def goYld (P : Program) (hint : Hint) (L : Nat) (args : List AV) : Ac AV := match hint with
  | .call ids ret outs => getAll ids fun h => .need (YldOK P L args h ret outs) (putAll h outs ret)
  | _ => .fail
def goCall (P : Program) (hint : Hint) (g : FuncId) (args : List AV) : Ac AV := match hint with
  | .call ids ret outs => getAll ids fun h => .need (CallOK P g args h ret outs) (putAll h outs ret)
  | .ext ret => .need (ExtOK P g args ret) (.ret ret)
  | _ => .fail
def partO (P : Program) (t : TypeId) (cs : List AV) : Option AV := match tyAgg P t with
  | some true => match tySize P t with
    | some n => match lenGe cs n with
      | true => some (.agg (cs.take n))
      | false => none
    | none => none
  | some false => match cs with
    | v :: _ => some v
    | [] => none
  | none => none
theorem partO_ok {P : Program} {E : Env} {t : TypeId} {cs : List AV} {xs : List Value} {off : Nat} {z : AV} (hc : RVs E cs xs) (h : partO P t (cs.drop off) = some z) : ∃ y, RV E z y ∧ ∀ W, (part t xs.toArray off).run P W = .ok y W := by
  unfold partO at h
  cases hg : tyAgg P t with
  | none => rw [hg] at h; cases h
  | some b =>
    rw [hg] at h
    cases b with
    | true =>
      dsimp only at h
      cases hz : tySize P t with
      | none => rw [hz] at h; cases h
      | some q =>
        rw [hz] at h
        dsimp only at h
        cases hl : lenGe (cs.drop off) q with
        | false => rw [hl] at h; cases h
        | true =>
          rw [hl] at h
          simp only [Option.some.injEq] at h
          subst h
          refine ⟨.agg ((xs.drop off).take q).toArray, by simp only [RV]; exact ⟨_, rfl, (hc.drop off).take q⟩, fun W => ?_⟩
          have e : xs.toArray.extract off (off + q) = ((xs.drop off).take q).toArray := by
            apply Array.ext'
            simp [List.take_drop]
          simp only [part, Sem.run_bind, run_isAgg hg, run_size hz, Result.andThen_ok, if_true, Sem.run_pure, e]
    | false =>
      dsimp only at h
      cases hd : cs.drop off with
      | nil => rw [hd] at h; cases h
      | cons v l =>
        rw [hd] at h
        simp only [Option.some.injEq] at h
        subst h
        have hn : nth cs off = some v := by rw [nth_eq]; have := congrArg (fun l => l[0]?) hd; simpa using this
        obtain ⟨y, hy, hy2⟩ := hc.get off v hn
        refine ⟨y, hy2, fun W => ?_⟩
        have : xs.toArray[off]? = some y := by simpa using hy
        simp only [part, Sem.run_bind, run_isAgg hg, Result.andThen_ok, Bool.false_eq_true, if_false, this, Sem.run_pure]
def followA (P : Program) : List FieldStep → TypeId → AV → Option (TypeId × AV)
  | [], t, x => some (t, x)
  | s :: rest, _, x => match s.deref, fieldOf P s.struct s.index, x with
    | false, some f, .agg cs => match partO P f.type (cs.drop f.offset) with
      | some y => followA P rest f.type y
      | none => none
    | _, _, _ => none
theorem followA_ok {P : Program} {E : Env} : ∀ (l : List FieldStep) (t : TypeId) (x : AV) (c : Value) (t' : TypeId) (z : AV), followA P l t x = some (t', z) → RV E x c → ∃ y, RV E z y ∧ ∀ W, (follow l t (.val c)).run P W = .ok (t', .val y) W
  | [], t, x, c, t', z, h, hr => by
    simp only [followA, Option.some.injEq, Prod.mk.injEq] at h
    obtain ⟨rfl, rfl⟩ := h
    exact ⟨c, hr, fun W => by simp [follow]⟩
  | s :: rest, t, x, c, t', z, h, hr => by
    unfold followA at h
    split at h
    case h_2 => cases h
    rename_i f cs hd hf
    split at h
    case h_2 => cases h
    rename_i y hy
    obtain ⟨fs, hu, hfd⟩ := fieldOf_ok hf
    simp only [RV] at hr
    obtain ⟨xs, rfl, h1⟩ := hr
    obtain ⟨w, hw, hrun⟩ := partO_ok h1 hy
    obtain ⟨q, hq, hrun2⟩ := followA_ok rest f.type y w t' z h hw
    refine ⟨q, hq, fun W => ?_⟩
    simp only [follow, Sem.run_bind, run_underlying hu, Result.andThen_ok, hfd, hd, Bool.false_eq_true, if_false, hrun, hrun2]
def methA (P : Program) : Nat → TypeId → AV → String → Option (FuncId × AV)
  | 0, _, _, _ => none
  | n + 1, t, v, name => match P.info? t with
    | none => none
    | some i => match i.methods.find? (·.name == name) with
      | none => none
      | some m => match followA P m.path.toList t v with
        | none => none
        | some (xt, x) => match m.func with
          | none => match x with
            | .ifc t' v' => methA P n t' v' name
            | _ => none
          | some (f, ptr) => match P.underlying xt, ptr with
            | some (.pointer _), true => some (f, x)
            | some (.pointer _), false => none
            | some _, false => some (f, x)
            | _, _ => none
theorem methA_run {P : Program} {E : Env} : ∀ (n : Nat) (t : TypeId) (v : AV) (name : String) (f : FuncId) (rx : AV) (c : Value), methA P n t v name = some (f, rx) → RV E v c → ∃ rc, RV E rx rc ∧ ∀ m W, n ≤ m → (method m t c name).run P W = .ok (f, rc) W
  | 0, t, v, name, f, rx, c, h, hr => by cases h
  | n + 1, t, v, name, f, rx, c, h, hr => by
    unfold methA at h
    split at h
    case h_1 => cases h
    rename_i i hi
    split at h
    case h_1 => cases h
    rename_i ms hms
    split at h
    case h_1 => cases h
    rename_i xt x hfo
    obtain ⟨y, hy, hrun⟩ := followA_ok _ _ _ _ _ _ hfo hr
    split at h
    · rename_i hfn
      split at h
      case h_2 => cases h
      rename_i t' v'
      simp only [RV] at hy
      obtain ⟨w, rfl, hw⟩ := hy
      obtain ⟨rc, hrc, hrun2⟩ := methA_run n t' v' name f rx w h hw
      refine ⟨rc, hrc, fun m W hm => ?_⟩
      obtain ⟨m, rfl⟩ : ∃ k, m = k + 1 := ⟨m - 1, by omega⟩
      simp only [method, typeInfo, Sem.run_bind, run_program, Result.andThen_ok, hi, Sem.run_pure, hms, hrun, hfn, Place.get, hrun2 m W (by omega)]
    · rename_i f' ptr hfn
      have key : ∀ (d : TypeDesc), P.underlying xt = some d → ((∃ e, d = .pointer e) ∧ ptr = true ∨ (∀ e, d ≠ .pointer e) ∧ ptr = false) → (f', x) = (f, rx) → ∃ rc, RV E rx rc ∧ ∀ m W, n + 1 ≤ m → (method m t c name).run P W = .ok (f, rc) W := fun d hu hd he => by
        simp only [Prod.mk.injEq] at he
        obtain ⟨rfl, rfl⟩ := he
        refine ⟨y, hy, fun m W hm => ?_⟩
        obtain ⟨m, rfl⟩ : ∃ k, m = k + 1 := ⟨m - 1, by omega⟩
        simp only [method, typeInfo, Sem.run_bind, run_program, Result.andThen_ok, hi, Sem.run_pure, hms, hrun, hfn, receiverAt, run_underlying hu]
        rcases hd with ⟨⟨e, rfl⟩, rfl⟩ | ⟨hd, rfl⟩
        · simp [Place.get]
        · cases d <;> first | (simp [Place.get]; done) | exact absurd rfl (hd _)
      split at h
      · rename_i e hu
        exact key _ hu (.inl ⟨⟨e, rfl⟩, rfl⟩) (Option.some.inj h)
      · cases h
      · rename_i d hu hne
        exact key _ hne (.inr ⟨fun e he => hu e he, rfl⟩) (Option.some.inj h)
      · cases h
theorem followB_ok {P : Program} {E : Env} : ∀ (l : List FieldStep) (t : TypeId) (x : AV) (c : Value) (t' : TypeId) (z : AV), followA P l t x = some (t', z) → RV E x c → ∃ y, RV E z y ∧ ∀ W, (followBlind l t (some c)).run P W = .ok (.ok (t', some y)) W
  | [], t, x, c, t', z, h, hr => by
    simp only [followA, Option.some.injEq, Prod.mk.injEq] at h
    obtain ⟨rfl, rfl⟩ := h
    exact ⟨c, hr, fun W => by simp [followBlind]⟩
  | s :: rest, t, x, c, t', z, h, hr => by
    unfold followA at h
    split at h
    case h_2 => cases h
    rename_i f cs hd hf
    split at h
    case h_2 => cases h
    rename_i y hy
    obtain ⟨fs, hu, hfd⟩ := fieldOf_ok hf
    simp only [RV] at hr
    obtain ⟨xs, rfl, h1⟩ := hr
    obtain ⟨w, hw, hrun⟩ := partO_ok h1 hy
    obtain ⟨q, hq, hrun2⟩ := followB_ok rest f.type y w t' z h hw
    refine ⟨q, hq, fun W => ?_⟩
    simp only [followBlind, Sem.run_bind, run_underlying hu, Result.andThen_ok, hfd, hd, hrun, hrun2]
def nilA (P : Program) : Nat → TypeId → AV → String → Bool
  | 0, _, _, _ => false
  | n + 1, t, v, name => match P.info? t with
    | none => false
    | some i => match i.methods.find? (·.name == name) with
      | none => false
      | some m => match followA P m.path.toList t v with
        | none => false
        | some (xt, x) => match m.func with
          | none => match x with
            | .ifc t' v' => nilA P n t' v' name
            | _ => false
          | some (_, ptr) => match P.underlying xt, ptr with
            | _, true => true
            | some (.pointer _), false => false
            | some _, false => true
            | none, false => false
theorem nilA_run {P : Program} {E : Env} : ∀ (n : Nat) (t : TypeId) (v : AV) (name : String) (c : Value), nilA P n t v name = true → RV E v c → ∀ m W, n ≤ m → (nilAhead m t c name).run P W = .ok (some false) W
  | 0, t, v, name, c, h, hr => by cases h
  | n + 1, t, v, name, c, h, hr => by
    unfold nilA at h
    split at h
    case h_1 => cases h
    rename_i i hi
    split at h
    case h_1 => cases h
    rename_i ms hms
    split at h
    case h_1 => cases h
    rename_i xt x hfo
    obtain ⟨y, hy, hrun⟩ := followB_ok _ _ _ _ _ _ hfo hr
    intro m W hm
    obtain ⟨m, rfl⟩ : ∃ k, m = k + 1 := ⟨m - 1, by omega⟩
    split at h
    · rename_i hfn
      split at h
      case h_2 => cases h
      rename_i t' v'
      simp only [RV] at hy
      obtain ⟨w, rfl, hw⟩ := hy
      have := nilA_run n t' v' name w h hw m W (by omega)
      simp only [nilAhead, typeInfo, Sem.run_bind, run_program, Result.andThen_ok, hi, Sem.run_pure, hms, hrun, hfn, this]
    · rename_i f' ptr hfn
      split at h
      · simp only [nilAhead, typeInfo, Sem.run_bind, run_program, Result.andThen_ok, hi, Sem.run_pure, hms, hrun, hfn]
      · cases h
      · rename_i d hne hu
        simp only [nilAhead, typeInfo, Sem.run_bind, run_program, Result.andThen_ok, hi, Sem.run_pure, hms, hrun, hfn, run_underlying hu]
        cases d <;> first | rfl | (simp; done) | exact absurd rfl (hne _)
      · cases h
def MethOK (P : Program) (name : String) (recv : AV) (f : FuncId) (rx : AV) : Prop :=
  ∀ (E : Env) (c : Value), RV E recv c → ∃ t v rc, c = .iface t v ∧ RV E rx rc ∧ ∀ W, (method (P.types.size + Made.depth) t v name).run P W = .ok (f, rc) W
theorem MethOK.of {P : Program} {name : String} {t : TypeId} {v : AV} {f : FuncId} {rx : AV} (h : methA P 50 t v name = some (f, rx)) : MethOK P name (.ifc t v) f rx := fun E c hr => by
  simp only [RV] at hr
  obtain ⟨x, rfl, hx⟩ := hr
  obtain ⟨rc, h1, h2⟩ := methA_run 50 t v name f rx x h hx
  exact ⟨t, x, rc, rfl, h1, fun W => h2 _ W (by unfold Made.depth; omega)⟩
def goInv (P : Program) (h : Hint) (recv : AV) (name : String) (args : List AV) : Ac AV := match h with
  | .inv f rx ids ret outs => .need (MethOK P name recv f rx) (goCall P (.call ids ret outs) f (rx :: args))
  | _ => .fail
theorem putAll_out : ∀ (outs : List (Nat × Option Ob)) (h : Hp) (v : AV) (s : St) (out : Out AV), (putAll h outs v).run s = some out → out.a = v ∧ out.ob = [] ∧ out.s.slots = s.slots ∧
    (∀ x, x ∉ outs.map (·.1) → find out.s.heap x = find s.heap x ∧ find (applyO h outs) x = find h x) ∧ (∀ x, x ∈ outs.map (·.1) → find out.s.heap x = find (applyO h outs) x)
  | [], h, v, s, out, ho => by
    simp only [putAll, Ac.run, Option.some.injEq] at ho
    subst ho
    exact ⟨rfl, rfl, rfl, fun x _ => ⟨rfl, rfl⟩, fun x hx => by cases hx⟩
  | (id, some o) :: l, h, v, s, out, ho => by
    have key : ∀ q, (putAll (upd h id o) l v).run ⟨s.slots, upd s.heap id o⟩ = some q → q.a = v ∧ q.ob = [] ∧ q.s.slots = s.slots ∧ (∀ x, x ∉ ((id, some o) :: l).map (·.1) → find q.s.heap x = find s.heap x ∧ find (applyO h ((id, some o) :: l)) x = find h x) ∧ (∀ x, x ∈ ((id, some o) :: l).map (·.1) → find q.s.heap x = find (applyO h ((id, some o) :: l)) x) := fun q hq => by
      obtain ⟨h1, h2, h3, h4, h5⟩ := putAll_out l (upd h id o) v _ q hq
      refine ⟨h1, h2, h3, fun x hx => ?_, fun x hx => ?_⟩
      · simp only [List.map_cons, List.mem_cons, not_or] at hx
        obtain ⟨e1, e2⟩ := h4 x hx.2
        simp only [find_upd, if_neg (show ¬ id = x from fun e => hx.1 e.symm)] at e1 e2
        exact ⟨e1, e2⟩
      · by_cases hl : x ∈ l.map (·.1)
        · exact h5 x hl
        · obtain ⟨e1, e2⟩ := h4 x hl
          have : x = id := by simpa [hl] using hx
          subst this
          simp only [find_upd, if_true] at e1 e2
          rw [e1]; exact e2.symm
    unfold putAll at ho
    split at ho
    · simp only [Ac.run] at ho
      split at ho
      · cases ho
      · split at ho
        · cases ho
        · rename_i q hq
          simp only [Option.some.injEq] at ho
          subst ho
          exact key q hq
    · simp only [Ac.run] at ho
      split at ho
      · cases ho
      · split at ho
        · cases ho
        · rename_i q hq
          simp only [Option.some.injEq] at ho
          subst ho
          exact key q hq
  | (id, none) :: l, h, v, s, out, ho => by
    unfold putAll at ho
    simp only [Ac.run] at ho
    split at ho
    · cases ho
    · rename_i q hq
      simp only [Option.some.injEq] at ho
      subst ho
      obtain ⟨h1, h2, h3, h4, h5⟩ := putAll_out l (del h id) v _ q hq
      refine ⟨h1, h2, h3, fun x hx => ?_, fun x hx => ?_⟩
      · simp only [List.map_cons, List.mem_cons, not_or] at hx
        obtain ⟨e1, e2⟩ := h4 x hx.2
        simp only [find_del, if_neg (show ¬ id = x from fun e => hx.1 e.symm)] at e1 e2
        exact ⟨e1, e2⟩
      · by_cases hl : x ∈ l.map (·.1)
        · exact h5 x hl
        · obtain ⟨e1, e2⟩ := h4 x hl
          have : x = id := by simpa [hl] using hx
          subst this
          simp only [find_del, if_true] at e1 e2
          rw [e1]; exact e2.symm
theorem putAll_nw : ∀ (outs : List (Nat × Option Ob)) (h : Hp) (v : AV) (s : St) (out : Out AV), (putAll h outs v).run s = some out → out.nw = newIds h outs
  | [], h, v, s, out, ho => by
    simp only [putAll, Ac.run, Option.some.injEq] at ho
    subst ho
    rfl
  | (id, some o) :: l, h, v, s, out, ho => by
    unfold putAll at ho
    unfold newIds
    split at ho
    · simp only [Ac.run] at ho
      split at ho
      · cases ho
      · split at ho
        · cases ho
        · rename_i q hq
          simp only [Option.some.injEq] at ho
          subst ho
          exact putAll_nw l _ v _ q hq
    · simp only [Ac.run] at ho
      split at ho
      · cases ho
      · split at ho
        · cases ho
        · rename_i q hq
          simp only [Option.some.injEq] at ho
          subst ho
          simp only [putAll_nw l _ v _ q hq]
  | (id, none) :: l, h, v, s, out, ho => by
    unfold putAll at ho
    unfold newIds
    simp only [Ac.run] at ho
    split at ho
    · cases ho
    · rename_i q hq
      simp only [Option.some.injEq] at ho
      subst ho
      exact putAll_nw l _ v _ q hq
section
variable {P : Program} {E : Env} {s : St} {W : World}
def WQ (P : Program) (o : Oper) (a : Act) (W : World) (K : Act → World → Prop) (Q : Exit → Act → World → Prop) : Prop := ∀ rnd : Option Nat, o.uponIn (Fw rnd) 0 P a K Q ((execOp a.eval o).run P W)
def OpSem (P : Program) (o : Oper) (a : Act) (E : Env) (s : St) (W : World) (c : Ac AV) : Prop :=
  ∀ out, c.run s = some out → AllP out.ob → (∀ id ∈ out.nw, E id = none) → ∀ (K : Act → World → Prop) (Q : Exit → Act → World → Prop),
    (∀ E' W' cv, Ext E E' out.nw → RV E' out.a cv → RH E' out.s.heap W' → Mod E s.heap W E' out.s.heap W' → out.s.slots = s.slots → K (a.put o.dst cv) W') → WQ P o a W K Q
theorem OpSem.slot {o : Oper} {a : Act} {t : Nat} {k : AV → Ac AV} (h : ∀ v, nth s.slots t = some v → OpSem P o a E s W (k v)) : OpSem P o a E s W (.slot t k) := fun out ho hp hn K Q hK => by
  simp only [Ac.run] at ho
  split at ho
  · cases ho
  · rename_i v hv
    split at ho
    · cases ho
    · rename_i q hq
      simp only [Option.some.injEq] at ho
      subst ho
      exact h v hv q hq hp hn K Q hK
theorem OpSem.get {o : Oper} {a : Act} {id : Nat} {k : Ob → Ac AV} (h : ∀ v, find s.heap id = some v → OpSem P o a E s W (k v)) : OpSem P o a E s W (.get id k) := fun out ho hp hn K Q hK => by
  simp only [Ac.run] at ho
  split at ho
  · cases ho
  · rename_i v hv
    split at ho
    · cases ho
    · rename_i q hq
      simp only [Option.some.injEq] at ho
      subst ho
      exact h v hv q hq hp hn K Q hK
theorem OpSem.fail {o : Oper} {a : Act} : OpSem P o a E s W .fail := fun out h => by simp [Ac.run] at h
theorem OpSem.of {o : Oper} {a : Act} {sem : Sem Value} {c : Ac AV} (h : SemAt P E s W sem c) (he : ∀ cv W', sem.run P W = .ok cv W' → (execOp a.eval o).run P W = .ok (.value cv) W' ∨ (cv = undef ∧ (execOp a.eval o).run P W = .ok .skip W')) : OpSem P o a E s W c := fun out ho hp hn K Q hK => by
  obtain ⟨hs, cv, W', E', hr, hx, hv, hh, hm⟩ := h out ho hp hn
  intro rnd
  rcases he cv W' hr with e | ⟨rfl, e⟩
  · rw [e]; exact hK E' W' cv hx hv hh hm hs
  · rw [e]; exact hK E' W' undef hx hv hh hm hs
def ofV : Value → AV
  | .agg cs => .agg (cs.toList.map .val)
  | .func f a b => .fn f (a.toList.map .val) (b.toList.map .val)
  | v => .val v
theorem ofV_ok (E : Env) (v : Value) : RV E (ofV v) v := by
  cases v <;> simp only [ofV, RV]
  case agg cs => exact ⟨cs.toList, rfl, RVs.vals _⟩
  case func f a b => exact ⟨a.toList, b.toList, rfl, RVs.vals _, RVs.vals _⟩
def ev : Operand → Ac AV
  | .tmp t => .slot t .ret
  | .const v => .ret (ofV v)
  | .func f => .ret (.fn (.func f) [] [])
  | .global _ => .fail
def evL : List Operand → (List AV → Ac AV) → Ac AV
  | [], k => k []
  | x :: l, k => (ev x).bind fun v => evL l fun vs => k (v :: vs)
def evP : List (Nat × Operand) → (List (Nat × AV) → Ac AV) → Ac AV
  | [], k => k []
  | (i, x) :: l, k => (ev x).bind fun v => evP l fun vs => k ((i, v) :: vs)
def evO : Option Operand → (Option AV → Ac AV) → Ac AV
  | none, k => k none
  | some x, k => (ev x).bind fun v => k (some v)
theorem ev_ok {D : List Deferred} {a : Act} (r : Rel D E s W a) (o : Oper) (x : Operand) (k : AV → Ac AV) (h : ∀ v, RV E v (a.eval x) → OpSem P o a E s W (k v)) : OpSem P o a E s W ((ev x).bind k) := by
  cases x with
  | tmp t =>
    refine OpSem.slot fun v hv => ?_
    obtain ⟨c, hc, hv2⟩ := r.sl t v hv
    refine h v ?_
    have : a.eval (.tmp t) = c := by
      show a.tmps.getD t undef = c
      rw [Array.getD_eq_getD_getElem?, hc]; rfl
    rw [this]; exact hv2
  | const v => exact h _ (ofV_ok E v)
  | func f => exact h _ (by simp only [RV]; exact ⟨[], [], rfl, by simp [RVs], by simp [RVs]⟩)
  | global g => exact OpSem.fail
theorem evL_ok {D : List Deferred} {a : Act} (r : Rel D E s W a) (o : Oper) : ∀ (l : List Operand) (k : List AV → Ac AV), (∀ vs, RVs E vs (l.map a.eval) → OpSem P o a E s W (k vs)) → OpSem P o a E s W (evL l k)
  | [], k, h => h [] (by simp [RVs])
  | x :: l, k, h => ev_ok r o x _ fun v hv => evL_ok r o l _ fun vs hvs => h (v :: vs) (by simp only [List.map_cons, RVs]; exact ⟨_, _, rfl, hv, hvs⟩)
theorem evP_ok {D : List Deferred} {a : Act} (r : Rel D E s W a) (o : Oper) : ∀ (l : List (Nat × Operand)) (k : List (Nat × AV) → Ac AV), (∀ vs, RPs E vs (l.map fun (i, x) => (i, a.eval x)) → OpSem P o a E s W (k vs)) → OpSem P o a E s W (evP l k)
  | [], k, h => h [] (by simp [RPs])
  | (i, x) :: l, k, h => ev_ok r o x _ fun v hv => evP_ok r o l _ fun vs hvs => h ((i, v) :: vs) (by simp only [List.map_cons, RPs]; exact ⟨_, _, rfl, hv, hvs⟩)
theorem evO_ok {D : List Deferred} {a : Act} (r : Rel D E s W a) (o : Oper) (x : Option Operand) (k : Option AV → Ac AV) (h : ∀ v, ((v = none ∧ x.map a.eval = none) ∨ ∃ y w, v = some y ∧ x.map a.eval = some w ∧ RV E y w) → OpSem P o a E s W (k v)) : OpSem P o a E s W (evO x k) := by
  cases x with
  | none => exact h none (.inl ⟨rfl, rfl⟩)
  | some x => exact ev_ok r o x _ fun v hv => h (some v) (.inr ⟨v, _, rfl, rfl, hv⟩)
theorem getAll_ok {o : Oper} {a : Act} : ∀ (l : List Nat) (k : Hp → Ac AV), (∀ h, (∀ id ob, find h id = some ob → find s.heap id = some ob) → OpSem P o a E s W (k h)) → OpSem P o a E s W (getAll l k)
  | [], k, h => h [] (fun id ob e => by simp [find] at e)
  | id :: l, k, h => OpSem.get fun ob hob => getAll_ok l _ fun hp hsub => h ((id, ob) :: hp) fun x y e => by
    unfold find at e
    by_cases hx : id = x
    · subst hx; simp at e; rw [← e]; exact hob
    · simp [hx] at e; exact hsub x y e
end
end Go.Proofs.Ytbgbjgedjmhcaaa
namespace Go.Proofs.Ytbgbjgedjmhcaaa.AZ
open Go.Lib
section
variable {P : Program} (w : World)
theorem room_z (t tn ty e : TypeId) (i : TypeInfo) (z : Value) (k kn : IntKind) (ht : P.underlying t = some (.slice e)) (htn : P.underlying tn = some (.int kn)) (hi : P.info? e = some i) (hz : i.zero = some z)
    (g sLen sCap n : Nat) (cur : Array Value) (hg : w.heap[g]? = some (.cells cur e (0, 0))) (h0 : 0 < n) (hs : 0 < i.size) (h63 : (n : Int) ≤ 9223372036854775807) (h48 : n * i.bytes ≤ 281474976710656)
    (hl : (Builtin.zeroCells z.cells n).toList.length = n * i.size) (h1 : ∀ u ∈ (Builtin.zeroCells z.cells n).toList, u.oneCell' = true)
    (hroom : sLen + n ≤ sCap) (hfit : sLen * i.size + (Builtin.zeroCells z.cells n).toList.length ≤ cur.size) :
    (Builtin.append_ #[t, tn] ty #[.slice (some ⟨g, 0, none⟩) sLen sCap, .int k n]).run P w =
      .ok (.slice (some ⟨g, 0, none⟩) (sLen + n) sCap) (w.setRow g (cur.toList.take (sLen * i.size) ++ (Builtin.zeroCells z.cells n).toList ++ cur.toList.drop (sLen * i.size + (Builtin.zeroCells z.cells n).toList.length)).toArray) := by
  have hst := run_storeCells_at P g (sLen * i.size) e (Builtin.zeroCells z.cells n).toList 0 cur w hg (by simpa using hfit) h1
  simp only [Nat.add_zero] at hst
  have hn : n ≠ 0 := by omega
  have hw : IntKind.i64.wrap (n : Int) = n := by rw [IntKind.wrap_i64]; omega
  have h48i : ¬ (281474976710656 < (n : Int) * (i.bytes : Int)) := by
    rw [← Int.natCast_mul]
    omega
  have hneg : ¬ ((n : Int) < 0) := by omega
  have hns : ¬ (n * i.size = 0) := Nat.mul_ne_zero hn (by omega)
  generalize hZ : Builtin.zeroCells z.cells n = Z at *
  simp [Builtin.append_, run_underlying ht, run_underlying htn, sizeOf, typeInfo, zeroValue, hi, hz, asInt, asIntOf, hw, hn, hneg, hns, h48i, hroom, hZ, Addr.add_lit, hst]
theorem grow_z (t tn ty e : TypeId) (i : TypeInfo) (z : Value) (k kn : IntKind) (ht : P.underlying t = some (.slice e)) (htn : P.underlying tn = some (.int kn)) (hi : P.info? e = some i) (hz : i.zero = some z)
    (b : Addr) (sLen sCap : Nat) (olds : List Value) (hlo : olds.length = sLen * i.size) (holds : ∀ j v, olds[j]? = some v → w.cell? (b.add j) = some v) (n : Nat) (h0 : 0 < n) (hs : 0 < i.size) (h48 : n * i.bytes ≤ 281474976710656)
    (hg : sCap < sLen + n) (h63 : ((sLen + n : Nat) : Int) ≤ 9223372036854775807) (hfit : Builtin.nextslicecap (sLen + n) sCap * i.bytes ≤ 281474976710656) :
    (Builtin.append_ #[t, tn] ty #[.slice (some b) sLen sCap, .int k n]).run P w =
      .ok (.slice (some ⟨w.heap.size, 0, none⟩) (sLen + n) (grownCap w (sLen + n) sCap e))
        (w.drew.alloc (.cells (olds.toArray ++ Builtin.zeroCells z.cells n ++ Builtin.zeroCells z.cells (grownCap w (sLen + n) sCap e - (sLen + n))) e)) := by
  have hn2 : ¬ (sLen + n ≤ sCap) := by omega
  have h63' : ¬ (9223372036854775807 < ((sLen : Int) + (n : Int))) := by omega
  have h48' : ¬ (281474976710656 < Builtin.nextslicecap (sLen + n) sCap * i.bytes) := by omega
  have hfo := run_firstCells_some (P := P) w.drew i.size sLen b sLen sCap olds hlo (by simpa using holds)
  have hn : n ≠ 0 := by omega
  have hw : IntKind.i64.wrap (n : Int) = n := by rw [IntKind.wrap_i64]; omega
  have h48i : ¬ (281474976710656 < (n : Int) * (i.bytes : Int)) := by
    rw [← Int.natCast_mul]
    omega
  have hneg : ¬ ((n : Int) < 0) := by omega
  have hns : ¬ (n * i.size = 0) := Nat.mul_ne_zero hn (by omega)
  simp [Builtin.append_, run_underlying ht, run_underlying htn, sizeOf, typeInfo, zeroValue, hi, hz, asInt, asIntOf, hw, hn, hneg, hns, hn2, h63', h48', h48i, Question.forced, hfo, newRow, grownCap]
theorem own_z (base : Nat) (t tn ty e : TypeId) (i : TypeInfo) (z : Value) (size bytes : Nat) (k kn : IntKind) (ht : P.underlying t = some (.slice e)) (htn : P.underlying tn = some (.int kn)) (hi : P.info? e = some i) (hz : i.zero = some z)
    (hsize : i.size = size) (hby : i.bytes = bytes) (hzs : z.cells.size = size) (hsz : 0 < size)
    (v : Value) (n : Nat) (xs : List Value) (hown : w.ownsRow base e size v n xs) (m : Nat) (h0 : 0 < m) (h1 : ∀ u ∈ (Builtin.zeroCells z.cells m).toList, u.oneCell' = true)
    (h63 : n + m ≤ maxLen) (hbytes : (n + m) * bytes ≤ 140737488355328) (hbase : base ≤ w.heap.size) :
    ∃ v' w', (Builtin.append_ #[t, tn] ty #[v, .int k m]).run P w = .ok v' w' ∧ w'.ownsRow base e size v' (n + m) (xs ++ (Builtin.zeroCells z.cells m).toList) ∧ w.grownBy w' v.ownBlock ∧
      (v'.ownBlock = v.ownBlock ∨ v'.ownBlock = some w.heap.size) := by
  subst hsize
  subst hby
  have hl : (Builtin.zeroCells z.cells m).toList.length = m * i.size := by rw [Array.length_toList, size_zeroCells, hzs]
  obtain ⟨news, hnw⟩ : ∃ news, news = (Builtin.zeroCells z.cells m).toList := ⟨_, rfl⟩
  have hlz := hl
  have h1z := h1
  rw [← hnw] at hl h1 ⊢
  have hna : news.toArray = Builtin.zeroCells z.cells m := by rw [hnw, Array.toArray_toList]
  have hsmall : n + m ≤ 9223372036854775807 := by simp only [maxLen] at h63; omega
  have hlen : (xs ++ news).length = (n + m) * i.size := by rw [List.length_append, hown.1, hl, Nat.add_mul]
  have grown : ∀ (old : Nat), old < n + m → ∀ (row : Option Nat),
      (w.drew.alloc (.cells (xs.toArray ++ news.toArray ++ Builtin.zeroCells z.cells (grownCap w (n + m) old e - (n + m))) e)).ownsRow base e i.size
        (.slice (some ⟨w.heap.size, 0, none⟩) (n + m) (grownCap w (n + m) old e)) (n + m) (xs ++ news) ∧
      w.grownBy (w.drew.alloc (.cells (xs.toArray ++ news.toArray ++ Builtin.zeroCells z.cells (grownCap w (n + m) old e - (n + m))) e)) row := by
    intro old ho row
    have hge := grownCap_ge w (n + m) old e
    have hcm : grownCap w (n + m) old e ≤ maxLen := grownCap_le_maxLen w (n + m) old e h63
    refine ⟨⟨hlen, .inr ⟨w.heap.size, _, _, rfl, hbase, heap_alloc_new w.drew _, hge, hcm, ?_, ?_⟩⟩, ⟨rfl, rfl, rfl, by simp, fun k hk _ => _root_.Go.heap_alloc_old w.drew _ hk⟩⟩
    · simp only [Array.size_append, List.size_toArray, size_zeroCells, hzs, hown.1, hl, ← Nat.add_mul]
      congr 1
      omega
    · simp only [Array.toList_append, List.append_assoc]
      rw [← List.append_assoc, ← hlen]
      exact List.take_left
  rcases hown.2 with ⟨rfl, rfl⟩ | ⟨g, cap, cur, rfl, hbg, hg, hnc, hcm, hcs, htake⟩
  · have hx : xs = [] := List.eq_nil_of_length_eq_zero (by simpa using hown.1)
    subst hx
    have hr := run_append_nil_zeros (P := P) w t tn ty e i z k kn ht htn hi hz m h0 hsz (by omega) (by have hb := hbytes; simp only [Nat.zero_add] at hb; omega)
    have hgr := grown 0 (by omega) (Value.ownBlock (.slice none 0 0))
    simp only [Nat.zero_add, List.nil_append, Array.empty_append] at hgr ⊢
    refine ⟨_, _, hr, ?_, ?_, Or.inr rfl⟩
    · have := hgr.1; rw [hna] at this; exact this
    · have := hgr.2; rw [hna] at this; exact this
  · by_cases hroom : n + m ≤ cap
    · have hfit : n * i.size + news.length ≤ cur.size := by rw [hl, hcs, ← Nat.add_mul]; exact Nat.mul_le_mul_right _ hroom
      have hr := room_z (P := P) w t tn ty e i z k kn ht htn hi hz g n cap m cur hg h0 hsz (by omega) (by have hb := hbytes; rw [Nat.add_mul] at hb; omega) hlz h1z hroom (by rw [← hnw]; exact hfit)
      rw [← hnw] at hr
      refine ⟨_, _, hr, ⟨hlen, .inr ⟨g, cap, _, rfl, hbg, setRow_heap w g cur _ e _ hg, hroom, hcm, ?_, ?_⟩⟩, ⟨rfl, rfl, rfl, by simp, fun k _ hk => setRow_other w g k _ (fun e => hk (by simp [Value.ownBlock, e]))⟩, Or.inl rfl⟩
      · simp only [List.size_toArray, List.length_append, List.length_take, List.length_drop, Array.length_toList]
        omega
      · rw [htake, ← hlen]
        exact List.take_left
    · have holds : ∀ j u, xs[j]? = some u → w.cell? ((⟨g, 0, none⟩ : Addr).add j) = some u := hown.cells (g := g) rfl
      have hr := grow_z (P := P) w t tn ty e i z k kn ht htn hi hz ⟨g, 0, none⟩ n cap xs hown.1 holds m h0 hsz (by have hb := hbytes; rw [Nat.add_mul] at hb; omega) (by omega) (by omega) (growslice_fits (by omega) hbytes)
      have hgr := grown cap (by omega) (Value.ownBlock (.slice (some ⟨g, 0, none⟩) n cap))
      rw [hna] at hgr
      exact ⟨_, _, hr, hgr.1, hgr.2, Or.inr rfl⟩
end
end Go.Proofs.Ytbgbjgedjmhcaaa.AZ
namespace Go.Proofs.Ytbgbjgedjmhcaaa
open Go.RowKit
section
variable {P : Program} {E : Env} {s : St} {W : World} {sem : Sem Value}
def appZA (P : Program) (nm : Nat) (t tn : TypeId) (x y : AV) : Ac AV := match P.underlying t, P.underlying tn with
  | some (.slice e), some (.int _) => match infoOK P e, zeroA P e with
    | some 1, some [.val z0] => match x, y, one1 (.val z0) with
      | .sl id 0 1 n none, .val (.int _ m), true => .get id fun o => match o with
        | .vec e' 1 n' row => match e' == e with
          | true => .need (n' = n ∧ 0 < n ∧ 0 < m ∧ n + m.toNat ≤ 1099511627776) (.del id (.new nm (.vec e 1 (addN n m.toNat) (catR n row (fun _ => [.val z0]))) (.ret (.sl nm 0 1 (addN n m.toNat) none))))
          | false => .fail
        | _ => .fail
      | _, _, _ => .fail
    | _, _ => .fail
  | _, _ => .fail
theorem zero_list (z : Value) (z0 : Value) (h : z.cells.toList = [z0]) (m : Nat) : (Builtin.zeroCells z.cells m).toList = List.replicate m z0 := by
  have hs : z.cells.size = 1 := by rw [← Array.length_toList, h]; rfl
  have h0 : z.cells[0]! = z0 := by
    rw [getElem!_pos z.cells 0 (by omega)]
    have : z.cells.toList[0]'(by rw [h]; simp) = z0 := by simp [h]
    simpa using this
  refine List.ext_getElem (by simp [Builtin.zeroCells, hs]) fun j h1 h2 => ?_
  have h00 := h0
  rw [getElem!_pos z.cells 0 (by omega)] at h00
  simp [Builtin.zeroCells, hs, Nat.mod_one, h00]
theorem appz_ok (r : RH E s.heap W) (nm : Nat) (t tn ty : TypeId) {x y : AV} {cx cy : Value} (hx : RV E x cx) (hy : RV E y cy) : SemAt P E s W (Builtin.append_ #[t, tn] ty #[cx, cy]) (appZA P nm t tn x y) := by
  unfold appZA
  split
  case h_2 => exact SemAt.fail
  rename_i e kn ht htn
  split
  case h_2 => exact SemAt.fail
  rename_i z0 hi hz0
  split
  case h_2 => exact SemAt.fail
  rename_i id n kk m h1z
  simp only [RV] at hy
  subst hy
  refine SemAt.get fun o ho => ?_
  split
  case h_2 => exact SemAt.fail
  rename_i e' n' row
  split
  case h_2 => exact SemAt.fail
  rename_i hee
  have hee' : e' = e := by simpa using hee
  subst hee'
  refine SemAt.need fun ⟨hn', hnp, hmp, hb⟩ => ?_
  subst hn'
  obtain ⟨i, z, hi1, hz, hsz, hby, hzc, hpos⟩ := infoOK_ok hi
  obtain ⟨i', z', hi1', hz', hzz⟩ := zeroA_ok hz0
  rw [hi1] at hi1'
  obtain rfl := Option.some.inj hi1'
  rw [hz] at hz'
  obtain rfl := Option.some.inj hz'
  have hzl : z.cells.toList = [z0] := by
    match hq : z.cells.toList, hzz with
    | [c], hzz =>
      simp only [List.map_cons, List.map_nil, List.cons.injEq, AV.val.injEq, and_true] at hzz
      rw [hzz]
    | [], hzz => simp at hzz
    | _ :: _ :: _, hzz => simp at hzz
  obtain ⟨news, hnews⟩ : ∃ news, news = List.replicate m.toNat z0 := ⟨_, rfl⟩
  have hzn := zero_list z z0 hzl m.toNat
  rw [← hnews] at hzn
  have hone0 : ∀ u ∈ news, u.oneCell' = true := fun u hu => by
    rw [hnews] at hu
    obtain rfl := (List.mem_replicate.1 hu).2
    exact one1_ok (E := E) h1z (by simp [RV])
  have hrows : ∀ E' : Env, ∀ q, q < m.toNat → RVs E' [.val z0] (cellsAt news 1 q) := fun E' q hq => by
    unfold cellsAt
    rw [hnews, Nat.mul_one, List.drop_replicate, List.take_replicate, Nat.min_eq_left (by omega)]
    simp [RVs, RV]
  have hmm0 : (m.toNat : Int) = m := by omega
  intro out hout _ hnw
  simp only [Ac.run] at hout
  split at hout
  · cases hout
  rename_i q hq
  split at hq
  · cases hq
  rename_i hf
  simp only [Option.some.injEq] at hq
  subst hq
  simp only [Option.some.injEq] at hout
  subst hout
  have hne := hnw nm (by simp)
  obtain ⟨b, k, xs, h1, h2, h3, h4⟩ := r.holds id _ ho
  simp only [RV] at hx
  obtain ⟨b2, k2, h5, h6⟩ := hx
  rw [h1] at h5
  simp only [Option.some.injEq, Prod.mk.injEq] at h5
  obtain ⟨rfl, rfl⟩ := h5
  have hnd : nm ≠ id := fun e => by rw [e, h1] at hne; cases hne
  have hrest : ∀ (o' : Ob), ∀ x, x ≠ nm → ∀ y, find (upd (del s.heap id) nm o') x = some y → find s.heap x = some y := fun o' x hx y hy => by
    rw [find_upd, if_neg (fun e => hx e.symm), find_del] at hy
    split at hy
    · cases hy
    · exact hy
  have hgone : ∀ (o' : Ob), find (upd (del s.heap id) nm o') id = none := fun o' => by
    rw [find_upd, if_neg hnd, find_del]; simp
  have hlen := h2.1
  have fin : ∀ (v' : Value) (W' : World) (xx : Option Addr × Nat) (rw' : Option Nat) (g : W.grownBy W' rw'), (rw' = none ∨ rw' = blkOf E id) → (∀ b, baseBlk xx = some b → rw' = some b ∨ W.heap.size ≤ b) → (Builtin.append_ #[t, tn] ty #[cx, .int kk m]).run P W = .ok v' W' →
      (∀ E' : Env, (∀ i x, E i = some x → E' i = some x) → E' nm = some xx → Holds E' W' nm (.vec e' 1 (addN n' m.toNat) (catR n' row (fun _ => [.val z0]))) ∧ RV E' (.sl nm 0 1 (addN n' m.toNat) none) v') →
      s.slots = s.slots ∧ ∃ cv W' E', (Builtin.append_ #[t, tn] ty #[cx, .int kk m]).run P W = .ok cv W' ∧ Ext E E' [nm] ∧ RV E' (.sl nm 0 1 (addN n' m.toNat) none) cv ∧ RH E' (upd (del s.heap id) nm (.vec e' 1 (addN n' m.toNat) (catR n' row (fun _ => [.val z0])))) W' ∧ Mod E s.heap W E' (upd (del s.heap id) nm (.vec e' 1 (addN n' m.toNat) (catR n' row (fun _ => [.val z0])))) W' := by
    intro v' W' xx rw' g hrw hxx hr hh
    have hxt := nw_set E nm xx hne
    obtain ⟨g1, g2⟩ := hh _ hxt.1 (by simp)
    obtain ⟨q1, q2⟩ := RH.change (h' := upd (del s.heap id) nm (.vec e' 1 (addN n' m.toNat) (catR n' row (fun _ => [.val z0])))) r hxt g (fun b hb => by
      rcases hrw with e | e
      · rw [e] at hb; cases hb
      · exact ⟨id, _, ho, rfl, by show blkOf E id = some b; rw [← e]; exact hb, .inr (hgone _)⟩) (by rw [find_upd]; simp) (hrest _) g1 (fun b hb => hxx b (by
      simp only [Foot, Ob.bx, FootB, blkOf, if_pos] at hb
      obtain ⟨q1, q2⟩ := xx
      cases q1 <;> exact hb))
    exact ⟨rfl, v', W', _, hr, hxt, g2, q1, q2⟩
  have hrow : ∀ E' : Env, (∀ i x, E i = some x → E' i = some x) → RowsOK E' 1 (addN n' m.toNat) (catR n' row (fun _ => [.val z0])) (xs ++ news) := fun E' he q hq => by
    rw [catR_at, cells_cat xs news 1 n' q hlen]
    rw [addN_eq] at hq
    by_cases e : q < n'
    · rw [if_pos e, if_pos e]; exact (h4.mono he) q e
    · rw [if_neg e, if_neg e]; exact (hrows E') _ (by omega)
  have hone : ∀ u ∈ xs ++ news, u.oneCell' = true := fun u hu => (List.mem_append.1 hu).elim (h3 u) (hone0 u)
  cases b with
  | none =>
    obtain ⟨b', _, h0, _⟩ := h6
    omega
  | some a =>
    obtain ⟨o', mm, rfl, g1, g2, g3, g4⟩ := h6
    have hmm : mm = k := by simpa using g4
    subst hmm
    have hform : a.off = 0 ∧ a.spot = none ∧ (n' = 0 ∨ True) := by
      rcases h2.2 with ⟨hv, _⟩ | ⟨g, cap, cur, hv, _⟩
      · simp at hv
      · simp only [Value.slice.injEq, Option.some.injEq] at hv; rw [hv.1]; exact ⟨rfl, rfl, .inr trivial⟩
    have hcx : Value.slice (some ⟨a.block, o', none⟩) n' mm = .slice (some a) n' mm := by
      have := g3 (by omega)
      rw [this, hform.1]
      obtain ⟨ab, ao, asp⟩ := a
      simp only at hform
      simp [hform.1, hform.2.1]
    rw [hcx]
    rw [hcx] at fin
    have hbb : (n' + m.toNat) * i.bytes ≤ 1099511627776 * 128 := Nat.mul_le_mul hb hby
    obtain ⟨v', W', hr, g5, g6, g7⟩ := AZ.own_z (P := P) W 0 t tn ty e' i z 1 i.bytes kk kn ht htn hi1 hz hsz rfl hzc hpos _ n' xs h2 m.toNat (by omega) (by rw [hzn]; exact hone0) (by unfold maxLen; omega) (by omega) (Nat.zero_le _)
    rw [hmm0] at hr
    rw [hzn] at g5
    have hv' : ∃ x cap, v' = .slice x (n' + m.toNat) cap ∧ (x = none → cap = 0 ∧ n' + m.toNat = 0) ∧ (∀ y, x = some y → y.off = 0 ∧ y.spot = none ∧ n' + m.toNat ≤ cap) := by
      rcases g5.2 with ⟨rfl, h0⟩ | ⟨g, cap, cur, rfl, _, _, h7, _⟩
      · exact ⟨none, 0, by rw [h0], (fun _ => ⟨rfl, h0⟩), fun y hy => by cases hy⟩
      · exact ⟨_, cap, rfl, (fun h => by cases h), fun y hy => by cases hy; exact ⟨rfl, rfl, h7⟩⟩
    obtain ⟨x, cap, rfl, hx0, hx1⟩ := hv'
    refine fin _ W' (x, cap) (some a.block) g6 (.inr (by simp [blkOf, h1])) (fun b hb => ?_) hr fun E' he hnm => ⟨⟨x, cap, xs ++ news, hnm, by rw [addN_eq]; exact g5, hone, hrow E' he⟩, ?_⟩
    · cases x with
      | none => cases hb
      | some y =>
        have hb : y.block = b := Option.some.inj hb
        subst hb
        rcases g7 with g7 | g7
        · left; simpa [Value.ownBlock] using g7.symm
        · right; simp only [Value.ownBlock, Option.some.injEq] at g7; omega
    · simp only [RV]
      refine ⟨x, cap, hnm, ?_⟩
      rw [addN_eq]
      cases x with
      | none => obtain ⟨rfl, h0⟩ := hx0 rfl; rw [h0]; exact ⟨none, rfl, rfl, rfl⟩
      | some y =>
        obtain ⟨y1, y2, y3⟩ := hx1 y rfl
        refine ⟨0, cap, ?_, y3, by omega, fun _ => by simp [y1], by simp⟩
        obtain ⟨yb, yo, ys⟩ := y
        simp only at y1 y2
        rw [y1, y2]
end
end Go.Proofs.Ytbgbjgedjmhcaaa
namespace Go.Proofs.Ytbgbjgedjmhcaaa
open Go.RowKit
section
variable {P : Program} {E : Env} {s : St} {W : World}
theorem callsIn_fw {n : Nat} {rnd : Option Nat} {f : FuncId} {args : Array Value} {w : World} {R : Ending → World → Prop} (h : Calls P f args w R) : CallsIn (Fw rnd) n P f args w R :=
  ⟨trivial, fun cs _ => let ⟨e, w', fr, r, s, x⟩ := h cs; ⟨e, w', fr, r, by
    have h2 := comesIn_wide.2 s
    cases rnd <;> exact h2, x⟩⟩
theorem call_ok {o : Oper} {a : Act} (r : RH E s.heap W) (hint : Hint) (g : FuncId) {args : List AV} {cargs : List Value} (hargs : RVs E args cargs)
    (he : (execOp a.eval o).run P W = (callFunc g cargs.toArray).run P W) : OpSem P o a E s W (goCall P hint g args) := by
  unfold goCall
  split
  case h_3 => exact OpSem.fail
  case h_2 ret =>
    intro out ho hp hn K Q hK
    simp only [Ac.run, Option.some.injEq] at ho
    subst ho
    obtain ⟨cv, h1, h2⟩ := hp.1 E W cargs hargs
    intro rnd
    rw [he, h1]
    exact hK E W cv (Ext.refl E) h2 r (Mod.refl _ _ _) rfl
  rename_i ids ret outs
  refine getAll_ok ids _ fun h hsub => ?_
  intro out ho hp hn K Q hK
  simp only [Ac.run] at ho
  split at ho
  · cases ho
  rename_i q hq
  simp only [Option.some.injEq] at ho
  subst ho
  obtain ⟨⟨hcf, hc⟩, hp2⟩ := hp
  obtain ⟨q1, q2, q3, q4, q5⟩ := putAll_out outs h ret s q hq
  have q6 := putAll_nw outs h ret s q hq
  have hcall := hc E W cargs hargs (r.sub hsub) (fun id hid => hn id (by rw [q6]; exact hid))
  intro rnd
  rw [he, hcf]
  refine ⟨fun h => by simp [Fw, Fence.wide] at h, callsIn_fw ?_⟩
  refine hcall.mono ?_
  rintro e W' ⟨cv, E', rfl, hx, hv, hh, hm⟩
  have hs : ∀ id ob, find q.s.heap id = some ob → find (applyO h outs) id = some ob ∨ (find s.heap id = some ob ∧ find h id = none) := fun id ob hob => by
    by_cases hin : id ∈ outs.map (·.1)
    · exact .inl (by rw [← q5 id hin]; exact hob)
    · obtain ⟨e1, e2⟩ := q4 id hin
      rw [e1] at hob
      cases hf : find h id with
      | none => exact .inr ⟨hob, rfl⟩
      | some ob' =>
        left
        rw [e2, hf]
        have := hsub id ob' hf
        rw [hob] at this
        rw [this]
  obtain ⟨f1, f2⟩ := RH.frame (H' := q.s.heap) r hsub hx hh hm hs
  exact hK E' W' cv (by rw [q6]; exact hx) (by rw [q1]; exact hv) f1 f2 q3
theorem roundIn_fw {n : Nat} {rnd : Option Nat} {l : Nat} {f : FuncId} {tmps : Array Value} {as bd : Code} {w : World} {R : Ending → World → Prop} (h : RoundIn Fence.wide n P l f tmps as bd w R) : RoundIn (Fw rnd) n P l f tmps as bd w R :=
  ⟨trivial, fun c cs _ => let ⟨e, w', r, s⟩ := h.2 c cs (room_wide _); ⟨e, w', r, by cases rnd <;> exact s⟩⟩
theorem yld_ok {o : Oper} {a : Act} (r : RH E s.heap W) (hint : Hint) (L : Nat) {ad : Addr} {kk : Nat} (hE : E L = some (some ad, kk)) {args : List AV} {cargs : List Value} (hargs : RVs E args cargs)
    (he : (execOp a.eval o).run P W = (Instr.yield ad.block cargs.toArray).run P W) : OpSem P o a E s W (goYld P hint L args) := by
  unfold goYld
  split
  case h_2 => exact OpSem.fail
  rename_i ids ret outs
  refine getAll_ok ids _ fun h hsub => ?_
  intro out ho hp hn K Q hK
  simp only [Ac.run] at ho
  split at ho
  · cases ho
  rename_i q hq
  simp only [Option.some.injEq] at ho
  subst ho
  obtain ⟨hc, hp2⟩ := hp
  obtain ⟨q1, q2, q3, q4, q5⟩ := putAll_out outs h ret s q hq
  have q6 := putAll_nw outs h ret s q hq
  obtain ⟨fn, tmps, as, bd, hcf, hcall⟩ := hc E W cargs ad kk hargs (r.sub hsub) (fun id hid => hn id (by rw [q6]; exact hid)) hE
  intro rnd
  rw [he, hcf]
  refine ⟨fun h => by simp [Fw, Fence.wide] at h, roundIn_fw ?_⟩
  refine (hcall _).mono ?_
  rintro e W' ⟨cv, E', rfl, hx, hv, hh, hm⟩
  have hs : ∀ id ob, find q.s.heap id = some ob → find (applyO h outs) id = some ob ∨ (find s.heap id = some ob ∧ find h id = none) := fun id ob hob => by
    by_cases hin : id ∈ outs.map (·.1)
    · exact .inl (by rw [← q5 id hin]; exact hob)
    · obtain ⟨e1, e2⟩ := q4 id hin
      rw [e1] at hob
      cases hf : find h id with
      | none => exact .inr ⟨hob, rfl⟩
      | some ob' =>
        left
        rw [e2, hf]
        have := hsub id ob' hf
        rw [hob] at this
        rw [this]
  obtain ⟨f1, f2⟩ := RH.frame (H' := q.s.heap) r hsub hx hh hm hs
  exact hK E' W' cv (by rw [q6]; exact hx) (by rw [q1]; exact hv) f1 f2 q3
theorem inv_ok {o : Oper} {a : Act} (r : RH E s.heap W) (hint : Hint) (name : String) {recv : AV} {crecv : Value} (hrecv : RV E recv crecv) {args : List AV} {cargs : List Value} (hargs : RVs E args cargs)
    (he : (execOp a.eval o).run P W = (callMethod crecv name cargs.toArray).run P W) : OpSem P o a E s W (goInv P hint recv name args) := by
  unfold goInv
  split
  case h_2 => exact OpSem.fail
  rename_i f rx ids ret outs
  intro out ho hp hn K Q hK
  simp only [Ac.run] at ho
  split at ho
  · cases ho
  rename_i q hq
  simp only [Option.some.injEq] at ho
  subst ho
  obtain ⟨hm, hp2⟩ := hp
  obtain ⟨t, v, rc, rfl, h1, h2⟩ := hm E crecv hrecv
  refine call_ok (o := o) (a := a) r (.call ids ret outs) f (args := rx :: args) (cargs := rc :: cargs) (by simp only [RVs]; exact ⟨_, _, rfl, h1, hargs⟩) ?_ q hq hp2 hn K Q hK
  rw [he]
  simp only [callMethod, Sem.run_bind, run_program, Result.andThen_ok, h2]
  congr 2
  simp
def sliceH (P : Program) (h : Hint) (nm : Nat) (t : TypeId) (x : AV) (lo hi mx : Option AV) : Ac AV := match h with
  | .inpl => sliceInA P t x lo hi mx
  | _ => match x, lo, hi, mx with
    | .ptr id 0 0 0, none, none, none => sliceArrA P nm t id
    | .ptr id 0 0 0, lo, hi, none => sliceArrB P t id lo hi
    | _, _, _, _ => sliceA P t x lo hi mx
theorem sliceH_ok (r : RH E s.heap W) (hint : Hint) (nm : Nat) (t : TypeId) {x : AV} {c : Value} (hx : RV E x c) {lo hi mx : Option AV} {cl ch cm : Option Value} (hl : (lo = none ∧ cl = none) ∨ ∃ v w, lo = some v ∧ cl = some w ∧ RV E v w) (hh : (hi = none ∧ ch = none) ∨ ∃ v w, hi = some v ∧ ch = some w ∧ RV E v w) (hm : (mx = none ∧ cm = none) ∨ ∃ v w, mx = some v ∧ cm = some w ∧ RV E v w) :
    SemAt P E s W (Instr.sliceAt t c cl ch cm) (sliceH P hint nm t x lo hi mx) := by
  unfold sliceH
  split
  · exact sliceIn_ok r t hx hl hh hm
  · split
    · have e1 : cl = none := by
        rcases hl with ⟨_, h⟩ | ⟨v, w, h, _⟩
        · exact h
        · cases h
      have e2 : ch = none := by
        rcases hh with ⟨_, h⟩ | ⟨v, w, h, _⟩
        · exact h
        · cases h
      have e3 : cm = none := by
        rcases hm with ⟨_, h⟩ | ⟨v, w, h, _⟩
        · exact h
        · cases h
      subst e1 e2 e3
      exact sliceArr_ok r nm t _ hx
    · have e3 : cm = none := by
        rcases hm with ⟨_, h⟩ | ⟨v, w, h, _⟩
        · exact h
        · cases h
      subst e3
      exact sliceArrB_ok r t _ hx hl hh
    · exact slice_ok r t hx hl hh hm
def bltA (P : Program) (h : Hint) (nm : Nat) (b : Builtin) (ts : List TypeId) (args : List AV) : Ac AV := match b with
  | .len => match ts, args with
    | t :: _, [x] => lenA P t x
    | _, _ => .fail
  | .append => match ts, args with
    | [t, t'], [x, y] => match t == t' with
      | true => match h with
        | .inpl => appInA P t x y
        | _ => appA P nm t x y
      | false => match y with
        | .val (.int _ _) => appZA P nm t t' x y
        | _ => appSA P nm t t' x y
    | _, _ => .fail
  | .copy => match ts, args with
    | [t, _], [x, y] => copyA P t x y
    | _, _ => .fail
  | .clear => match ts, args with
    | [t], [x] => clearA P t x
    | _, _ => .fail
  | .min => minA args
  | .max => maxA args
  | .unsafeSliceData => match args with
    | [x] => uSlDataA x
    | _ => .fail
  | .unsafeString => match ts, args with
    | [_, _], [x, y] => uStringA P h ts x y
    | _, _ => .fail
  | _ => .fail
theorem blt_ok (r : RH E s.heap W) (h : Hint) (nm : Nat) (b : Builtin) (ts : Array TypeId) (ty : TypeId) (cs : Array Bool) {args : List AV} {cargs : List Value} (ha : RVs E args cargs) {o : Oper} {a : Act}
    (he : (execOp a.eval o).run P W = (builtin b ts ty cs cargs.toArray).run P W) : OpSem P o a E s W (bltA P h nm b ts.toList args) := by
  have fin : ∀ (sem : Sem Value) (c : Ac AV), builtin b ts ty cs cargs.toArray = (do pure (.value (← sem))) → SemAt P E s W sem c → OpSem P o a E s W c := fun sem c h1 h2 => OpSem.of h2 fun cv W' hr => .inl (by rw [he, h1]; simp [hr])
  unfold bltA
  split
  · split
    case h_2 => exact OpSem.fail
    rename_i t rest x hts
    simp only [RVs] at ha
    obtain ⟨y, m, rfl, hy, rfl⟩ := ha
    exact fin _ _ rfl (len_ok r t ty hy ts (by rw [← Array.getElem?_toList, hts]; rfl))
  · split
    case h_2 => exact OpSem.fail
    rename_i t t' x y hts
    simp only [RVs] at ha
    obtain ⟨cx, m, rfl, hx, cy, m2, rfl, hy, rfl⟩ := ha
    have : ts = #[t, t'] := by rw [← Array.toArray_toList (xs := ts), hts]
    subst this
    split
    case h_2 =>
      split
      · exact fin _ _ rfl (appz_ok r nm t t' ty hx hy)
      · exact fin _ _ rfl (appS_ok r nm t t' ty hx hy)
    rename_i htt
    have htt' : t = t' := by simpa using htt
    subst htt'
    split
    · exact fin _ _ rfl (appIn_ok r t ty hx hy)
    · exact fin _ _ rfl (app_ok r nm t ty hx hy)
  · split
    case h_2 => exact OpSem.fail
    rename_i t t' x y hts
    simp only [RVs] at ha
    obtain ⟨cx, m, rfl, hx, cy, m2, rfl, hy, rfl⟩ := ha
    have : ts = #[t, t'] := by rw [← Array.toArray_toList (xs := ts), hts]
    subst this
    exact fin _ _ rfl (copy_ok r t t' ty hx hy)
  · split
    case h_2 => exact OpSem.fail
    rename_i t x hts
    simp only [RVs] at ha
    obtain ⟨cx, m, rfl, hx, rfl⟩ := ha
    have : ts = #[t] := by rw [← Array.toArray_toList (xs := ts), hts]
    subst this
    exact fin _ _ rfl (clear_ok r t ty hx)
  · exact fin _ _ rfl (min_ok r _ _ ha)
  · exact fin _ _ rfl (max_ok r _ _ ha)
  · split
    case h_2 => exact OpSem.fail
    simp only [RVs] at ha
    obtain ⟨cx, m, rfl, hx, rfl⟩ := ha
    exact fin _ _ rfl (uSlData_ok r ts ty hx)
  · split
    case h_2 => exact OpSem.fail
    rename_i t t' x y hts
    simp only [RVs] at ha
    obtain ⟨cx, m, rfl, hx, cy, m2, rfl, hy, rfl⟩ := ha
    exact fin _ _ rfl (uString_ok r h ts ty hx hy ⟨t, t', by rw [← Array.toArray_toList (xs := ts), hts]⟩)
  · exact OpSem.fail
def nilChk (P : Program) : AV → Ac AV
  | .ptr id i es j => .ret (.ptr id i es j)
  | .ifc t v => .ret (.ifc t v)
  | .fn (.func f) a b => .ret (.fn (.func f) a b)
  | .fn (.method name) [.ifc t v] b => match nilA P 50 t v name with
    | true => .ret (.fn (.method name) [.ifc t v] b)
    | false => .fail
  | _ => .fail
def pickA (c a b : AV) : Ac AV := match c with
  | .val (.bool t) => match t with
    | true => .ret a
    | false => .ret b
  | _ => .fail
def callA (P : Program) (h : Hint) (f : AV) (args : List AV) : Ac AV := match f with
  | .fn (.func g) first cap => goCall P h g (first ++ args ++ cap)
  | .fn (.method name) [recv] _ => goInv P h recv name args
  | .yld L => goYld P h L args
  | _ => .fail
def opA (P : Program) (h : Hint) (nm : Nat) (op : Op) : Ac AV := match op with
  | .move x => (ev x).bind .ret
  | .assign x => (ev x).bind .ret
  | .pick c a b => (ev c).bind fun c => (ev a).bind fun a => (ev b).bind fun b => pickA c a b
  | .alloc t => allocA P nm t
  | .box t x => (ev x).bind fun v => boxA nm t v
  | .build t parts => evP parts.toList fun vs => buildA P t vs
  | .buildSlice t len parts => evP parts.toList fun vs => bsA P nm t len vs
  | .load t x => (ev x).bind fun v => loadR P h t v
  | .store t x y => (ev x).bind fun a => (ev y).bind fun v => storeH P h t a v
  | .makeMap t none => makeMapA P nm t
  | .lookup t x ix ok => (ev x).bind fun m => (ev ix).bind fun k => lookupA P t m k ok
  | .mapUpdate t m k x => (ev m).bind fun m => (ev k).bind fun k => (ev x).bind fun v => updA P t m k v
  | .insert t m k x => (ev m).bind fun m => (ev k).bind fun k => (ev x).bind fun v => updA P t m k v
  | .nilCheck x => (ev x).bind (nilChk P)
  | .binOp op t x y _ => (ev x).bind fun a => (ev y).bind fun b => binS P h op t x y a b
  | .unOp op _ x => (ev x).bind fun v => unA h op v
  | .convert src dst x => (ev x).bind fun v => convH P h src dst v
  | .makeInterface t x => (ev x).bind fun v => ifaceA P t v
  | .makeFunc f first cap => evL first.toList fun l => evL cap.toList fun m => .ret (.fn f l m)
  | .makeSlice t l c => (ev l).bind fun l => (ev c).bind fun c => mkSliceA P nm t l c
  | .slice t x lo hi mx => (ev x).bind fun v => evO lo fun lo => evO hi fun hi => evO mx fun mx => sliceH P h nm t v lo hi mx
  | .fieldAddr t x f => (ev x).bind fun v => fieldAddrA P t v f
  | .field t x f => (ev x).bind fun v => fieldA P t v f
  | .indexAddr t x i => (ev x).bind fun v => (ev i).bind fun i => indexAddrA P t v i
  | .index t x i => (ev x).bind fun v => (ev i).bind fun i => indexA P t v i
  | .extract x i => (ev x).bind fun v => extractA v i
  | .sliceToArrayPointer t x => (ev x).bind fun v => arrPtrA P t v
  | .call c => match c.callee with
    | .builtin b => evL c.args.toList fun args => bltA P h nm b c.argTypes.toList args
    | .value f => (ev f).bind fun f => evL c.args.toList fun args => callA P h f args
    | .invoke x name => (ev x).bind fun v => evL c.args.toList fun args => goInv P h v name args
  | _ => .fail
theorem op_sem {D : List Deferred} {a : Act} (r : Rel D E s W a) (h : Hint) (nm : Nat) (o : Oper) : OpSem P o a E s W (opA P h nm o.op) := by
  have rh := r.hp
  have sv : ∀ {sem : Sem Value} {c : Ac AV}, SemAt P E s W sem c → (execOp a.eval o) = (do pure (.value (← sem))) → OpSem P o a E s W c := fun h1 h2 => OpSem.of h1 fun cv W' hr => .inl (by rw [h2]; simp [hr])
  obtain ⟨dst, op, ty, pos, after, guard⟩ := o
  simp only
  unfold opA
  split
  · exact ev_ok r _ _ _ fun v hv => OpSem.of (sem := pure (a.eval _)) (SemAt.ret rh (by simp; rfl) hv) fun cv W' hr => .inl (by simp at hr; simp [execOp, hr])
  · exact ev_ok r _ _ _ fun v hv => OpSem.of (sem := pure (a.eval _)) (SemAt.ret rh (by simp; rfl) hv) fun cv W' hr => .inl (by simp at hr; simp [execOp, hr])
  · refine ev_ok r _ _ _ fun c hc => ev_ok r _ _ _ fun x hx => ev_ok r _ _ _ fun y hy => ?_
    unfold pickA
    split
    case h_2 => exact OpSem.fail
    rename_i t
    simp only [RV] at hc
    split
    · exact OpSem.of (sem := pure (a.eval _)) (SemAt.ret rh (by simp; rfl) hx) fun cv W' hr => .inl (by simp at hr; simp [execOp, hc, asBool, hr])
    · exact OpSem.of (sem := pure (a.eval _)) (SemAt.ret rh (by simp; rfl) hy) fun cv W' hr => .inl (by simp at hr; simp [execOp, hc, asBool, hr])
  · exact sv (alloc_ok rh nm _) rfl
  · exact ev_ok r _ _ _ fun v hv => sv (box_ok rh nm _ hv) rfl
  · rename_i t parts
    exact evP_ok r _ _ _ fun vs hvs => sv (build_ok rh t (vparts := parts.map fun (i, x) => (i, a.eval x)) (by simpa using hvs)) rfl
  · rename_i t len parts
    exact evP_ok r _ _ _ fun vs hvs => sv (bs_ok rh nm t len (vparts := parts.map fun (i, x) => (i, a.eval x)) (by simpa using hvs)) rfl
  · exact ev_ok r _ _ _ fun v hv => sv (loadR_ok rh h hv) rfl
  · refine ev_ok r _ _ _ fun x hx => ev_ok r _ _ _ fun v hv => OpSem.of (storeH_ok rh h hx hv) fun cv W' hr => .inr ?_
    simp only [Sem.run_bind] at hr
    simp only [execOp, Sem.run_bind]
    generalize (Instr.storeAt _ _ _).run P W = q at hr ⊢
    cases q with
    | ok u w => simp at hr; simp [hr]
    | halt x w => simp [Result.andThen] at hr
  · exact sv (makeMap_ok rh nm _) rfl
  · exact ev_ok r _ _ _ fun m hm => ev_ok r _ _ _ fun k hk => sv (lookup_ok rh _ _ hm hk) rfl
  · refine ev_ok r _ _ _ fun m hm => ev_ok r _ _ _ fun k hk => ev_ok r _ _ _ fun v hv => OpSem.of (upd_ok rh _ hm hk hv) fun cv W' hr => .inr ?_
    simp only [Sem.run_bind] at hr
    simp only [execOp, Sem.run_bind]
    generalize (Instr.mapUpdate _ _ _ _).run P W = q at hr ⊢
    cases q with
    | ok u w => simp at hr; simp [hr]
    | halt x w => simp [Result.andThen] at hr
  · refine ev_ok r _ _ _ fun m hm => ev_ok r _ _ _ fun k hk => ev_ok r _ _ _ fun v hv => OpSem.of (upd_ok rh _ hm hk hv) fun cv W' hr => .inr ?_
    simp only [Sem.run_bind] at hr
    simp only [execOp, Sem.run_bind]
    generalize (Instr.mapUpdate _ _ _ _).run P W = q at hr ⊢
    cases q with
    | ok u w => simp at hr; simp [hr]
    | halt x w => simp [Result.andThen] at hr
  · refine ev_ok r _ _ _ fun v hv => ?_
    unfold nilChk
    split
    · have hv' := hv
      simp only [RV] at hv
      obtain ⟨b, k, he, hc⟩ := hv
      exact OpSem.of (sem := pure (a.eval _)) (SemAt.ret rh (by simp; rfl) hv') fun cv W' hr => .inl (by simp at hr; simp [execOp, hc, ← hr.1, hr.2])
    · have hv' := hv
      simp only [RV] at hv
      obtain ⟨b, hc, _⟩ := hv
      exact OpSem.of (sem := pure (a.eval _)) (SemAt.ret rh (by simp; rfl) hv') fun cv W' hr => .inl (by simp at hr; simp [execOp, hc, ← hr.1, hr.2])
    · have hv' := hv
      simp only [RV] at hv
      obtain ⟨b, b2, hc, _⟩ := hv
      exact OpSem.of (sem := pure (a.eval _)) (SemAt.ret rh (by simp; rfl) hv') fun cv W' hr => .inl (by simp at hr; simp [execOp, hc, ← hr.1, hr.2])
    · split
      · rename_i hn
        have hv' := hv
        simp only [RV, RVs] at hv
        obtain ⟨xs, ys, hc, ⟨y, l, rfl, ⟨x, rfl, hx⟩, rfl⟩, hys⟩ := hv
        have hna := fun W => nilA_run (P := P) 50 _ _ _ x hn hx (P.types.size + Made.depth) W (by unfold Made.depth; omega)
        exact OpSem.of (sem := pure (a.eval _)) (SemAt.ret rh (by simp; rfl) hv') fun cv W' hr => .inl (by simp at hr; simp [execOp, hc, ← hr.1, hr.2, hna])
      · exact OpSem.fail
    · exact OpSem.fail
  · exact ev_ok r _ _ _ fun x hx => ev_ok r _ _ _ fun y hy => sv (binS_ok rh h _ _ _ _ hx hy) rfl
  · exact ev_ok r _ _ _ fun x hx => sv (un_ok rh h _ hx) rfl
  · exact ev_ok r _ _ _ fun x hx => sv (convH_ok rh h _ _ hx) rfl
  · exact ev_ok r _ _ _ fun x hx => sv (iface_ok rh _ hx) rfl
  · rename_i f first cap
    refine evL_ok r _ _ _ fun l hl => evL_ok r _ _ _ fun m hm => sv (sem := Instr.makeFunc f (first.map a.eval) (cap.map a.eval)) (SemAt.ret rh rfl ?_) rfl
    simp only [RV]
    have e1 : ∀ (x : Array Operand), x.map a.eval = (x.toList.map a.eval).toArray := fun x => by apply Array.ext'; simp
    exact ⟨_, _, by rw [e1, e1], hl, hm⟩
  · exact ev_ok r _ _ _ fun x hx => ev_ok r _ _ _ fun y hy => sv (mkSlice_ok rh nm _ hx hy) rfl
  · exact ev_ok r _ _ _ fun x hx => evO_ok r _ _ _ fun lo hlo => evO_ok r _ _ _ fun hi hhi => evO_ok r _ _ _ fun mx hmx => sv (sliceH_ok rh h nm _ hx hlo hhi hmx) rfl
  · exact ev_ok r _ _ _ fun x hx => sv (fieldAddr_ok rh _ hx _) rfl
  · exact ev_ok r _ _ _ fun x hx => sv (field_ok rh _ hx _) rfl
  · exact ev_ok r _ _ _ fun x hx => ev_ok r _ _ _ fun y hy => sv (indexAddr_ok rh _ hx hy) rfl
  · exact ev_ok r _ _ _ fun x hx => ev_ok r _ _ _ fun y hy => sv (index_ok rh _ hx hy) rfl
  · exact ev_ok r _ _ _ fun x hx => sv (extract_ok rh hx _) rfl
  · exact ev_ok r _ _ _ fun x hx => sv (arrPtr_ok rh _ hx) rfl
  · rename_i c
    split
    · rename_i b hb
      refine evL_ok r _ _ _ fun args hargs => blt_ok rh h nm b c.argTypes ty (c.args.map fun | .const _ => true | _ => false) hargs ?_
      simp only [execOp, resolve, hb, Sem.run_bind, Sem.run_pure, Result.andThen_ok, invoke]
      congr 2
      apply Array.ext'
      simp
    · rename_i f hf
      refine ev_ok r _ _ _ fun fv hfv => evL_ok r _ _ _ fun args hargs => ?_
      unfold callA
      split
      case h_4 => exact OpSem.fail
      · rename_i g first cap
        simp only [RV] at hfv
        obtain ⟨xs, ys, hc, hx, hy⟩ := hfv
        refine call_ok rh h g ((hx.append hargs).append hy) ?_
        simp only [execOp, resolve, hf, hc, Deferred.ofValue, Sem.run_bind, Sem.run_pure, Result.andThen_ok, invoke]
        congr 2
        apply Array.ext'
        simp
      · rename_i name recv cap
        simp only [RV, RVs] at hfv
        obtain ⟨xs, ys, hc, ⟨y, l, rfl, hy, rfl⟩, hys⟩ := hfv
        refine inv_ok rh h name hy hargs ?_
        have e0 : (#[y] ++ Array.map a.eval c.args)[0]? = some y := by simp [Array.getElem?_append]
        have e1 : (#[y] ++ Array.map a.eval c.args).extract 1 (#[y] ++ Array.map a.eval c.args).size = (c.args.toList.map a.eval).toArray := by
          apply Array.ext'
          simp
          rw [List.take_of_length_le (by simp)]
        simp only [execOp, resolve, hf, hc, Deferred.ofValue, Sem.run_bind, Sem.run_pure, Result.andThen_ok, invoke, e0, e1]
      · rename_i L
        simp only [RV] at hfv
        obtain ⟨ad, kk, hE, hc⟩ := hfv
        refine yld_ok rh h L hE hargs ?_
        have e1 : (Array.map a.eval c.args ++ #[] : Array Value) = (c.args.toList.map a.eval).toArray := by
          apply Array.ext'
          simp
        simp only [execOp, resolve, hf, hc, Deferred.ofValue, Sem.run_bind, Sem.run_pure, Result.andThen_ok, invoke]
        congr 2
        apply Array.ext'
        simp
    · rename_i x name hf
      refine ev_ok r _ _ _ fun fv hfv => evL_ok r _ _ _ fun args hargs => inv_ok rh h name hfv hargs ?_
      have e0 : (#[a.eval x] ++ Array.map a.eval c.args)[0]? = some (a.eval x) := by simp [Array.getElem?_append]
      have e1 : (#[a.eval x] ++ Array.map a.eval c.args).extract 1 (#[a.eval x] ++ Array.map a.eval c.args).size = (c.args.toList.map a.eval).toArray := by
        apply Array.ext'
        simp
        rw [List.take_of_length_le (by simp)]
      simp only [execOp, resolve, hf, Sem.run_bind, Sem.run_pure, Result.andThen_ok, invoke, e0, e1]
  · exact OpSem.fail
def dstOf (ops : Array Oper) (j : Nat) : Option Tmp := match nth ops.toList j with
  | some o => o.dst
  | none => none
def gWant (b w : Bool) : Bool := match b, w with
  | true, true => true
  | false, false => true
  | _, _ => false
def wantA (ops : Array Oper) (g : Option (Nat × Bool)) (k : Bool → Ac Unit) : Ac Unit := match g with
  | none => k true
  | some (j, want) => match dstOf ops j with
    | none => .fail
    | some d => .slot d fun v => match v with
      | .val (.bool b) => k (gWant b want)
      | .val (.tuple _) => k false
      | _ => .fail
def setD (d : Option Tmp) (v : AV) : Ac Unit := match d with
  | none => .ret ()
  | some t => .set t v (.ret ())
def fixB (h : Hint) (v : AV) : Ac AV := match h with
  | .tt c => match v with
    | .val (.bool e) => .need (e = c) (.ret (.val (.bool c)))
    | v => .ret v
  | .is w => .need (v = w) (.ret w)
  | _ => .ret v
def stepA (P : Program) (ops : Array Oper) (hs : Nat → Hint) (nx : Nat) (i : Nat) : Ac Unit := match nth ops.toList i with
  | none => .fail
  | some o => wantA ops o.guard fun b => match b with
    | true => (opA P (hs i) (nx + i) o.op).bind fun v => (fixB (hs i) v).bind fun w => setD o.dst w
    | false => setD o.dst undefA
end
theorem run_bind {α β : Type} (c : Ac α) (k : α → Ac β) : ∀ (s : St) (out : Out β), (c.bind k).run s = some out → ∃ o1 o2, c.run s = some o1 ∧ (k o1.a).run o1.s = some o2 ∧ out.a = o2.a ∧ out.s = o2.s ∧ out.rd = o1.rd ++ o2.rd ∧ out.wr = o1.wr ++ o2.wr ∧ out.nw = o1.nw ++ o2.nw ∧ out.ob = o1.ob ++ o2.ob := by
  induction c with
  | ret a => intro s out h; exact ⟨⟨a, s, [], [], [], []⟩, out, rfl, h, rfl, rfl, by simp, by simp, by simp, by simp⟩
  | slot t f ih =>
    intro s out h
    simp only [Ac.bind, Ac.run] at h
    split at h
    · cases h
    · rename_i v hv
      split at h
      · cases h
      · rename_i q hq
        simp only [Option.some.injEq] at h
        subst h
        obtain ⟨o1, o2, h1, h2, h3, h4, h5, h6, h7, h8⟩ := ih v s q hq
        exact ⟨⟨o1.a, o1.s, .slot t :: o1.rd, o1.wr, o1.nw, o1.ob⟩, o2, by simp only [Ac.run, hv, h1], h2, h3, h4, by simp [h5], h6, h7, h8⟩
  | get id f ih =>
    intro s out h
    simp only [Ac.bind, Ac.run] at h
    split at h
    · cases h
    · rename_i v hv
      split at h
      · cases h
      · rename_i q hq
        simp only [Option.some.injEq] at h
        subst h
        obtain ⟨o1, o2, h1, h2, h3, h4, h5, h6, h7, h8⟩ := ih v s q hq
        exact ⟨⟨o1.a, o1.s, .ob id :: o1.rd, o1.wr, o1.nw, o1.ob⟩, o2, by simp only [Ac.run, hv, h1], h2, h3, h4, by simp [h5], h6, h7, h8⟩
  | new id o f ih =>
    intro s out h
    simp only [Ac.bind, Ac.run] at h
    split at h
    · cases h
    · rename_i hv
      split at h
      · cases h
      · rename_i q hq
        simp only [Option.some.injEq] at h
        subst h
        obtain ⟨o1, o2, h1, h2, h3, h4, h5, h6, h7, h8⟩ := ih _ q hq
        exact ⟨⟨o1.a, o1.s, .ob id :: o1.rd, .ob id :: o1.wr, id :: o1.nw, o1.ob⟩, o2, by simp only [Ac.run, hv, h1], h2, h3, h4, by simp [h5], by simp [h6], by simp [h7], h8⟩
  | put id o f ih =>
    intro s out h
    simp only [Ac.bind, Ac.run] at h
    split at h
    · cases h
    · rename_i v hv
      split at h
      · cases h
      · rename_i q hq
        simp only [Option.some.injEq] at h
        subst h
        obtain ⟨o1, o2, h1, h2, h3, h4, h5, h6, h7, h8⟩ := ih _ q hq
        exact ⟨⟨o1.a, o1.s, .ob id :: o1.rd, .ob id :: o1.wr, o1.nw, o1.ob⟩, o2, by simp only [Ac.run, hv, h1], h2, h3, h4, by simp [h5], by simp [h6], h7, h8⟩
  | del id f ih =>
    intro s out h
    simp only [Ac.bind, Ac.run] at h
    split at h
    · cases h
    · rename_i q hq
      simp only [Option.some.injEq] at h
      subst h
      obtain ⟨o1, o2, h1, h2, h3, h4, h5, h6, h7, h8⟩ := ih _ q hq
      exact ⟨⟨o1.a, o1.s, o1.rd, .ob id :: o1.wr, o1.nw, o1.ob⟩, o2, by simp only [Ac.run, h1], h2, h3, h4, h5, by simp [h6], h7, h8⟩
  | set t v f ih =>
    intro s out h
    simp only [Ac.bind, Ac.run] at h
    split at h
    · cases h
    · rename_i w hv
      split at h
      · cases h
      · rename_i q hq
        simp only [Option.some.injEq] at h
        subst h
        obtain ⟨o1, o2, h1, h2, h3, h4, h5, h6, h7, h8⟩ := ih _ q hq
        exact ⟨⟨o1.a, o1.s, .slot t :: o1.rd, .slot t :: o1.wr, o1.nw, o1.ob⟩, o2, by simp only [Ac.run, hv, h1], h2, h3, h4, by simp [h5], by simp [h6], h7, h8⟩
  | need p f ih =>
    intro s out h
    simp only [Ac.bind, Ac.run] at h
    split at h
    · cases h
    · rename_i q hq
      simp only [Option.some.injEq] at h
      subst h
      obtain ⟨o1, o2, h1, h2, h3, h4, h5, h6, h7, h8⟩ := ih _ q hq
      exact ⟨⟨o1.a, o1.s, o1.rd, o1.wr, o1.nw, p :: o1.ob⟩, o2, by simp only [Ac.run, h1], h2, h3, h4, h5, h6, h7, by simp [h8]⟩
  | fail => intro s out h; simp [Ac.bind, Ac.run] at h
theorem rel_set {D : List Deferred} {E : Env} {s : St} {W : World} {a : Act} {d : Option Tmp} {v : AV} {c : Value} {out : Out Unit} (h1 : a.tmps.size = s.slots.length) (h2 : ∀ t v, nth s.slots t = some v → ∃ c, a.tmps[t]? = some c ∧ RV E v c) (h3 : a.defers = D) (h4 : RH E s.heap W) (hv : RV E v c) (ho : (setD d v).run s = some out) :
    Rel D E out.s W (a.put d c) ∧ out.nw = [] ∧ out.ob = [] ∧ out.s.heap = s.heap := by
  unfold setD at ho
  cases d with
  | none =>
    simp only [Ac.run, Option.some.injEq] at ho
    subst ho
    exact ⟨⟨h1, h2, h3, h4⟩, rfl, rfl, rfl⟩
  | some t =>
    simp only [Ac.run] at ho
    split at ho
    · cases ho
    · rename_i w hw
      simp only [Option.some.injEq] at ho
      subst ho
      have hlt : t < s.slots.length := by rw [nth_eq] at hw; exact (List.getElem?_eq_some_iff.1 hw).1
      refine ⟨⟨by simp [Act.put, setN_eq, h1], fun u x hu => ?_, h3, h4⟩, rfl, rfl, rfl⟩
      simp only [nth_eq, setN_eq] at hu
      simp only [Act.put, Array.getElem?_setIfInBounds]
      rw [List.getElem?_set] at hu
      by_cases e : t = u
      · subst e
        simp only [hlt, if_true, Option.some.injEq] at hu
        subst hu
        exact ⟨c, by simp [h1, hlt], hv⟩
      · rw [if_neg e] at hu
        obtain ⟨y, hy, hy2⟩ := h2 u x (by rw [nth_eq]; exact hu)
        exact ⟨y, by rw [if_neg e]; exact hy, hy2⟩
theorem step_ok {P : Program} (ops : Array Oper) (hs : Nat → Hint) (nx i : Nat) (o : Oper) (ho : ops[i]? = some o) : OpOK P ops o (stepA P ops hs nx i) := by
  intro rnd D E s W a out hrun hob r hn K Q hK
  unfold stepA at hrun
  have ho' : nth ops.toList i = some o := by rw [nth_eq]; simpa using ho
  rw [ho'] at hrun
  dsimp only at hrun
  have yes : ∀ out, ((opA P (hs i) (nx + i) o.op).bind fun v => (fixB (hs i) v).bind fun w => setD o.dst w).run s = some out → AllP out.ob → (∀ id ∈ out.nw, E id = none) → (∀ E' W' a', Ext E E' out.nw → Rel D E' out.s W' a' → Mod E s.heap W E' out.s.heap W' → K a' W') → o.wpIn (Fw rnd) 0 P a W K Q := by
    intro out hrun hob hn hK
    obtain ⟨o1, o2, h1, h2, h3, h4, h5, h6, h7, h8⟩ := run_bind _ _ s out hrun
    rw [h8, AllP.append] at hob
    obtain ⟨o3, o4, k1, k2, k3, k4, k5, k6, k7, k8⟩ := run_bind _ _ o1.s o2 h2
    rw [k8, AllP.append] at hob
    have hfix : o3.s = o1.s ∧ o3.nw = [] ∧ ∀ (E : Env) c, RV E o1.a c → RV E o3.a c := by
      unfold fixB at k1
      split at k1
      · split at k1
        · rename_i e heq
          simp only [Ac.run, Option.some.injEq] at k1
          have hob3 := hob.2.1
          rw [← k1] at hob3 ⊢
          refine ⟨rfl, rfl, fun E c hc => ?_⟩
          rw [heq] at hc
          simp only [RV] at hc ⊢
          rw [hc, hob3.1]
        · simp only [Ac.run, Option.some.injEq] at k1
          rw [← k1]
          exact ⟨rfl, rfl, fun E c hc => hc⟩
      · simp only [Ac.run, Option.some.injEq] at k1
        have hob3 := hob.2.1
        rw [← k1] at hob3 ⊢
        exact ⟨rfl, rfl, fun E c hc => hob3.1 ▸ hc⟩
      · simp only [Ac.run, Option.some.injEq] at k1
        rw [← k1]
        exact ⟨rfl, rfl, fun E c hc => hc⟩
    obtain ⟨f1, f2, f3⟩ := hfix
    rw [f1] at k2
    rw [k7, f2, List.nil_append] at h7
    rw [k4] at h4
    have hnd : ∀ c, o.op ≠ .defer c := fun c e => by rw [e] at h1; simp [opA, Ac.run] at h1
    refine ⟨fun _ _ => trivial, ?_⟩
    rw [Oper.semAt_plain _ _ _ hnd]
    refine op_sem r (hs i) (nx + i) o o1 h1 hob.1 (fun id hid => hn id (by rw [h7]; exact List.mem_append_left _ hid)) K Q (fun E' W' cv hx hv hh hm hsl => ?_) rnd
    obtain ⟨g1, g2, g3, g4⟩ := rel_set (a := a) (c := cv) (W := W') (v := o3.a) (out := o4) (by rw [hsl]; exact r.size) (fun t v ht => by
      rw [hsl] at ht
      obtain ⟨c, hc, hc2⟩ := r.sl t v ht
      exact ⟨c, hc, RV.mono hx.1 _ _ hc2⟩) r.df hh (f3 _ _ hv) k2
    refine hK E' W' _ (by rw [h7, g2, List.append_nil]; exact hx) (by rw [h4]; exact g1) (by rw [h4, g4]; exact hm)
  have no : ∀ out, (setD o.dst undefA).run s = some out → AllP out.ob → (∀ E' W' a', Ext E E' out.nw → Rel D E' out.s W' a' → Mod E s.heap W E' out.s.heap W' → K a' W') → K (a.put o.dst undef) W := by
    intro out hrun hob hK
    obtain ⟨g1, g2, g3, g4⟩ := rel_set (a := a) (c := undef) (v := undefA) (W := W) r.size r.sl r.df r.hp (by simp [undefA, RV]) hrun
    refine hK E W _ (by rw [g2]; exact Ext.refl E) g1 (by rw [g4]; exact Mod.refl _ _ _)
  unfold wantA at hrun
  cases hg : o.guard with
  | none =>
    rw [hg] at hrun
    dsimp only at hrun
    have hw : Region.wanted o (yielded ops a.tmps) = true := by unfold Region.wanted; rw [hg]
    rw [if_pos hw]
    exact yes out hrun hob hn hK
  | some g =>
    obtain ⟨j, want⟩ := g
    rw [hg] at hrun
    dsimp only at hrun
    split at hrun
    · simp [Ac.run] at hrun
    · rename_i d hd
      simp only [Ac.run] at hrun
      split at hrun
      · cases hrun
      · rename_i v hv
        split at hrun
        · cases hrun
        · rename_i q hq
          simp only [Option.some.injEq] at hrun
          subst hrun
          obtain ⟨c, hc, hc2⟩ := r.sl d v hv
          have hdd : (ops[j]?).bind (·.dst) = some d := by
            unfold dstOf at hd
            split at hd
            · rename_i o' ho2
              rw [nth_eq] at ho2
              have : ops[j]? = some o' := by simpa using ho2
              rw [this]; exact hd
            · cases hd
          have hy : yielded ops a.tmps j = match c with | .bool b => some b | _ => none := by
            unfold yielded
            rw [hdd]
            simp only [Option.bind_some, hc]
            cases c <;> rfl
          split at hq
          · rename_i b
            simp only [RV] at hc2
            subst hc2
            have hw : Region.wanted o (yielded ops a.tmps) = gWant b want := by
              unfold Region.wanted
              rw [hg]
              simp only [hy]
              cases b <;> cases want <;> rfl
            rw [hw]
            cases hbw : gWant b want with
            | true =>
              rw [hbw] at hq
              rw [if_pos rfl]
              exact yes q hq hob hn hK
            | false =>
              rw [hbw] at hq
              rw [if_neg (by simp)]
              exact no q hq hob hK
          · rename_i l
            simp only [RV] at hc2
            subst hc2
            have hw : Region.wanted o (yielded ops a.tmps) = false := by
              unfold Region.wanted
              rw [hg]
              simp only [hy]
              rfl
            rw [if_neg (by rw [hw]; simp)]
            exact no q hq hob hK
          · simp [Ac.run] at hq
end Go.Proofs.Ytbgbjgedjmhcaaa
namespace Go.Proofs.Ytbgbjgedjmhcaaa
open Go.RowKit
theorem wpOps_list {P : Program} {rnd : Option Nat} {D : List Deferred} {ops : Array Oper} {f : Nat → Ac Unit} {Q : Exit → Act → World → Prop} (hop : ∀ i o, ops[i]? = some o → OpOK P ops o (f i)) : ∀ (k i : Nat) (E : Env) (s : St) (W : World) (a : Act) (l : List (Out Unit)), i + k = ops.size → runR f k i s = some l → (∀ o ∈ l, AllP o.ob) → (l.flatMap (·.nw)).Nodup → (∀ id ∈ l.flatMap (·.nw), E id = none) → Rel D E s W a →
    (∀ E' W' a', Ext E E' (l.flatMap (·.nw)) → Rel D E' (stAt s l l.length) W' a' → Mod E s.heap W E' (stAt s l l.length).heap W' → Q .normal a' W') → wpOpsIn (Fw rnd) 0 P ops Q (List.range' i k) a W
  | 0, i, E, s, W, a, l, hi, hr, _, _, _, r, hQ => by
    simp only [runR, Option.some.injEq] at hr
    subst hr
    exact hQ E W a (Ext.refl E) r (Mod.refl _ _ _)
  | k + 1, i, E, s, W, a, l, hi, hr, hob, hnd, hfr, r, hQ => by
    simp only [runR] at hr
    split at hr
    · cases hr
    rename_i o ho
    split at hr
    · cases hr
    rename_i m hm
    simp only [Option.some.injEq] at hr
    subst hr
    rw [List.flatMap_cons, List.nodup_append] at hnd
    obtain ⟨op, hop'⟩ : ∃ op, ops[i]? = some op := ⟨ops[i], by simp [show i < ops.size by omega]⟩
    have hst := hop i op hop' rnd D E s W a o ho (hob o (by simp)) r (fun id hid => hfr id (by rw [List.flatMap_cons]; exact List.mem_append_left _ hid)) (wpOpsIn (Fw rnd) 0 P ops Q (List.range' (i + 1) k)) Q fun E' W' a' hx hr' hm' => by
      refine wpOps_list hop k (i + 1) E' o.s W' a' m (by omega) hm (fun x hx => hob x (List.mem_cons_of_mem _ hx)) hnd.2.1 (fun id hid => ?_) hr' fun E2 W2 a2 hx2 hr2 hm2 => ?_
      · cases he : E' id with
        | none => rfl
        | some x =>
          rcases hx.2 id (by rw [he]; simp) with h | h
          · exact absurd (hfr id (by rw [List.flatMap_cons]; exact List.mem_append_right _ hid)) h
          · exact absurd rfl (hnd.2.2 id h id hid)
      · have e : stAt s (o :: m) (o :: m).length = stAt o.s m m.length := by
          cases m with
          | nil => rfl
          | cons p m =>
            simp only [List.length_cons, stAt, nth]
            have : nth (p :: m) m.length ≠ none := by rw [nth_eq]; simp
            cases hq : nth (p :: m) m.length with
            | none => exact absurd hq this
            | some q => rfl
        refine hQ E2 W2 a2 (by rw [List.flatMap_cons]; exact hx.trans hx2) (by rw [e]; exact hr2) (by rw [e]; exact hm'.trans hm2)
    rw [List.range'_succ]
    simp only [wpOpsIn, hop']
    by_cases hw : Region.wanted op (yielded ops a.tmps) = true
    · rw [if_pos hw] at hst ⊢; exact hst
    · rw [if_neg hw] at hst ⊢; exact ⟨fun _ _ => trivial, hst⟩
def masks : List Oper → List Nat → List Nat
  | [], acc => acc
  | o :: l, acc => masks l (acc ++ [o.after.toList.foldl (fun m e => match Region.binds .any e with
      | true => (m ||| 2 ^ e.on) ||| (match nth acc e.on with | some q => q | none => 0)
      | false => m) 0])
structure RHint where
  nx : Nat
  hs : List (Nat × Hint)
def hintOf : List (Nat × Hint) → Nat → Hint
  | [], _ => .none
  | (k, h) :: l, i => match k == i with
    | true => h
    | false => hintOf l i
def nodupB : List Nat → Bool
  | [] => true
  | x :: l => match l.contains x with
    | true => false
    | false => nodupB l
theorem nodupB_ok : ∀ {l : List Nat}, nodupB l = true → l.Nodup
  | [], _ => List.nodup_nil
  | x :: l, h => by
    unfold nodupB at h
    cases hc : l.contains x with
    | true => rw [hc] at h; cases h
    | false =>
      rw [hc] at h
      refine List.nodup_cons.2 ⟨fun hx => ?_, nodupB_ok h⟩
      rw [List.contains_iff_mem.2 hx] at hc; cases hc
def freshB (dom l : List Nat) : Bool := allB (fun x => !dom.contains x) l
def flat {α β : Type} (f : α → List β) : List α → List β
  | [] => []
  | x :: l => f x ++ flat f l
theorem flat_eq {α β : Type} (f : α → List β) : ∀ l, flat f l = l.flatMap f
  | [] => rfl
  | x :: l => by simp [flat, flat_eq f l]
def regA (P : Program) (ops : Array Oper) (draw : Bool) (h : RHint) (s : St) (dom : List Nat) : Option (St × List Nat × List Prop) :=
  match runR (stepA P ops (hintOf h.hs) h.nx) ops.toList.length 0 s with
  | none => none
  | some l => match nodupB (flat (·.nw) l), freshB dom (flat (·.nw) l), draw with
    | true, true, false => some (stAt s l l.length, flat (·.nw) l, flat (·.ob) l)
    | true, true, true => match maskB ops.toList (masks ops.toList []), apartB (masks ops.toList []) l with
      | true, true => some (stAt s l l.length, flat (·.nw) l, flat (·.ob) l)
      | _, _ => none
    | _, _, _ => none
theorem allP_flat : ∀ {l : List (Out Unit)}, AllP (flat (·.ob) l) → ∀ o ∈ l, AllP o.ob
  | [], _, o, h => by cases h
  | x :: l, h, o, ho => by
    simp only [flat, AllP.append] at h
    rcases List.mem_cons.1 ho with rfl | ho
    · exact h.1
    · exact allP_flat h.2 o ho
theorem reg_ok {P : Program} {rnd : Option Nat} {D : List Deferred} {id : Nat} {ops : Array Oper} {draw : Bool} {h : RHint} {s s' : St} {dom nw : List Nat} {ob : List Prop} (hmx : P.follows .mixedOrders = true) (hreg : regA P ops draw h s dom = some (s', nw, ob)) (hob : AllP ob) {E : Env} {W : World} {a : Act} (r : Rel D E s W a) (hdom : ∀ id, E id ≠ none → id ∈ dom) :
    (Code.region id ops draw).wpIn (Fw rnd) 0 P (fun e a' W' => e = .normal ∧ ∃ E', Ext E E' nw ∧ Rel D E' s' W' a' ∧ Mod E s.heap W E' s'.heap W') a W := by
  unfold regA at hreg
  split at hreg
  · cases hreg
  rename_i l hl
  have hsz : ops.toList.length = ops.size := by simp
  obtain ⟨hlen, hat⟩ := runR_at _ _ _ _ _ hl
  have hrun : ∀ j o, nth l j = some o → (stepA P ops (hintOf h.hs) h.nx j).run (stAt s l j) = some o := fun j o hj => by
    obtain ⟨o', h1, h2⟩ := hat j (by rw [← hlen]; exact nth_lt hj)
    rw [hj] at h1
    obtain rfl := Option.some.inj h1
    simpa using h2
  have hfr : ∀ nw', freshB dom nw' = true → ∀ id ∈ nw', E id = none := fun nw' hf id hid => by
    have := allB_ok hf id hid
    cases he : E id with
    | none => rfl
    | some x =>
      have hd := hdom id (by rw [he]; simp)
      simp [hd] at this
  split at hreg
  · rename_i hnd hfresh
    simp only [Option.some.injEq, Prod.mk.injEq] at hreg
    obtain ⟨rfl, rfl, rfl⟩ := hreg
    have := wpOps_list (P := P) (rnd := rnd) (ops := ops) (fun i o ho => step_ok ops (hintOf h.hs) h.nx i o ho) ops.toList.length 0 E s W a l (by simp) hl (allP_flat hob) (by rw [← flat_eq]; exact nodupB_ok hnd) (by rw [← flat_eq]; exact hfr _ hfresh) r
      (Q := fun e a' W' => e = .normal ∧ ∃ E', Ext E E' (flat (·.nw) l) ∧ Rel D E' (stAt s l l.length) W' a' ∧ Mod E s.heap W E' (stAt s l l.length).heap W') fun E' W' a' hx hr' hm' => ⟨rfl, E', by rw [flat_eq]; exact hx, hr', hm'⟩
    refine wpIn_region ?_
    rw [List.range_eq_range', ← hsz]
    exact this
  · rename_i hnd hfresh
    split at hreg
    case h_2 => cases hreg
    rename_i hmask hap
    simp only [Option.some.injEq, Prod.mk.injEq] at hreg
    obtain ⟨rfl, rfl, rfl⟩ := hreg
    refine wpIn_region_any hmx ?_
    refine region_any (P := P) (rnd := rnd) (ops := ops) (f := stepA P ops (hintOf h.hs) h.nx) (M := masks ops.toList []) (s0 := s) (outs := l) (E0 := E) (W0 := W) (by rw [hlen, hsz]) hrun hmask hap (allP_flat hob) (fun i o ho => step_ok ops _ _ i o ho) (by rw [← flat_eq]; exact nodupB_ok hnd) (by rw [← flat_eq]; exact hfr _ hfresh)
      (fun E' s'' W' a' hs hx hr' hm' => ⟨rfl, E', by rw [flat_eq]; exact hx, hr'.congr (fun x => (hs x).symm), hm'.congr (fun _ => rfl) (fun id => by have := hs (.ob id); simpa [St.at] using this.symm)⟩) ops.size (Array.replicate ops.size false) E s _ a (by rw [left_new]; exact Nat.le_refl _) (by simp) (fun i o _ hl => by
        rw [Array.getD_eq_getD_getElem?, Array.getElem?_replicate] at hl
        split at hl <;> simp at hl) (fun x => ⟨0, Nat.zero_le _, rfl, fun j o hj => by omega, fun j o _ _ hl => by
          rw [Array.getD_eq_getD_getElem?, Array.getElem?_replicate] at hl
          split at hl <;> simp at hl⟩) r.drew ⟨rfl, rfl, rfl, Nat.le_refl _, fun _ _ _ => rfl, fun id o b h1 h3 => .inl ⟨id, o, h1, fun h => h, h3⟩⟩ (fun _ _ h => h) (fun _ h => .inl h)
  · cases hreg
def runC (P : Program) : Nat → List RHint → List Item → St → List Nat → Option (List Item × St × List Nat × List Prop)
  | 0, _, todo, s, dom => some (todo, s, dom, [])
  | n + 1, hs, todo, s, dom => match todo with
    | .code c :: k => match c with
      | .skip => runC P n hs k s dom
      | .label _ => runC P n hs k s dom
      | .seq a b => runC P n hs (.code a :: .code b :: k) s dom
      | .block id c => runC P n hs (.code c :: .inBlock id :: k) s dom
      | .loop c => runC P n hs (.code c :: .inLoop c :: k) s dom
      | .scope c => runC P n hs (.code c :: .inScope c :: k) s dom
      | .goto l => match gotoIn l k with
        | some k' => runC P n hs k' s dom
        | none => none
      | .exit id => match exitTo id k with
        | some k' => runC P n hs k' s dom
        | none => none
      | .cond x a b => match x with
        | .tmp t => match nth s.slots t with
          | some (.val (.bool true)) => runC P n hs (.code a :: k) s dom
          | some (.val (.bool false)) => runC P n hs (.code b :: k) s dom
          | _ => none
        | .const (.bool true) => runC P n hs (.code a :: k) s dom
        | .const (.bool false) => runC P n hs (.code b :: k) s dom
        | _ => none
      | .region _ ops draw => match hs with
        | [] => none
        | h :: hs' => match regA P ops draw h s dom with
          | none => none
          | some (s', nw, ob) => match runC P n hs' k s' (nw ++ dom) with
            | none => none
            | some (k', s2, d2, ob2) => some (k', s2, d2, ob ++ ob2)
      | _ => none
    | .inBlock _ :: k => runC P n hs k s dom
    | .inLoop c :: k => runC P n hs (.code c :: .inLoop c :: k) s dom
    | .inScope _ :: k => runC P n hs k s dom
    | _ => none
def EndOK (E0 : Env) (h0 : Hp) (W0 : World) (ret : AV) (outs : List (Nat × Option Ob)) (e : Ending) (W' : World) : Prop :=
  ∃ cv E', e = .returned cv ∧ Ext E0 E' (newIds h0 outs) ∧ RV E' ret cv ∧ RH E' (applyO h0 outs) W' ∧ Mod E0 h0 W0 E' (applyO h0 outs) W'
def mkD (r : Nat) : Deferred := { target := .collected r, args := #[] }
structure FK where
  fn : FuncId
  rnd : Option Nat := none
  marks : List Nat := []
instance : Coe FuncId FK := ⟨fun f => ⟨f, none, []⟩⟩
instance (n : Nat) : OfNat FK n := ⟨⟨n, none, []⟩⟩
structure FrOK (f : FK) (b : Frame) (cs : List Frame) (E0 : Env) (h0 : Hp) (W0 : World) : Prop where
  fn : b.fn = f.fn
  nr : f.rnd = none → b.roundOf = none
  rd : ∀ L, f.rnd = some L → ∃ l k, b.roundOf = some l ∧ E0 L = some (some ⟨l, 0, none⟩, k) ∧ ∃ c cs', cs = c :: cs'
  mks : ∀ r ∈ f.marks, r < W0.heap.size ∧ W0.heap[r]? = some (.deferred (some [])) ∧ ∀ id o, find h0 id = some o → ¬ Foot E0 W0 id o r
def Fin (P : Program) (f : FK) (E0 : Env) (h0 : Hp) (W0 : World) (ret : AV) (outs : List (Nat × Option Ob)) (m : Machine) (cs : List Frame) : Prop := match f.rnd, f.marks with
  | none, [] => ∃ e W' fr, EndOK E0 h0 W0 ret outs e W' ∧ Comes P m (lone fr cs W') e ∧ fr.fn = f.fn ∧ fr.leaving P W' e
  | none, ms => ∃ W' fr fn E', Steps P m (lone fr cs W') ∧ fr.fn = f.fn ∧ fr.mode = .returning ∧ fr.kind = .normal ∧ fr.defers = ms.map mkD ∧ P.funcs[f.fn]? = some fn ∧
      Ext E0 E' (newIds h0 outs) ∧ RH E' (applyO h0 outs) W' ∧ Mod E0 h0 W0 E' (applyO h0 outs) W' ∧
      ∀ W2 : World, W'.heap.size = W2.heap.size → (∀ b, b ∉ ms → W2.heap[b]? = W'.heap[b]?) → ∃ cv, (results fn fr.tmps).run P W2 = .ok cv W2 ∧ RV E' ret cv
  | some _, _ => ∃ cv W' c cs', EndOK E0 h0 W0 ret outs (.returned cv) W' ∧ cs = c :: cs' ∧ Steps P m (lone (c.finish cv) cs' W')
theorem Fin.of_steps {P : Program} {f : FK} {E0 : Env} {h0 : Hp} {W0 : World} {ret : AV} {outs : List (Nat × Option Ob)} {m m1 : Machine} {cs : List Frame} (h : Steps P m m1) (d : Fin P f E0 h0 W0 ret outs m1 cs) : Fin P f E0 h0 W0 ret outs m cs := by
  unfold Fin at d ⊢
  split at d
  · obtain ⟨e, W', fr, d0, d1, d2⟩ := d
    exact ⟨e, W', fr, d0, Comes.of_steps h d1, d2⟩
  · obtain ⟨W', fr, fn, E', d1, d2⟩ := d
    exact ⟨W', fr, fn, E', Steps.trans h d1, d2⟩
  · obtain ⟨cv, W', c, cs', d1, d2, d3⟩ := d
    exact ⟨cv, W', c, cs', d1, d2, Steps.trans h d3⟩
theorem stepR_scope {P : Program} {b : Frame} {a : Act} {k : List Item} {cs : List Frame} {w : World} {c : Code} : step P (lone (b.atR a (.code (.scope c) :: k)) cs w) = .next (lone (b.atR a (.code c :: .inScope c :: k)) cs w) :=
  step_lone_go (by simp [stepG, stepG.exec, Frame.atR])
theorem stepR_inScope {P : Program} {b : Frame} {a : Act} {k : List Item} {cs : List Frame} {w : World} {c : Code} : step P (lone (b.atR a (.inScope c :: k)) cs w) = .next (lone (b.atR a k) cs w) :=
  step_lone_go (by simp [stepG, stepG.exec, Frame.atR])
def Safe (P : Program) (f : FK) (h0 : Hp) (ret : AV) (outs : List (Nat × Option Ob)) (todo : List Item) (s : St) (dom : List Nat) : Prop :=
  ∀ (E0 : Env) (W0 : World) (E : Env) (W : World) (a : Act) (b : Frame) (cs : List Frame), FrOK f b cs E0 h0 W0 → b.kind = .normal → RH E0 h0 W0 → (∀ id ∈ newIds h0 outs, E0 id = none) → (∀ id, hasId h0 id = true → E id = E0 id) → Rel (f.marks.map mkD) E s W a → Mod E0 h0 W0 E s.heap W → (∀ id, E id ≠ none → id ∈ dom) →
    Fin P f E0 h0 W0 ret outs (lone (b.atR a todo) cs W) cs
theorem Safe.step {P : Program} {f : FK} {h0 : Hp} {ret : AV} {outs : List (Nat × Option Ob)} {todo todo' : List Item} {s : St} {dom : List Nat} (hs : ∀ (b : Frame) (a : Act) (cs : List Frame) (W : World), (∀ t v, nth s.slots t = some v → ∃ E c, a.tmps[t]? = some c ∧ RV E v c) → step P (lone (b.atR a todo) cs W) = .next (lone (b.atR a todo') cs W)) (h : Safe P f h0 ret outs todo' s dom) : Safe P f h0 ret outs todo s dom := by
  intro E0 W0 E W a b cs h1 h2 h3 h4 h5 h6 h7 h8
  exact (h E0 W0 E W a b cs h1 h2 h3 h4 h5 h6 h7 h8).of_steps (.one (hs b a cs W fun t v ht => let ⟨c, hc, hv⟩ := h6.sl t v ht; ⟨E, c, hc, hv⟩))
theorem Safe.run {P : Program} (hmx : P.follows .mixedOrders = true) {f : FK} {h0 : Hp} {ret : AV} {outs : List (Nat × Option Ob)} : ∀ (n : Nat) (hs : List RHint) (todo : List Item) (s : St) (dom : List Nat) {todo' : List Item} {s' : St} {dom' : List Nat} {ob : List Prop},
    (∀ id, hasId h0 id = true → id ∈ dom) → runC P n hs todo s dom = some (todo', s', dom', ob) → AllP ob → ((∀ id, hasId h0 id = true → id ∈ dom') → Safe P f h0 ret outs todo' s' dom') → Safe P f h0 ret outs todo s dom
  | 0, hs, todo, s, dom, todo', s', dom', ob, hd, h, _, hk => by
    simp only [runC, Option.some.injEq, Prod.mk.injEq] at h
    obtain ⟨rfl, rfl, rfl, rfl⟩ := h
    exact hk hd
  | n + 1, hs, todo, s, dom, todo', s', dom', ob, hd, h, hob, hk => by
    unfold runC at h
    split at h
    · rename_i c k
      split at h
      · exact Safe.step (fun b a cs W _ => stepR_skip) (Safe.run hmx n hs _ s dom hd h hob hk)
      · exact Safe.step (fun b a cs W _ => stepR_label) (Safe.run hmx n hs _ s dom hd h hob hk)
      · exact Safe.step (fun b a cs W _ => stepR_seq) (Safe.run hmx n hs _ s dom hd h hob hk)
      · exact Safe.step (fun b a cs W _ => stepR_block) (Safe.run hmx n hs _ s dom hd h hob hk)
      · exact Safe.step (fun b a cs W _ => stepR_loop) (Safe.run hmx n hs _ s dom hd h hob hk)
      · exact Safe.step (fun b a cs W _ => stepR_scope) (Safe.run hmx n hs _ s dom hd h hob hk)
      · split at h
        · rename_i k' hx
          exact Safe.step (fun b a cs W _ => stepR_goto hx) (Safe.run hmx n hs _ s dom hd h hob hk)
        · cases h
      · split at h
        · rename_i k' hx
          exact Safe.step (fun b a cs W _ => stepR_exit hx) (Safe.run hmx n hs _ s dom hd h hob hk)
        · cases h
      · rename_i x ca cb
        have hc : ∀ t, (∀ (b : Frame) (a : Act), (∀ t v, nth s.slots t = some v → ∃ E c, a.tmps[t]? = some c ∧ RV E v c) → a.eval x = .bool t) → runC P n hs (.code (if t then ca else cb) :: k) s dom = some (todo', s', dom', ob) → Safe P f h0 ret outs (.code (.cond x ca cb) :: k) s dom := fun t ht hr =>
          Safe.step (fun b a cs W hsl => stepR_cond (ht b a hsl)) (Safe.run hmx n hs _ s dom hd hr hob hk)
        split at h
        · rename_i t
          have key : ∀ t b', nth s.slots t = some (.val (.bool b')) → ∀ (b : Frame) (a : Act), (∀ t v, nth s.slots t = some v → ∃ E c, a.tmps[t]? = some c ∧ RV E v c) → a.eval (.tmp t) = .bool b' := fun t b' hv b a hsl => by
            obtain ⟨E, c, hc, hr⟩ := hsl t _ hv
            simp only [RV] at hr
            show a.tmps.getD t undef = _
            rw [Array.getD_eq_getD_getElem?, hc, ← hr]; rfl
          split at h
          · rename_i hv
            exact hc true (key _ _ hv) h
          · rename_i hv
            exact hc false (key _ _ hv) h
          · cases h
        · exact hc true (fun _ _ _ => rfl) h
        · exact hc false (fun _ _ _ => rfl) h
        · cases h
      · rename_i id ops draw
        split at h
        · cases h
        rename_i hh hs'
        split at h
        · cases h
        rename_i s1 nw ob1 hreg
        split at h
        · cases h
        rename_i k2 s2 d2 ob2 hr
        simp only [Option.some.injEq, Prod.mk.injEq] at h
        obtain ⟨rfl, rfl, rfl, rfl⟩ := h
        rw [AllP.append] at hob
        have hnext := Safe.run hmx n hs' k s1 (nw ++ dom) (fun id hid => List.mem_append_right _ (hd id hid)) hr hob.2 hk
        intro E0 W0 E W a b cs h1 h2 h3 h4 h5 h6 h7 h8
        obtain ⟨e, a', W', ⟨rfl, E', hx, hr', hm⟩, harr⟩ := reg_ok (rnd := b.roundOf) (id := id) hmx hreg hob.1 h6 h8 b k cs rfl trivial (fw_room _ _)
        have hE : ∀ id, hasId h0 id = true → E' id = E0 id := fun id hid => by
          have h9 := h5 id hid
          cases he : E0 id with
          | some x => rw [hx.1 id x (by rw [h9, he])]
          | none =>
            exfalso
            unfold hasId at hid
            split at hid
            · rename_i o ho
              obtain ⟨y, hy⟩ := (h3.holds id o ho).bound
              rw [he] at hy; cases hy
            · cases hid
        have q2 := hnext E0 W0 E' W' a' b cs h1 h2 h3 h4 hE hr' (h7.trans hm) (fun id he => (hx.2 id he).elim (fun h => List.mem_append_right _ (h8 id h)) (fun h => List.mem_append_left _ h))
        exact q2.of_steps (StepsIn.steps harr)
      · cases h
    · exact Safe.step (fun b a cs W _ => stepR_inBlock) (Safe.run hmx n hs _ s dom hd h hob hk)
    · exact Safe.step (fun b a cs W _ => stepR_inLoop) (Safe.run hmx n hs _ s dom hd h hob hk)
    · exact Safe.step (fun b a cs W _ => stepR_inScope) (Safe.run hmx n hs _ s dom hd h hob hk)
    · cases h
end Go.Proofs.Ytbgbjgedjmhcaaa
namespace Go.Proofs.Ytbgbjgedjmhcaaa
open Go.RowKit
mutual
def closedV (ids : List Nat) : AV → Bool
  | .val _ => true
  | .ptr id _ _ _ => ids.contains id
  | .sl id _ _ _ _ => ids.contains id
  | .mp id => ids.contains id
  | .yld id => ids.contains id
  | .agg cs => closedL ids cs
  | .tup cs => closedL ids cs
  | .fn _ a b => closedL ids a && closedL ids b
  | .ifc _ v => closedV ids v
  | .anyB _ _ => true
  | .len _ => true
  | .junk => true
def closedL (ids : List Nat) : List AV → Bool
  | [] => true
  | x :: l => closedV ids x && closedL ids l
end
def closedO (ids : List Nat) : Ob → Prop
  | .blk _ cs => closedL ids cs = true
  | .vec _ _ _ row => ∀ q, closedL ids (row q) = true
  | .ro _ _ row => ∀ q, closedL ids (row q) = true
  | .obj _ => True
  | .box _ => True
  | .lp _ _ _ _ _ _ sl => closedL ids sl = true
def closedH (ids : List Nat) : Hp → Prop
  | [] => True
  | (id, o) :: h => ids.contains id = true ∧ closedO ids o ∧ closedH ids h
mutual
theorem RV.agree {ids : List Nat} {E E' : Env} (h : ∀ id, id ∈ ids → E' id = E id) : ∀ (v : AV) (c : Value), closedV ids v = true → RV E v c → RV E' v c
  | .val v, c, _, k => by simpa only [RV] using k
  | .ptr id i es j, c, hc, k => by
    simp only [RV] at k ⊢
    obtain ⟨a, q, e, r⟩ := k
    exact ⟨a, q, by rw [h id (List.contains_iff_mem.1 hc)]; exact e, r⟩
  | .sl id i es n cc, c, hc, k => by
    simp only [RV] at k ⊢
    obtain ⟨a, q, e, r⟩ := k
    exact ⟨a, q, by rw [h id (List.contains_iff_mem.1 hc)]; exact e, r⟩
  | .agg cs, c, hc, k => by
    simp only [RV] at k ⊢
    obtain ⟨xs, e, r⟩ := k
    exact ⟨xs, e, RVs.agree h cs xs hc r⟩
  | .tup cs, c, hc, k => by
    simp only [RV] at k ⊢
    obtain ⟨xs, e, r⟩ := k
    exact ⟨xs, e, RVs.agree h cs xs hc r⟩
  | .fn f l m, c, hc, k => by
    simp only [RV] at k ⊢
    obtain ⟨xs, ys, e, r, r2⟩ := k
    simp only [closedV, Bool.and_eq_true] at hc
    exact ⟨xs, ys, e, RVs.agree h l xs hc.1 r, RVs.agree h m ys hc.2 r2⟩
  | .ifc t v, c, hc, k => by
    simp only [RV] at k ⊢
    obtain ⟨x, e, r⟩ := k
    exact ⟨x, e, RV.agree h v x hc r⟩
  | .mp id, c, hc, k => by
    simp only [RV] at k ⊢
    obtain ⟨a, q, e, r⟩ := k
    exact ⟨a, q, by rw [h id (List.contains_iff_mem.1 hc)]; exact e, r⟩
  | .yld id, c, hc, k => by
    simp only [RV] at k ⊢
    obtain ⟨a, q, e, r⟩ := k
    exact ⟨a, q, by rw [h id (List.contains_iff_mem.1 hc)]; exact e, r⟩
  | .anyB p q, c, _, k => by simpa only [RV] using k
  | .len n, c, _, k => by simpa only [RV] using k
  | .junk, c, _, k => by simp only [RV]
theorem RVs.agree {ids : List Nat} {E E' : Env} (h : ∀ id, id ∈ ids → E' id = E id) : ∀ (v : List AV) (c : List Value), closedL ids v = true → RVs E v c → RVs E' v c
  | [], c, _, k => by simpa only [RVs] using k
  | x :: xs, c, hc, k => by
    simp only [RVs] at k ⊢
    obtain ⟨y, l, e, r, r2⟩ := k
    simp only [closedL, Bool.and_eq_true] at hc
    exact ⟨y, l, e, RV.agree h x y hc.1 r, RVs.agree h xs l hc.2 r2⟩
end
theorem Holds.agree {ids : List Nat} {E E' : Env} {W : World} (h : ∀ id, id ∈ ids → E' id = E id) {id : Nat} (hid : id ∈ ids) : ∀ {o : Ob}, closedO ids o → Holds E W id o → Holds E' W id o
  | .blk ty cs, hc, ⟨b, k, xs, h1, h2, h3, h4⟩ => ⟨b, k, xs, by rw [h id hid]; exact h1, h2, RVs.agree h _ _ hc h3, h4⟩
  | .vec ty es n row, hc, ⟨b, k, xs, h1, h2, h3, h4⟩ => ⟨b, k, xs, by rw [h id hid]; exact h1, h2, h3, fun q hq => RVs.agree h _ _ (hc q) (h4 q hq)⟩
  | .ro es n row, hc, ⟨b, k, xs, h1, h2, h3, h4, h5⟩ => ⟨b, k, xs, by rw [h id hid]; exact h1, h2, h3, h4, fun q hq => RVs.agree h _ _ (hc q) (h5 q hq)⟩
  | .obj m, _, ⟨b, k, ob, h1, h2, h3⟩ => ⟨b, k, ob, by rw [h id hid]; exact h1, h2, h3⟩
  | .box B, _, ⟨b, k, h1, h2⟩ => ⟨b, k, by rw [h id hid]; exact h1, h2⟩
  | .lp .., hc, ⟨b, k, xs, df, h1, h2, h3⟩ => ⟨b, k, xs, df, by rw [h id hid]; exact h1, h2, RVs.agree h _ _ hc h3⟩
theorem closedH_at {ids : List Nat} : ∀ {h : Hp}, closedH ids h → ∀ id o, find h id = some o → id ∈ ids ∧ closedO ids o
  | [], _, id, o, e => by simp [find] at e
  | (k, x) :: h, hc, id, o, e => by
    unfold find at e
    obtain ⟨h1, h2, h3⟩ := hc
    by_cases hk : k = id
    · subst hk
      simp at e
      subst e
      exact ⟨List.contains_iff_mem.1 h1, h2⟩
    · simp [hk] at e
      exact closedH_at h3 id o e
def VLe (x y : AV) : Prop := match y with
  | .junk => True
  | y => x = y
def SlLe : List AV → List AV → Prop
  | [], [] => True
  | x :: xs, y :: ys => VLe x y ∧ SlLe xs ys
  | _, _ => False
def MDLe : MD → MD → Prop
  | .iset kd g, .iset kd' g' => kd = kd' ∧ ∀ n, g n = g' n
  | .sset g, .sset g' => ∀ n, g n = g' n
  | _, _ => False
theorem MDLe.ok : ∀ {m m' : MD} {ob : Obj}, MDLe m m' → MDOK m ob → MDOK m' ob
  | .iset kd g, .iset kd' g', ob, ⟨h1, h2⟩, ⟨es, c, e1, e2, e3⟩ => ⟨es, c, e1, by subst h1; exact e2, fun n => (e3 n).trans (h2 n)⟩
  | .sset g, .sset g', ob, h2, ⟨es, c, e1, e2, e3⟩ => ⟨es, c, e1, e2, fun n => (e3 n).trans (h2 n)⟩
theorem MDLe.refl : ∀ m : MD, MDLe m m
  | .iset _ _ => ⟨rfl, fun _ => rfl⟩
  | .sset _ => fun _ => rfl
def BoxLe (B B' : Box) : Prop := ∀ H a, B.ok H a → B'.ok H a ∧ ∀ b, B'.foot H a b → B.foot H a b
def ObLe : Ob → Ob → Prop
  | .blk ty cs, .blk ty' cs' => ty = ty' ∧ SlLe cs cs'
  | .vec ty es n row, .vec ty' es' n' row' => ty = ty' ∧ es = es' ∧ n = n' ∧ ∀ q, q < n' → row q = row' q
  | .ro es n row, .ro es' n' row' => es = es' ∧ n = n' ∧ ∀ q, q < n' → row q = row' q
  | .obj m, .obj m' => MDLe m m'
  | .box B, .box B' => BoxLe B B'
  | .lp f p a b s e l, .lp f' p' a' b' s' e' l' => f = f' ∧ p = p' ∧ a = a' ∧ b = b' ∧ s = s' ∧ e = e' ∧ SlLe l l'
  | _, _ => False
def HpLe (h : Hp) : Hp → Prop
  | [] => True
  | (id, o') :: l => (match find h id with
    | some o => ObLe o o'
    | none => False) ∧ HpLe h l
theorem VLe.ok {E : Env} {x y : AV} {c : Value} (h : VLe x y) (r : RV E x c) : RV E y c := by
  unfold VLe at h
  split at h
  · simp only [RV]
  · rw [← h]; exact r
theorem SlLe.rvs {E : Env} : ∀ {xs ys : List AV} {cs : List Value}, SlLe xs ys → RVs E xs cs → RVs E ys cs
  | [], [], cs, _, r => r
  | x :: xs, y :: ys, cs, h, r => by
    simp only [RVs] at r ⊢
    obtain ⟨c, l, e, r1, r2⟩ := r
    exact ⟨c, l, e, h.1.ok r1, SlLe.rvs h.2 r2⟩
  | [], _ :: _, _, h, _ => h.elim
  | _ :: _, [], _, h, _ => h.elim
theorem SlLe.get : ∀ {xs ys : List AV}, SlLe xs ys → xs.length = ys.length ∧ ∀ t y, nth ys t = some y → ∃ x, nth xs t = some x ∧ VLe x y
  | [], [], _ => ⟨rfl, fun t y h => by simp [nth] at h⟩
  | x :: xs, y :: ys, h => by
    obtain ⟨h1, h2⟩ := SlLe.get h.2
    refine ⟨by simp [h1], fun t z hz => ?_⟩
    cases t with
    | zero => simp only [nth, Option.some.injEq] at hz; subst hz; exact ⟨x, rfl, h.1⟩
    | succ t => simp only [nth] at hz ⊢; exact h2 t z hz
  | [], _ :: _, h => h.elim
  | _ :: _, [], h => h.elim
theorem ObLe.ok {E : Env} {W : World} {id : Nat} : ∀ {o o' : Ob}, ObLe o o' → Holds E W id o → Holds E W id o' ∧ (o'.owned = o.owned)
  | .blk ty cs, .blk ty' cs', ⟨h1, h2⟩, ⟨b, k, xs, g1, g2, g3, g4⟩ => by
    subst h1
    exact ⟨⟨b, k, xs, g1, g2, h2.rvs g3, g4⟩, rfl⟩
  | .vec ty es n row, .vec ty' es' n' row', ⟨h1, h2, h3, h4⟩, ⟨b, k, xs, g1, g2, g3, g4⟩ => by
    subst h1 h2 h3
    exact ⟨⟨b, k, xs, g1, g2, g3, fun q hq => by rw [← h4 q hq]; exact g4 q hq⟩, rfl⟩
  | .ro es n row, .ro es' n' row', ⟨h2, h3, h4⟩, ⟨b, k, xs, g1, g2, g3, g4, g5⟩ => by
    subst h2 h3
    exact ⟨⟨b, k, xs, g1, g2, g3, g4, fun q hq => by rw [← h4 q hq]; exact g5 q hq⟩, rfl⟩
  | .obj m, .obj m', h, ⟨b, k, ob, g1, g2, g3⟩ => ⟨⟨b, k, ob, g1, g2, MDLe.ok h g3⟩, rfl⟩
  | .box B, .box B', h, ⟨b, k, g1, g2⟩ => ⟨⟨b, k, g1, (h _ b g2).1⟩, rfl⟩
  | .lp .., .lp .., ⟨h1, h2, h3, h4, h5, h6, h7⟩, ⟨b, k, xs, df, g1, g2, g3⟩ => by
    subst h1 h2 h3 h4 h5 h6
    exact ⟨⟨b, k, xs, df, g1, g2, h7.rvs g3⟩, rfl⟩
  | .lp .., .blk .., h, _ => h.elim
  | .blk .., .lp .., h, _ => h.elim
  | .lp .., .vec .., h, _ => h.elim
  | .vec .., .lp .., h, _ => h.elim
  | .lp .., .ro .., h, _ => h.elim
  | .ro .., .lp .., h, _ => h.elim
  | .lp .., .obj _, h, _ => h.elim
  | .obj _, .lp .., h, _ => h.elim
  | .lp .., .box _, h, _ => h.elim
  | .box _, .lp .., h, _ => h.elim
  | .box _, .obj _, h, _ => h.elim
  | .obj _, .box _, h, _ => h.elim
  | .box _, .blk .., h, _ => h.elim
  | .blk .., .box _, h, _ => h.elim
  | .box _, .vec .., h, _ => h.elim
  | .vec .., .box _, h, _ => h.elim
  | .box _, .ro .., h, _ => h.elim
  | .ro .., .box _, h, _ => h.elim
  | .obj _, .blk .., h, _ => h.elim
  | .obj _, .vec .., h, _ => h.elim
  | .obj _, .ro .., h, _ => h.elim
  | .blk .., .obj _, h, _ => h.elim
  | .vec .., .obj _, h, _ => h.elim
  | .ro .., .obj _, h, _ => h.elim
  | .blk .., .vec .., h, _ => h.elim
  | .blk .., .ro .., h, _ => h.elim
  | .vec .., .blk .., h, _ => h.elim
  | .vec .., .ro .., h, _ => h.elim
  | .ro .., .blk .., h, _ => h.elim
  | .ro .., .vec .., h, _ => h.elim
theorem ObLe.foot {E : Env} {W : World} {id b : Nat} : ∀ {o o' : Ob}, ObLe o o' → Holds E W id o → Foot E W id o' b → Foot E W id o b
  | .blk .., .blk .., _, _, h => h
  | .vec .., .vec .., _, _, h => h
  | .ro .., .ro .., _, _, h => h
  | .obj _, .obj _, _, _, h => h
  | .lp .., .lp .., _, _, h => h
  | .lp .., .blk .., h, _, _ => h.elim
  | .blk .., .lp .., h, _, _ => h.elim
  | .lp .., .vec .., h, _, _ => h.elim
  | .vec .., .lp .., h, _, _ => h.elim
  | .lp .., .ro .., h, _, _ => h.elim
  | .ro .., .lp .., h, _, _ => h.elim
  | .lp .., .obj _, h, _, _ => h.elim
  | .obj _, .lp .., h, _, _ => h.elim
  | .lp .., .box _, h, _, _ => h.elim
  | .box _, .lp .., h, _, _ => h.elim
  | .box B, .box B', h, ⟨c, k, g1, g2⟩, ⟨a, h3, h4⟩ => by
    simp only [blkOf, g1, Option.some.injEq] at h3
    subst h3
    exact ⟨c, by simp [blkOf, g1], (h _ c g2).2 b h4⟩
  | .obj _, .blk .., h, _, _ => h.elim
  | .obj _, .vec .., h, _, _ => h.elim
  | .obj _, .ro .., h, _, _ => h.elim
  | .blk .., .obj _, h, _, _ => h.elim
  | .vec .., .obj _, h, _, _ => h.elim
  | .ro .., .obj _, h, _, _ => h.elim
  | .blk .., .vec .., h, _, _ => h.elim
  | .blk .., .ro .., h, _, _ => h.elim
  | .vec .., .blk .., h, _, _ => h.elim
  | .vec .., .ro .., h, _, _ => h.elim
  | .ro .., .blk .., h, _, _ => h.elim
  | .ro .., .vec .., h, _, _ => h.elim
  | .box _, .obj _, h, _, _ => h.elim
  | .obj _, .box _, h, _, _ => h.elim
  | .box _, .blk .., h, _, _ => h.elim
  | .blk .., .box _, h, _, _ => h.elim
  | .box _, .vec .., h, _, _ => h.elim
  | .vec .., .box _, h, _, _ => h.elim
  | .box _, .ro .., h, _, _ => h.elim
  | .ro .., .box _, h, _, _ => h.elim
theorem HpLe.at : ∀ {h l : Hp}, HpLe h l → ∀ id o', find l id = some o' → ∃ o, find h id = some o ∧ ObLe o o'
  | h, [], _, id, o', e => by simp [find] at e
  | h, (k, x) :: l, hl, id, o', e => by
    unfold find at e
    obtain ⟨h1, h2⟩ := hl
    by_cases hk : k = id
    · subst hk
      simp at e
      subst e
      cases hf : find h k with
      | none => rw [hf] at h1; exact h1.elim
      | some o => rw [hf] at h1; exact ⟨o, rfl, h1⟩
    · simp [hk] at e
      exact HpLe.at h2 id o' e
theorem RH.le {ids : List Nat} {E E' : Env} {h h' : Hp} {W : World} (r : RH E h W) (hl : HpLe h h') (hc : closedH ids h') (he : ∀ id, id ∈ ids → E' id = E id) : RH E' h' W := by
  have hb : ∀ id o', find h' id = some o' → blkOf E' id = blkOf E id := fun id o' ho => by
    have := he id (closedH_at hc id o' ho).1
    simp only [blkOf, this]
  refine ⟨fun id o' ho => ?_, fun i j o p hi hj hne ho b hbi => ?_⟩
  · obtain ⟨o, h1, h2⟩ := hl.at id o' ho
    obtain ⟨h3, h4⟩ := closedH_at hc id o' ho
    exact (h2.ok (r.holds id o h1)).1.agree he h3 h4
  · obtain ⟨o1, h1, h2⟩ := hl.at i o hi
    obtain ⟨p1, h3, h4⟩ := hl.at j p hj
    exact fun hbj => r.apart i j o1 p1 h1 h3 hne (by rw [← (h2.ok (r.holds i o1 h1)).2]; exact ho) b (h2.foot (r.holds i o1 h1) (hbi.cg (hb i o hi).symm)) (h4.foot (r.holds j p1 h3) (hbj.cg (hb j p hj).symm))
theorem Mod.le {ids : List Nat} {E0 E E' : Env} {h0 h h' : Hp} {W0 W : World} (m : Mod E0 h0 W0 E h W) (r : RH E h W) (hl : HpLe h h') (hc : closedH ids h') (he : ∀ id, id ∈ ids → E' id = E id) : Mod E0 h0 W0 E' h' W :=
  ⟨m.os, m.tape, m.output, m.size, m.old, fun id o' b ho hb => by
    obtain ⟨o, h1, h2⟩ := hl.at id o' ho
    have : blkOf E' id = blkOf E id := by simp only [blkOf, he id (closedH_at hc id o' ho).1]
    refine (m.own id o b h1 (h2.foot (r.holds id o h1) (hb.cg this.symm))).imp_left fun ⟨i, p, p1, p2, p3⟩ => ⟨i, p, p1, fun h => p2 ?_, p3⟩
    rw [← (h2.ok (r.holds id o h1)).2]; exact h⟩
section
variable {P : Program} {f : FK} {h0 : Hp} {ret : AV} {outs : List (Nat × Option Ob)} {todo : List Item} {s s' : St} {dom dom' : List Nat}
theorem Safe.to (hd : ∀ id, hasId h0 id = true → id ∈ dom') (hsub : ∀ id, id ∈ dom' → True) (hsl : SlLe s.slots s'.slots) (hcl : closedL dom' s'.slots = true) (hl : HpLe s.heap s'.heap) (hc : closedH dom' s'.heap) (h : Safe P f h0 ret outs todo s' dom') : Safe P f h0 ret outs todo s dom := by
  intro E0 W0 E W a b cs h1 h2 h3 h4 h5 h6 h7 h8
  have he : ∀ id, id ∈ dom' → (fun id => if id ∈ dom' then E id else none : Env) id = E id := fun id hid => by simp only [if_pos hid]
  refine h E0 W0 (fun id => if id ∈ dom' then E id else none) W a b cs h1 h2 h3 h4 (fun id hid => by rw [← h5 id hid]; exact he id (hd id hid)) ⟨?_, fun t v ht => ?_, h6.df, h6.hp.le hl hc he⟩ (h7.le h6.hp hl hc he) (fun id hid => ?_)
  · rw [h6.size]; exact hsl.get.1
  · obtain ⟨x, hx, hle⟩ := hsl.get.2 t v ht
    obtain ⟨c, c1, c2⟩ := h6.sl t x hx
    have hcv : closedV dom' v = true := by
      have : ∀ (l : List AV), closedL dom' l = true → ∀ t v, nth l t = some v → closedV dom' v = true := by
        intro l
        induction l with
        | nil => intro _ t v h; simp [nth] at h
        | cons x l ih =>
          intro hl t v hv
          simp only [closedL, Bool.and_eq_true] at hl
          cases t with
          | zero => simp only [nth, Option.some.injEq] at hv; subst hv; exact hl.1
          | succ t => exact ih hl.2 t v (by simpa [nth] using hv)
      exact this _ hcl t v ht
    exact ⟨c, c1, RV.agree he v c hcv (hle.ok c2)⟩
  · by_cases hh : id ∈ dom'
    · exact hh
    · simp only [if_neg hh] at hid; exact absurd rfl hid
theorem Safe.loop {σ : Type} (μ : σ → Nat) (I : σ → St) (pre : σ → Prop) (h : ∀ g, pre g → (∀ g', pre g' → μ g' < μ g → Safe P f h0 ret outs todo (I g') dom) → Safe P f h0 ret outs todo (I g) dom) : ∀ g, pre g → Safe P f h0 ret outs todo (I g) dom := by
  have : ∀ n g, μ g = n → pre g → Safe P f h0 ret outs todo (I g) dom := by
    intro n
    induction n using Nat.strongRecOn with
    | ind n ih => intro g hn hp; exact h g hp fun g' hp' hlt => ih (μ g') (by omega) g' rfl hp'
  exact fun g hp => this _ g rfl hp
end
def resL (P : Program) : List ResultVar → (List AV → Ac AV) → Ac AV
  | [], k => k []
  | .tmp t :: l, k => .slot t fun v => resL P l fun vs => k (v :: vs)
  | .cell p ty :: l, k => .slot p fun v => (loadA P ty v).bind fun x => resL P l fun vs => k (x :: vs)
def retA (P : Program) (rs : List ResultVar) : Ac AV := resL P rs fun vs => match vs with
  | [v] => .ret v
  | vs => .ret (.tup vs)
def resF (tmps : Array Value) : ResultVar → Sem Value
  | .tmp t => pure (tmps.getD t undef)
  | .cell p t => do loadVar t (← asAddr (tmps.getD p undef))
theorem results_eq (fn : Func) (tmps : Array Value) : results fn tmps = (do let vs ← fn.results.mapM (resF tmps); pure (if h : vs.size = 1 then vs[0] else .tuple vs)) := by
  unfold results
  congr 2
theorem resL_ok {P : Program} {D : List Deferred} {E : Env} {s : St} {W : World} {a : Act} (r : Rel D E s W a) : ∀ (rs : List ResultVar) (k : List AV → Ac AV) (out : Out AV), (resL P rs k).run s = some out → AllP out.ob →
    ∃ vs xs o2, (k vs).run s = some o2 ∧ out.a = o2.a ∧ RVs E vs xs ∧ (rs.mapM (resF a.tmps)).run P W = .ok xs W
  | [], k, out, h, hob => ⟨[], [], out, h, rfl, by simp [RVs], by simp⟩
  | .tmp t :: l, k, out, h, hob => by
    simp only [resL, Ac.run] at h
    split at h
    · cases h
    rename_i v hv
    split at h
    · cases h
    rename_i q hq
    simp only [Option.some.injEq] at h
    subst h
    obtain ⟨vs, xs, o2, g1, g2, g6, g7⟩ := resL_ok r l _ q hq hob
    obtain ⟨c, hc, hcv⟩ := r.sl t v hv
    have he : a.tmps.getD t undef = c := by rw [Array.getD_eq_getD_getElem?, hc]; rfl
    refine ⟨v :: vs, c :: xs, o2, g1, g2, by simp only [RVs]; exact ⟨c, xs, rfl, hcv, g6⟩, ?_⟩
    rw [List.mapM_cons]
    simp only [resF, Sem.run_bind, Sem.run_pure, Result.andThen_ok, he, g7]
  | .cell p ty :: l, k, out, h, hob => by
    simp only [resL, Ac.run] at h
    split at h
    · cases h
    rename_i v hv
    split at h
    · cases h
    rename_i q hq
    simp only [Option.some.injEq] at h
    subst h
    obtain ⟨o1, o2, b1, b2, b3, b4, b5, b6, b7, b8⟩ := run_bind _ _ s q hq
    simp only [b8, AllP.append] at hob
    obtain ⟨c, hc, hcv⟩ := r.sl p v hv
    have he : a.tmps.getD p undef = c := by rw [Array.getD_eq_getD_getElem?, hc]; rfl
    obtain ⟨l1, l2, cv, l3, l4⟩ := load_q (P := P) r.hp (t := ty) hcv o1 b1 hob.1
    rw [l1] at b2
    obtain ⟨vs, xs, o3, g1, g2, g6, g7⟩ := resL_ok r l _ o2 b2 hob.2
    refine ⟨o1.a :: vs, cv :: xs, o3, g1, by rw [b3]; exact g2, by simp only [RVs]; exact ⟨cv, xs, rfl, l4, g6⟩, ?_⟩
    have m3 : (do loadVar ty (← asAddr c) : Sem Value).run P W = .ok cv W := by
      simp only [Instr.loadAt, Sem.run_bind] at l3 ⊢
      cases c <;> try (simp [Instr.sureAddr, stuck, Sem.run, Result.andThen] at l3; done)
      rename_i ad
      cases ad with
      | none => simp [Instr.sureAddr, stuck, Sem.run, Result.andThen] at l3
      | some ad => simpa [Instr.sureAddr, asAddr] using l3
    have m4 : (resF a.tmps (.cell p ty)).run P W = .ok cv W := by
      show (do loadVar ty (← asAddr (a.tmps.getD p undef)) : Sem Value).run P W = _
      rw [he]; exact m3
    rw [List.mapM_cons]
    simp only [Sem.run_bind, m4, Result.andThen_ok, g7, Sem.run_pure]
theorem res_ok {P : Program} {D : List Deferred} {E : Env} {s : St} {W : World} {a : Act} (r : Rel D E s W a) {fn : Func} {out : Out AV} (h : (retA P fn.results.toList).run s = some out) (hob : AllP out.ob) : ∃ cv, (results fn a.tmps).run P W = .ok cv W ∧ RV E out.a cv := by
  obtain ⟨vs, xs, o2, g1, g2, g3, g4⟩ := resL_ok r _ _ out h hob
  have hm : (fn.results.mapM (resF a.tmps)).run P W = .ok xs.toArray W := by
    rw [Array.mapM_eq_mapM_toList]
    generalize List.mapM (resF a.tmps) fn.results.toList = m at g4 ⊢
    simp [g4]
  have hres : (results fn a.tmps).run P W = .ok (if h : xs.toArray.size = 1 then xs.toArray[0] else .tuple xs.toArray) W := by
    rw [results_eq, Sem.run_bind, hm]
    rfl
  refine ⟨_, hres, ?_⟩
  rw [g2]
  split at g1
  · rename_i v
    simp only [Ac.run, Option.some.injEq] at g1
    subst g1
    simp only [RVs] at g3
    obtain ⟨y, l, rfl, hy, rfl⟩ := g3
    simpa using hy
  · rename_i hne
    simp only [Ac.run, Option.some.injEq] at g1
    subst g1
    have hsz : ¬ xs.toArray.size = 1 := fun e => by
      have h1 : vs.length = 1 := by rw [← g3.length]; simpa using e
      obtain ⟨v, hv⟩ := List.length_eq_one_iff.1 h1
      exact hne v hv
    rw [dif_neg hsz]
    simp only [RV]
    exact ⟨xs, rfl, g3⟩
section
variable {P : Program} {f : FK} {h0 : Hp} {ret : AV} {outs : List (Nat × Option Ob)} {todo : List Item} {s : St} {dom : List Nat}
def idsOf : Hp → List Nat
  | [] => []
  | (id, _) :: h => id :: idsOf h
theorem idsOf_mem : ∀ {h : Hp} {id : Nat}, id ∈ idsOf h ↔ hasId h id = true
  | [], id => by simp [idsOf, hasId, find]
  | (k, o) :: h, id => by
    have ih := idsOf_mem (h := h) (id := id)
    unfold idsOf
    rw [List.mem_cons, ih]
    have hf : find ((k, o) :: h) id = if k == id then some o else find h id := by simp only [find]
    unfold hasId
    rw [hf]
    by_cases e : k = id
    · simp [e]
    · have e2 : (k == id) = false := by simpa using e
      rw [e2]
      constructor
      · rintro (h1 | h1)
        · exact absurd h1.symm e
        · exact h1
      · exact fun h1 => .inr h1
def isEnd : List Item → Bool
  | [] => true
  | .code .ret :: _ => true
  | _ => false
theorem isEnd_ok {t : List Item} (h : isEnd t = true) : t = [] ∨ ∃ k, t = .code .ret :: k := by
  unfold isEnd at h
  split at h
  · exact .inl rfl
  · exact .inr ⟨_, rfl⟩
  · cases h
theorem Safe.fin {fn : Func} (hf : P.funcs[f.fn]? = some fn) (ht : isEnd todo = true) {out : Out AV} (hr : (retA P fn.results.toList).run s = some out) (hob : AllP out.ob) (he : VLe out.a ret) (hl : HpLe s.heap (applyO h0 outs))
    (hc : closedH (idsOf h0 ++ newIds h0 outs) (applyO h0 outs)) (hcr : closedV (idsOf h0 ++ newIds h0 outs) ret = true) (hrn : f.rnd = none := by rfl) : Safe P f h0 ret outs todo s dom := by
  intro E0 W0 E W a b cs h1 h2 h3 h4 h5 h6 h7 h8
  obtain ⟨cv, q1, q2⟩ := res_ok h6 hr hob
  have hag : ∀ id, id ∈ idsOf h0 ++ newIds h0 outs → (fun id => if id ∈ newIds h0 outs then E id else E0 id : Env) id = E id := fun id hid => by
    by_cases hn : id ∈ newIds h0 outs
    · simp only [if_pos hn]
    · simp only [if_neg hn]
      exact (h5 id (idsOf_mem.1 ((List.mem_append.1 hid).resolve_right hn))).symm
  have hx : Ext E0 (fun id => if id ∈ newIds h0 outs then E id else E0 id : Env) (newIds h0 outs) := by
    refine ⟨fun id x hx => ?_, fun id hid => ?_⟩
    · by_cases hn : id ∈ newIds h0 outs
      · rw [h4 id hn] at hx; cases hx
      · simp only [if_neg hn]; exact hx
    · by_cases hn : id ∈ newIds h0 outs
      · exact .inr hn
      · simp only [if_neg hn] at hid; exact .inl hid
  have hend : EndOK E0 h0 W0 ret outs (.returned cv) W := ⟨cv, _, rfl, hx, (he.ok q2).agree hag ret cv hcr, h6.hp.le hl hc hag, h7.le h6.hp hl hc hag⟩
  have hst : ∃ td, Steps P (lone (b.atR a todo) cs W) (lone { b.atR a td with mode := .returning } cs W) := by
    rcases isEnd_ok ht with rfl | ⟨k, rfl⟩
    · exact ⟨_, .one (stepR_end (h1.nr hrn))⟩
    · exact ⟨_, .one (stepR_ret (h1.nr hrn))⟩
  obtain ⟨td, hst⟩ := hst
  unfold Fin
  split
  · rename_i e1 e2
    refine ⟨.returned cv, W, { b.atR a td with mode := .returning }, hend, hst, h1.fn, rfl, ?_, h2, fn, by show P.funcs[b.fn]? = some fn; rw [h1.fn]; exact hf, q1⟩
    have := h6.df
    rw [e2] at this
    exact this
  · rename_i ms e1 e2 e3
    refine ⟨W, { b.atR a td with mode := .returning }, fn, _, hst, h1.fn, rfl, h2, h6.df, hf, hx, h6.hp.le hl hc hag, h7.le h6.hp hl hc hag, fun W2 hz hb => ?_⟩
    have hbl : ∀ id o, find s.heap id = some o → ∀ b, Foot E W id o b → W2.heap[b]? = W.heap[b]? := fun id o ho b hfo => hb b fun hm => by
      obtain ⟨m1, _, m3⟩ := h1.mks b hm
      rcases h7.own id o b ho hfo with ⟨i, p, p1, _, p3⟩ | hge
      · exact m3 i p p1 p3
      · omega
    have r2 : Rel (f.marks.map mkD) E s W2 a := ⟨h6.size, h6.sl, h6.df, ⟨fun id o ho => (h6.hp.holds id o ho).kept (Nat.le_of_eq hz) (hbl id o ho), fun i j o p hi hj hne ho b hfo hfo2 =>
      h6.hp.apart i j o p hi hj hne ho b (Foot.kept (Nat.le_of_eq hz) (hbl i o hi) (h6.hp.holds i o hi) b hfo) (Foot.kept (Nat.le_of_eq hz) (hbl j p hj) (h6.hp.holds j p hj) b hfo2)⟩⟩
    obtain ⟨cv2, w1, w2⟩ := res_ok r2 hr hob
    exact ⟨cv2, w1, (he.ok w2).agree hag ret cv2 hcr⟩
  · rename_i e1
    rw [hrn] at e1; cases e1
theorem CallOK.intro {g : FuncId} {fn : Func} {c : Code} {args : List AV} (hcf : ∀ cargs w, (callFunc g cargs).run P w = .ok (.enter g cargs) w) (hf : P.funcs[g]? = some fn) (hb : fn.body = some c) (hcl : closedL (idsOf h0) args = true) (hch : closedH (idsOf h0) h0)
    (h : Safe P (⟨g, none, []⟩ : FK) h0 ret outs [.code c] ⟨args ++ List.replicate (fn.ntmps - args.length) undefA, h0⟩ (idsOf h0)) : CallOK P g args h0 ret outs := by
  refine ⟨hcf, fun E W cargs hargs rh hn cs => ?_⟩
  have hag : ∀ id, id ∈ idsOf h0 → (fun id => if id ∈ idsOf h0 then E id else none : Env) id = E id := fun id hid => by simp only [if_pos hid]
  have hbl : ∀ id o, find h0 id = some o → blkOf (fun id => if id ∈ idsOf h0 then E id else none : Env) id = blkOf E id := fun id o ho => by
    have := hag id (closedH_at hch id o ho).1
    simp only [blkOf, this]
  have rh1 : RH (fun id => if id ∈ idsOf h0 then E id else none : Env) h0 W := ⟨fun id o ho => (rh.holds id o ho).agree hag (closedH_at hch id o ho).1 (closedH_at hch id o ho).2, fun i j o p hi hj hne ho b hb => by
    exact fun hb2 => rh.apart i j o p hi hj hne ho b (hb.cg (hbl i o hi).symm) (hb2.cg (hbl j p hj).symm)⟩
  have hlen := hargs.length
  have hrel : Rel [] (fun id => if id ∈ idsOf h0 then E id else none : Env) ⟨args ++ List.replicate (fn.ntmps - args.length) undefA, h0⟩ W { tmps := cargs.toArray ++ Array.replicate (fn.ntmps - cargs.toArray.size) undef, defers := [] } := by
    refine ⟨by simp [hlen], fun t v ht => ?_, rfl, rh1⟩
    have hr : RVs (fun id => if id ∈ idsOf h0 then E id else none : Env) (args ++ List.replicate (fn.ntmps - args.length) undefA) (cargs ++ List.replicate (fn.ntmps - args.length) undef) := by
      refine (RVs.agree hag args cargs hcl hargs).append ?_
      generalize fn.ntmps - args.length = k
      induction k with
      | zero => simp [RVs]
      | succ k ih => simp only [List.replicate_succ, RVs]; exact ⟨undef, _, rfl, by simp [undefA, RV], ih⟩
    obtain ⟨c, c1, c2⟩ := hr.get t v ht
    refine ⟨c, ?_, c2⟩
    rw [← c1]
    simp only [List.size_toArray, hlen]
    rw [← Array.getElem?_toList]
    simp
  let b : Frame := { (default : Frame) with fn := g, kind := .normal, roundOf := none }
  have henter : Frame.enter P g cargs.toArray .normal = b.atR { tmps := cargs.toArray ++ Array.replicate (fn.ntmps - cargs.toArray.size) undef, defers := [] } [.code c] := by
    simp [Frame.enter, Frame.atR, hf, hb, b]
  obtain ⟨e, W', fr, q1, q2, q3, q4⟩ := h E W _ W _ b cs ⟨rfl, fun _ => rfl, fun L hL => (by simp at hL), fun r hr => (by simp at hr)⟩ rfl rh hn (fun id hid => hag id (idsOf_mem.2 hid)) hrel ⟨rfl, rfl, rfl, Nat.le_refl _, fun _ _ _ => rfl, fun id o b hi hb => .inl ⟨id, o, hi, fun h => h, hb.cg (hbl id o hi).symm⟩⟩ (fun id hid => by
    by_cases hm : id ∈ idsOf h0
    · exact hm
    · simp only [if_neg hm] at hid; exact absurd rfl hid)
  rw [henter]
  exact ⟨e, W', fr, q1, q2, q3, q4⟩
end
end Go.Proofs.Ytbgbjgedjmhcaaa
namespace Go.Proofs.Ytbgbjgedjmhcaaa
open Go.RowKit
abbrev I (z : Int) : AV := .val (.int .i64 z)
abbrev B (b : Bool) : AV := .val (.bool b)
abbrev S (s : ByteArray) : AV := .val (.string s)
def look (l : List (Nat × AV)) (i : Nat) : AV := match l with
  | [] => .junk
  | (k, v) :: l => match k == i with
    | true => v
    | false => look l i
def slotsFrom (l : List (Nat × AV)) : Nat → Nat → List AV
  | _, 0 => []
  | i, n + 1 => look l i :: slotsFrom l (i + 1) n
def slotsOf (n : Nat) (l : List (Nat × AV)) : List AV := slotsFrom l 0 n
def keepS (live : List Nat) : Nat → List AV → List AV
  | _, [] => []
  | i, v :: l => (match live.contains i with
    | true => v
    | false => .junk) :: keepS live (i + 1) l
def keepH (h : Hp) : List Nat → Hp
  | [] => []
  | id :: l => match find h id with
    | some o => (id, o) :: keepH h l
    | none => keepH h l
def subB (a b : List Nat) : Bool := allB (fun x => b.contains x) a
theorem subB_ok {a b : List Nat} (h : subB a b = true) : ∀ x ∈ a, x ∈ b := fun x hx => List.contains_iff_mem.1 (allB_ok h x hx)
theorem keepS_le (live : List Nat) : ∀ (l : List AV) (i : Nat), SlLe l (keepS live i l)
  | [], _ => trivial
  | v :: l, i => by
    unfold keepS
    refine ⟨?_, keepS_le live l (i + 1)⟩
    cases live.contains i with
    | true =>
      show VLe v v
      unfold VLe
      split <;> first | trivial | rfl
    | false => trivial
theorem SlLe.refl : ∀ l : List AV, SlLe l l
  | [] => trivial
  | v :: l => ⟨by unfold VLe; split <;> first | trivial | rfl, SlLe.refl l⟩
theorem ObLe.refl : ∀ o : Ob, ObLe o o
  | .blk _ _ => ⟨rfl, SlLe.refl _⟩
  | .vec _ _ _ _ => ⟨rfl, rfl, rfl, fun _ _ => rfl⟩
  | .ro _ _ _ => ⟨rfl, rfl, fun _ _ => rfl⟩
  | .obj m => MDLe.refl m
  | .box B => fun _ _ h => ⟨h, fun _ k => k⟩
  | .lp .. => ⟨rfl, rfl, rfl, rfl, rfl, rfl, SlLe.refl _⟩
theorem keepH_le (h : Hp) : ∀ ids, HpLe h (keepH h ids)
  | [] => trivial
  | id :: l => by
    unfold keepH
    cases hf : find h id with
    | none => exact keepH_le h l
    | some o => exact ⟨by rw [hf]; exact ObLe.refl o, keepH_le h l⟩
def runK (P : Program) (n : Nat) (hs : List RHint) (todo : List Item) (s : St) (dom live ids : List Nat) : Option (List Item × List AV × Hp × List Prop) := match runC P n hs todo s dom with
  | none => none
  | some (t, s', _, ob) => some (t, keepS live 0 s'.slots, keepH s'.heap ids, ob)
def runE (P : Program) (n : Nat) (hs : List RHint) (todo : List Item) (s : St) (dom : List Nat) (rs : List ResultVar) (ids : List Nat) : Option (AV × Hp × List Prop) := match runC P n hs todo s dom with
  | none => none
  | some (t, s', _, ob) => match isEnd t, (retA P rs).run s' with
    | true, some o => some (o.a, keepH s'.heap ids, ob ++ o.ob)
    | _, _ => none
section
variable {P : Program} {f : FK} {h0 : Hp} {ret : AV} {outs : List (Nat × Option Ob)} {todo : List Item} {s : St} {dom : List Nat}
theorem HpLe.trans' {a b c : Hp} (h : HpLe a b) (hb : ∀ id o, find b id = some o → find a id = some o) (k : HpLe b c) : HpLe a c := by
  induction c with
  | nil => trivial
  | cons p l ih =>
    obtain ⟨id, o'⟩ := p
    refine ⟨?_, ih k.2⟩
    have := k.1
    cases hf : find b id with
    | none => rw [hf] at this; exact this.elim
    | some o => rw [hf] at this; rw [hb id o hf]; exact this
theorem keepH_find (h : Hp) : ∀ ids id o, find (keepH h ids) id = some o → find h id = some o
  | [], id, o, e => by simp [keepH, find] at e
  | k :: l, id, o, e => by
    unfold keepH at e
    cases hf : find h k with
    | none => rw [hf] at e; exact keepH_find h l id o e
    | some x =>
      rw [hf] at e
      unfold find at e
      by_cases hk : k = id
      · subst hk; simp at e; rw [hf, e]
      · simp [hk] at e; exact keepH_find h l id o e
theorem Safe.goto (hmx : P.follows .mixedOrders = true) (n : Nat) (hs : List RHint) (live ids : List Nat) {todo' : List Item} {sl : List AV} {hp : Hp} {ob : List Prop} (hd : subB (idsOf h0) dom = true) (hi : subB (idsOf h0) ids = true) (h : runK P n hs todo s dom live ids = some (todo', sl, hp, ob)) (hob : AllP ob)
    (hcl : closedL ids sl = true) (hch : closedH ids hp) (hk : Safe P f h0 ret outs todo' ⟨sl, hp⟩ ids) : Safe P f h0 ret outs todo s dom := by
  unfold runK at h
  split at h
  · cases h
  rename_i t s' d ob' hr
  simp only [Option.some.injEq, Prod.mk.injEq] at h
  obtain ⟨rfl, rfl, rfl, rfl⟩ := h
  exact Safe.run hmx n hs todo s dom (fun id hid => subB_ok hd id (idsOf_mem.2 hid)) hr hob fun _ => Safe.to (s' := ⟨_, _⟩) (fun id hid => subB_ok hi id (idsOf_mem.2 hid)) (fun _ _ => trivial) (keepS_le live _ 0) hcl (keepH_le _ ids) hch hk
theorem Safe.ends (hmx : P.follows .mixedOrders = true) {fn : Func} (hf : P.funcs[f.fn]? = some fn) (n : Nat) (hs : List RHint) {r : AV} {hp : Hp} {ob : List Prop} (hd : subB (idsOf h0) dom = true) (h : runE P n hs todo s dom fn.results.toList (idsOf (applyO h0 outs)) = some (r, hp, ob)) (hob : AllP ob)
    (he : VLe r ret) (hl : HpLe hp (applyO h0 outs)) (hc : closedH (idsOf h0 ++ newIds h0 outs) (applyO h0 outs)) (hcr : closedV (idsOf h0 ++ newIds h0 outs) ret = true) (hrn : f.rnd = none := by rfl) : Safe P f h0 ret outs todo s dom := by
  unfold runE at h
  split at h
  · cases h
  rename_i t s' d ob' hr
  split at h
  case h_2 => cases h
  rename_i o he' ho
  simp only [Option.some.injEq, Prod.mk.injEq] at h
  obtain ⟨rfl, rfl, rfl⟩ := h
  rw [AllP.append] at hob
  exact Safe.run hmx n hs todo s dom (fun id hid => subB_ok hd id (idsOf_mem.2 hid)) hr hob.1 fun _ => Safe.fin hf he' ho hob.2 he ((keepH_le _ _).trans' (keepH_find _ _) hl) hc hcr hrn
theorem Safe.le {sl sl' : List AV} {hp hp' : Hp} (hd : subB (idsOf h0) dom = true) (hs : SlLe sl sl') (hl : HpLe hp hp') (hcl : closedL dom sl' = true) (hch : closedH dom hp') (h : Safe P f h0 ret outs todo ⟨sl', hp'⟩ dom) : Safe P f h0 ret outs todo ⟨sl, hp⟩ dom :=
  Safe.to (s' := ⟨sl', hp'⟩) (fun id hid => subB_ok hd id (idsOf_mem.2 hid)) (fun _ _ => trivial) hs hcl hl hch h
end
def loops : Code → Nat
  | .seq a b => loops a + loops b
  | .cond _ a b => loops a + loops b
  | .block _ c => loops c
  | .scope c => loops c
  | .loop c => loops c + 1
  | _ => 0
def loopIn : Code → List Item → Nat → List Item
  | .seq a b, k, j => match Nat.blt j (loops a) with
    | true => loopIn a (.code b :: k) j
    | false => loopIn b k (j - loops a)
  | .cond _ a b, k, j => match Nat.blt j (loops a) with
    | true => loopIn a k j
    | false => loopIn b k (j - loops a)
  | .block id c, k, j => loopIn c (.inBlock id :: k) j
  | .scope c, k, j => loopIn c (.inScope c :: k) j
  | .loop c, k, j => match j with
    | 0 => .code c :: .inLoop c :: k
    | j + 1 => loopIn c (.inLoop c :: k) j
  | _, _, _ => []
def loopAt (fn : Func) (j : Nat) : List Item := match fn.body with
  | some c => loopIn c [] j
  | none => []
def rn (σ : List (Nat × Nat)) (id : Nat) : Nat := match σ with
  | [] => id
  | (a, b) :: σ => match a == id with
    | true => b
    | false => rn σ id
mutual
def renV (σ : List (Nat × Nat)) : AV → AV
  | .val v => .val v
  | .ptr id i es j => .ptr (rn σ id) i es j
  | .sl id i es n c => .sl (rn σ id) i es n c
  | .mp id => .mp (rn σ id)
  | .yld id => .yld (rn σ id)
  | .agg cs => .agg (renL σ cs)
  | .tup cs => .tup (renL σ cs)
  | .fn f a b => .fn f (renL σ a) (renL σ b)
  | .ifc t v => .ifc t (renV σ v)
  | .anyB p q => .anyB p q
  | .len n => .len n
  | .junk => .junk
def renL (σ : List (Nat × Nat)) : List AV → List AV
  | [] => []
  | x :: l => renV σ x :: renL σ l
end
def renO (σ : List (Nat × Nat)) : Ob → Ob
  | .blk ty cs => .blk ty (renL σ cs)
  | .vec ty es n row => .vec ty es n fun q => renL σ (row q)
  | .ro es n row => .ro es n fun q => renL σ (row q)
  | .obj m => .obj m
  | .box B => .box B
  | .lp f p a b s e l => .lp f p a b s e (renL σ l)
def renH (σ : List (Nat × Nat)) : Hp → Hp
  | [] => []
  | (id, o) :: h => (rn σ id, renO σ o) :: renH σ h
def renU (σ : List (Nat × Nat)) : List (Nat × Option Ob) → List (Nat × Option Ob)
  | [] => []
  | (id, some o) :: h => (rn σ id, some (renO σ o)) :: renU σ h
  | (id, none) :: h => (rn σ id, none) :: renU σ h
end Go.Proofs.Ytbgbjgedjmhcaaa
namespace Go.Proofs.Ytbgbjgedjmhcaaa
open Go.RowKit
mutual
theorem renV_iff {σ : List (Nat × Nat)} {N : List Nat} {E E1 : Env} (h : ∀ id, id ∈ N → E1 id = E (rn σ id)) : ∀ (v : AV) (c : Value), closedV N v = true → (RV E (renV σ v) c ↔ RV E1 v c)
  | .val v, c, _ => by simp only [renV, RV]
  | .ptr id i es j, c, hc => by simp only [renV, RV, h id (List.contains_iff_mem.1 hc)]
  | .sl id i es n cc, c, hc => by simp only [renV, RV, h id (List.contains_iff_mem.1 hc)]
  | .mp id, c, hc => by simp only [renV, RV, h id (List.contains_iff_mem.1 hc)]
  | .yld id, c, hc => by simp only [renV, RV, h id (List.contains_iff_mem.1 hc)]
  | .agg cs, c, hc => by
    simp only [renV, RV]
    exact ⟨fun ⟨xs, e, r⟩ => ⟨xs, e, (renL_iff h cs xs hc).1 r⟩, fun ⟨xs, e, r⟩ => ⟨xs, e, (renL_iff h cs xs hc).2 r⟩⟩
  | .tup cs, c, hc => by
    simp only [renV, RV]
    exact ⟨fun ⟨xs, e, r⟩ => ⟨xs, e, (renL_iff h cs xs hc).1 r⟩, fun ⟨xs, e, r⟩ => ⟨xs, e, (renL_iff h cs xs hc).2 r⟩⟩
  | .fn f l m, c, hc => by
    simp only [closedV, Bool.and_eq_true] at hc
    simp only [renV, RV]
    exact ⟨fun ⟨xs, ys, e, r, r2⟩ => ⟨xs, ys, e, (renL_iff h l xs hc.1).1 r, (renL_iff h m ys hc.2).1 r2⟩, fun ⟨xs, ys, e, r, r2⟩ => ⟨xs, ys, e, (renL_iff h l xs hc.1).2 r, (renL_iff h m ys hc.2).2 r2⟩⟩
  | .ifc t v, c, hc => by
    simp only [renV, RV]
    exact ⟨fun ⟨x, e, r⟩ => ⟨x, e, (renV_iff h v x hc).1 r⟩, fun ⟨x, e, r⟩ => ⟨x, e, (renV_iff h v x hc).2 r⟩⟩
  | .anyB p q, c, _ => by simp only [renV, RV]
  | .len n, c, _ => by simp only [renV, RV]
  | .junk, c, _ => by simp only [renV, RV]
theorem renL_iff {σ : List (Nat × Nat)} {N : List Nat} {E E1 : Env} (h : ∀ id, id ∈ N → E1 id = E (rn σ id)) : ∀ (v : List AV) (c : List Value), closedL N v = true → (RVs E (renL σ v) c ↔ RVs E1 v c)
  | [], c, _ => by simp only [renL, RVs]
  | x :: xs, c, hc => by
    simp only [closedL, Bool.and_eq_true] at hc
    simp only [renL, RVs]
    exact ⟨fun ⟨y, l, e, r, r2⟩ => ⟨y, l, e, (renV_iff h x y hc.1).1 r, (renL_iff h xs l hc.2).1 r2⟩, fun ⟨y, l, e, r, r2⟩ => ⟨y, l, e, (renV_iff h x y hc.1).2 r, (renL_iff h xs l hc.2).2 r2⟩⟩
end
theorem renO_iff {σ : List (Nat × Nat)} {N : List Nat} {E E1 : Env} {W : World} (h : ∀ id, id ∈ N → E1 id = E (rn σ id)) {id : Nat} (hid : id ∈ N) : ∀ (o : Ob), closedO N o → (Holds E W (rn σ id) (renO σ o) ↔ Holds E1 W id o)
  | .blk ty cs, hc => by
    simp only [renO, Holds, h id hid]
    exact ⟨fun ⟨b, k, xs, h1, h2, h3, h4⟩ => ⟨b, k, xs, h1, h2, (renL_iff h cs xs hc).1 h3, h4⟩, fun ⟨b, k, xs, h1, h2, h3, h4⟩ => ⟨b, k, xs, h1, h2, (renL_iff h cs xs hc).2 h3, h4⟩⟩
  | .vec ty es n row, hc => by
    simp only [renO, Holds, h id hid]
    exact ⟨fun ⟨b, k, xs, h1, h2, h3, h4⟩ => ⟨b, k, xs, h1, h2, h3, fun q hq => (renL_iff h _ _ (hc q)).1 (h4 q hq)⟩, fun ⟨b, k, xs, h1, h2, h3, h4⟩ => ⟨b, k, xs, h1, h2, h3, fun q hq => (renL_iff h _ _ (hc q)).2 (h4 q hq)⟩⟩
  | .ro es n row, hc => by
    simp only [renO, Holds, h id hid]
    exact ⟨fun ⟨b, k, xs, h1, h2, h3, h4, h5⟩ => ⟨b, k, xs, h1, h2, h3, h4, fun q hq => (renL_iff h _ _ (hc q)).1 (h5 q hq)⟩, fun ⟨b, k, xs, h1, h2, h3, h4, h5⟩ => ⟨b, k, xs, h1, h2, h3, h4, fun q hq => (renL_iff h _ _ (hc q)).2 (h5 q hq)⟩⟩
  | .obj m, _ => by
    simp only [renO, Holds, h id hid]
  | .box B, _ => by
    simp only [renO, Holds, h id hid]
  | .lp f p a b s e l, hc => by
    simp only [renO, Holds, h id hid]
    exact ⟨fun ⟨b, k, xs, df, h1, h2, h3⟩ => ⟨b, k, xs, df, h1, h2, (renL_iff h l xs hc).1 h3⟩, fun ⟨b, k, xs, df, h1, h2, h3⟩ => ⟨b, k, xs, df, h1, h2, (renL_iff h l xs hc).2 h3⟩⟩
theorem renO_bx (σ : List (Nat × Nat)) : ∀ o : Ob, (renO σ o).bx = o.bx
  | .blk .. => rfl
  | .vec .. => rfl
  | .ro .. => rfl
  | .obj _ => rfl
  | .box _ => rfl
  | .lp .. => rfl
def mapN (σ : List (Nat × Nat)) : List Nat → List Nat
  | [] => []
  | x :: l => rn σ x :: mapN σ l
theorem mapN_eq (σ : List (Nat × Nat)) : ∀ l, mapN σ l = l.map (rn σ)
  | [] => rfl
  | x :: l => by simp [mapN, mapN_eq σ l]
theorem renO_owned (σ : List (Nat × Nat)) (o : Ob) : (renO σ o).owned = o.owned := by cases o <;> rfl
section
variable {σ : List (Nat × Nat)} {N : List Nat} (inj : ∀ a b, a ∈ N → b ∈ N → rn σ a = rn σ b → a = b)
include inj
theorem find_ren : ∀ (h : Hp), (∀ id ∈ idsOf h, id ∈ N) → ∀ id, id ∈ N → find (renH σ h) (rn σ id) = (find h id).map (renO σ)
  | [], _, id, _ => by simp [renH, find]
  | (k, o) :: h, hs, id, hid => by
    have ih := find_ren h (fun x hx => hs x (List.mem_cons_of_mem _ hx)) id hid
    have e1 : find (renH σ ((k, o) :: h)) (rn σ id) = if rn σ k == rn σ id then some (renO σ o) else find (renH σ h) (rn σ id) := by simp only [renH, find]
    have e2 : find ((k, o) :: h) id = if k == id then some o else find h id := by simp only [find]
    rw [e1, e2, ih]
    by_cases e : k = id
    · subst e; simp
    · have : ¬ rn σ k = rn σ id := fun e' => e (inj k id (hs k (by simp [idsOf])) hid e')
      rw [if_neg (by simpa using this), if_neg (by simpa using e)]
omit inj in
theorem ren_ids : ∀ (h : Hp) (y : Nat) (o' : Ob), find (renH σ h) y = some o' → ∃ id ∈ idsOf h, y = rn σ id
  | [], y, o', e => by simp [renH, find] at e
  | (k, o) :: h, y, o', e => by
    have e1 : find (renH σ ((k, o) :: h)) y = if rn σ k == y then some (renO σ o) else find (renH σ h) y := by simp only [renH, find]
    rw [e1] at e
    by_cases hk : rn σ k = y
    · exact ⟨k, by simp [idsOf], hk.symm⟩
    · rw [if_neg (by simpa using hk)] at e
      obtain ⟨id, h1, h2⟩ := ren_ids h y o' e
      exact ⟨id, by simp [idsOf, h1], h2⟩
theorem upd_ren (h : Hp) (hs : ∀ id ∈ idsOf h, id ∈ N) (id : Nat) (hid : id ∈ N) (o : Ob) : upd (renH σ h) (rn σ id) (renO σ o) = renH σ (upd h id o) := by
  induction h with
  | nil => rfl
  | cons p h ih =>
    obtain ⟨k, x⟩ := p
    have ih := ih (fun y hy => hs y (List.mem_cons_of_mem _ hy))
    simp only [renH, upd]
    by_cases e : k = id
    · subst e; simp [renH]
    · have : ¬ rn σ k = rn σ id := fun e' => e (inj k id (hs k (by simp [idsOf])) hid e')
      rw [if_neg (by simpa using this), if_neg (by simpa using e)]
      simp only [renH, ih]
theorem del_ren (h : Hp) (hs : ∀ id ∈ idsOf h, id ∈ N) (id : Nat) (hid : id ∈ N) : del (renH σ h) (rn σ id) = renH σ (del h id) := by
  induction h with
  | nil => rfl
  | cons p h ih =>
    obtain ⟨k, x⟩ := p
    have ih := ih (fun y hy => hs y (List.mem_cons_of_mem _ hy))
    simp only [renH, del]
    by_cases e : k = id
    · subst e; simp [ih]
    · have : ¬ rn σ k = rn σ id := fun e' => e (inj k id (hs k (by simp [idsOf])) hid e')
      rw [if_neg (by simpa using this), if_neg (by simpa using e)]
      simp only [renH, ih]
theorem hasId_ren (h : Hp) (hs : ∀ id ∈ idsOf h, id ∈ N) (id : Nat) (hid : id ∈ N) : hasId (renH σ h) (rn σ id) = hasId h id := by
  unfold hasId
  rw [find_ren inj h hs id hid]
  cases find h id <;> rfl
omit inj in
theorem ids_upd (h : Hp) (id : Nat) (o : Ob) (hs : ∀ id ∈ idsOf h, id ∈ N) (hid : id ∈ N) : ∀ x ∈ idsOf (upd h id o), x ∈ N := by
  induction h with
  | nil => intro x hx; simp [upd, idsOf] at hx; rw [hx]; exact hid
  | cons p h ih =>
    obtain ⟨k, y⟩ := p
    intro x hx
    unfold upd at hx
    split at hx
    · exact hs x (by simpa [idsOf] using hx)
    · simp only [idsOf, List.mem_cons] at hx
      rcases hx with rfl | hx
      · exact hs _ (by simp [idsOf])
      · exact ih (fun y hy => hs y (by simp [idsOf, hy])) x hx
omit inj in
theorem ids_del (h : Hp) (id : Nat) (hs : ∀ id ∈ idsOf h, id ∈ N) : ∀ x ∈ idsOf (del h id), x ∈ N := by
  induction h with
  | nil => intro x hx; simp [del, idsOf] at hx
  | cons p h ih =>
    obtain ⟨k, y⟩ := p
    intro x hx
    have ih := ih (fun y hy => hs y (by simp [idsOf, hy]))
    unfold del at hx
    split at hx
    · exact ih x hx
    · simp only [idsOf, List.mem_cons] at hx
      rcases hx with rfl | hx
      · exact hs _ (by simp [idsOf])
      · exact ih x hx
theorem outs_ren : ∀ (outs : List (Nat × Option Ob)) (h : Hp), (∀ id ∈ idsOf h, id ∈ N) → (∀ p ∈ outs, p.1 ∈ N) → applyO (renH σ h) (renU σ outs) = renH σ (applyO h outs) ∧ newIds (renH σ h) (renU σ outs) = mapN σ (newIds h outs) ∧ (∀ id ∈ idsOf (applyO h outs), id ∈ N) ∧ (∀ id ∈ newIds h outs, id ∈ N)
  | [], h, hs, _ => ⟨rfl, rfl, hs, fun id hid => by cases hid⟩
  | (id, some o) :: l, h, hs, ho => by
    have hid := ho _ (List.mem_cons_self ..)
    obtain ⟨h1, h2, h3, h4⟩ := outs_ren l (upd h id o) (ids_upd h id o hs hid) (fun p hp => ho p (List.mem_cons_of_mem _ hp))
    simp only [renU, applyO, newIds]
    rw [upd_ren inj h hs id hid, hasId_ren inj h hs id hid]
    refine ⟨h1, ?_, h3, ?_⟩
    · cases hasId h id with
      | true => exact h2
      | false => simp only [mapN, h2]
    · cases hasId h id with
      | true => exact h4
      | false =>
        intro x hx
        rcases List.mem_cons.1 hx with rfl | hx
        · exact hid
        · exact h4 x hx
  | (id, none) :: l, h, hs, ho => by
    have hid := ho _ (List.mem_cons_self ..)
    obtain ⟨h1, h2, h3, h4⟩ := outs_ren l (del h id) (ids_del h id hs) (fun p hp => ho p (List.mem_cons_of_mem _ hp))
    simp only [renU, applyO, newIds]
    rw [del_ren inj h hs id hid]
    exact ⟨h1, h2, h3, h4⟩
end
def outIds : List (Nat × Option Ob) → List Nat
  | [] => []
  | (id, _) :: l => id :: outIds l
theorem outIds_mem : ∀ {l : List (Nat × Option Ob)} {p : Nat × Option Ob}, p ∈ l → p.1 ∈ outIds l
  | [], p, h => by cases h
  | (id, o) :: l, p, h => by
    rcases List.mem_cons.1 h with rfl | h
    · exact List.mem_cons_self ..
    · exact List.mem_cons_of_mem _ (outIds_mem h)
theorem CallOK.ren {P : Program} {g : FuncId} {args : List AV} {h : Hp} {ret : AV} {outs : List (Nat × Option Ob)} (c : CallOK P g args h ret outs) (σ : List (Nat × Nat)) (N : List Nat) (hN : subB (idsOf h) N = true) (hO : subB (outIds outs) N = true) (hnd : nodupB (mapN σ N) = true)
    (hca : closedL N args = true) (hch : closedH N h) (hcr : closedV N ret = true) (hco : closedH N (applyO h outs)) : CallOK P g (renL σ args) (renH σ h) (renV σ ret) (renU σ outs) := by
  refine ⟨c.1, fun E W cargs hargs rh hn => ?_⟩
  have inj : ∀ a b, a ∈ N → b ∈ N → rn σ a = rn σ b → a = b := fun a b ha hb e => by
    have hd := nodupB_ok hnd
    rw [mapN_eq] at hd
    obtain ⟨i, hi, rfl⟩ := List.getElem_of_mem ha
    obtain ⟨j, hj, rfl⟩ := List.getElem_of_mem hb
    by_cases hij : i = j
    · subst hij; rfl
    · exfalso
      have := (List.nodup_iff_pairwise_ne.1 hd)
      rcases Nat.lt_or_gt_of_ne hij with hlt | hlt
      · exact List.pairwise_iff_getElem.1 this i j (by simpa using hi) (by simpa using hj) hlt (by simpa using e)
      · exact List.pairwise_iff_getElem.1 this j i (by simpa using hj) (by simpa using hi) hlt (by simpa using e.symm)
  have hs : ∀ id ∈ idsOf h, id ∈ N := subB_ok hN
  have ho : ∀ p ∈ outs, p.1 ∈ N := fun p hp => subB_ok hO _ (outIds_mem hp)
  obtain ⟨o1, o2, o3, o4⟩ := outs_ren inj outs h hs ho
  rw [o2, mapN_eq] at hn
  rw [o1, o2]
  have e1 : ∀ id, id ∈ N → (fun id => if id ∈ N then E (rn σ id) else none : Env) id = E (rn σ id) := fun id hid => by simp only [if_pos hid]
  have rh1 : RH (fun id => if id ∈ N then E (rn σ id) else none : Env) h W := by
    refine ⟨fun id o hf => ?_, fun i j o p hi hj hne hw b hb hb2 => ?_⟩
    · have hid := hs id (idsOf_mem.2 (by simp [hasId, hf]))
      refine (renO_iff e1 hid o (closedH_at hch id o hf).2).1 (rh.holds _ _ ?_)
      rw [find_ren inj h hs id hid, hf]; rfl
    · have hii := hs i (idsOf_mem.2 (by simp [hasId, hi]))
      have hjj := hs j (idsOf_mem.2 (by simp [hasId, hj]))
      refine rh.apart (rn σ i) (rn σ j) (renO σ o) (renO σ p) (by rw [find_ren inj h hs i hii, hi]; rfl) (by rw [find_ren inj h hs j hjj, hj]; rfl) (fun e => hne (inj i j hii hjj e)) (by rw [renO_owned]; exact hw) b ?_ ?_
      · exact hb.congr (renO_bx σ o) (by simp [blkOf, if_pos hii])
      · exact hb2.congr (renO_bx σ p) (by simp [blkOf, if_pos hjj])
  refine (c.2 _ W cargs ((renL_iff e1 args cargs hca).1 hargs) rh1 (fun id hid => by
    simp only [if_pos (o4 id hid)]
    exact hn _ (List.mem_map.2 ⟨id, hid, rfl⟩))).mono ?_
  rintro e W' ⟨cv, E1', rfl, hx, hv, hh, hm⟩
  obtain ⟨E', hE'⟩ : ∃ E' : Env, ∀ y, E' y = match (newIds h outs).find? (fun i => rn σ i == y) with | some i => E1' i | none => E y := ⟨fun y => match (newIds h outs).find? (fun i => rn σ i == y) with | some i => E1' i | none => E y, fun _ => rfl⟩
  have e2 : ∀ id, id ∈ N → E1' id = E' (rn σ id) := fun id hid => by
    rw [hE']
    cases hq : (newIds h outs).find? (fun i => rn σ i == rn σ id) with
    | some i =>
      have h1 := List.find?_some hq
      have h2 := List.mem_of_find?_eq_some hq
      rw [inj i id (o4 i h2) hid (by simpa using h1)]
    | none =>
      have hnid : id ∉ newIds h outs := fun hm => by
        have := List.find?_eq_none.1 hq id hm
        simp at this
      dsimp only
      cases he : E (rn σ id) with
      | some x => exact hx.1 id x (by simp only [if_pos hid, he])
      | none =>
        cases he1 : E1' id with
        | none => rfl
        | some x =>
          rcases hx.2 id (by rw [he1]; simp) with h1 | h1
          · simp only [if_pos hid, he] at h1; exact absurd rfl h1
          · exact absurd h1 hnid
  refine ⟨cv, E', rfl, ⟨fun y x hy => ?_, fun y hy => ?_⟩, (renV_iff e2 ret cv hcr).2 hv, ⟨fun y o' hf => ?_, fun y z o' p' hy hz hne hw b hb hb2 => ?_⟩, ⟨hm.os, hm.tape, hm.output, hm.size, fun b hb hno => ?_, fun y o' b hf hb => ?_⟩⟩
  · rw [hE']
    cases hq : (newIds h outs).find? (fun i => rn σ i == y) with
    | some i =>
      have h1 := List.find?_some hq
      have h2 := List.mem_of_find?_eq_some hq
      rw [hn y (List.mem_map.2 ⟨i, h2, by simpa using h1⟩)] at hy
      cases hy
    | none => exact hy
  · rw [hE'] at hy
    cases hq : (newIds h outs).find? (fun i => rn σ i == y) with
    | some i =>
      right
      rw [mapN_eq]
      exact List.mem_map.2 ⟨i, List.mem_of_find?_eq_some hq, by simpa using List.find?_some hq⟩
    | none => rw [hq] at hy; exact .inl hy
  · obtain ⟨id, hid, rfl⟩ := ren_ids _ _ _ hf
    have hidN := o3 id hid
    rw [find_ren inj _ o3 id hidN] at hf
    cases hfo : find (applyO h outs) id with
    | none => rw [hfo] at hf; cases hf
    | some o =>
      rw [hfo] at hf
      simp only [Option.map_some, Option.some.injEq] at hf
      rw [← hf]
      exact (renO_iff e2 hidN o (closedH_at hco id o hfo).2).2 (hh.holds id o hfo)
  · obtain ⟨i, hi, rfl⟩ := ren_ids _ _ _ hy
    obtain ⟨j, hj, rfl⟩ := ren_ids _ _ _ hz
    rw [find_ren inj _ o3 i (o3 i hi)] at hy
    rw [find_ren inj _ o3 j (o3 j hj)] at hz
    cases hfi : find (applyO h outs) i with
    | none => rw [hfi] at hy; cases hy
    | some o =>
      cases hfj : find (applyO h outs) j with
      | none => rw [hfj] at hz; cases hz
      | some p =>
        rw [hfi] at hy
        rw [hfj] at hz
        simp only [Option.map_some, Option.some.injEq] at hy hz
        rw [← hy, renO_owned] at hw
        rw [← hy] at hb
        rw [← hz] at hb2
        have hbb : ∀ k, k ∈ N → blkOf E1' k = blkOf E' (rn σ k) := fun k hk => by simp only [blkOf, e2 k hk]
        exact hh.apart i j o p hfi hfj (fun e => hne (by rw [e])) hw b (hb.congr (renO_bx σ o).symm (hbb i (o3 i hi))) (hb2.congr (renO_bx σ p).symm (hbb j (o3 j hj)))
  · refine hm.old b hb fun id o hf hw hbb => ?_
    have hid := hs id (idsOf_mem.2 (by simp [hasId, hf]))
    exact hno (rn σ id) (renO σ o) (by rw [find_ren inj h hs id hid, hf]; rfl) (by rw [renO_owned]; exact hw) (hbb.congr (renO_bx σ o) (by simp [blkOf, if_pos hid]))
  · obtain ⟨id, hid, rfl⟩ := ren_ids _ _ _ hf
    have hidN := o3 id hid
    rw [find_ren inj _ o3 id hidN] at hf
    cases hfo : find (applyO h outs) id with
    | none => rw [hfo] at hf; cases hf
    | some o =>
      rw [hfo] at hf
      simp only [Option.map_some, Option.some.injEq] at hf
      have hbb : Foot E1' W' id o b := by
        have := e2 id hidN
        rw [← hf] at hb
        exact hb.congr (renO_bx σ o).symm (by simp only [blkOf, this])
      refine (hm.own id o b hfo hbb).imp_left fun ⟨j, p, p1, p2, p3⟩ => ?_
      have hj := hs j (idsOf_mem.2 (by simp [hasId, p1]))
      exact ⟨rn σ j, renO σ p, by rw [find_ren inj h hs j hj, p1]; rfl, fun hw => by rw [renO_owned]; exact p2 (by rw [← renO_owned σ, hf]; exact hw), p3.congr (renO_bx σ p) (by simp [blkOf, if_pos hj])⟩
end Go.Proofs.Ytbgbjgedjmhcaaa
namespace Go.Proofs.Ytbgbjgedjmhcaaa
open Go.RowKit
section
variable {P : Program} {f : FK} {h0 : Hp} {ret : AV} {outs : List (Nat × Option Ob)} {todo : List Item} {sl : List AV} {hp : Hp} {dom : List Nat}
theorem renL_length (σ : List (Nat × Nat)) : ∀ l, (renL σ l).length = l.length
  | [] => rfl
  | x :: l => by simp [renL, renL_length σ l]
theorem renL_nth (σ : List (Nat × Nat)) : ∀ (l : List AV) (t : Nat) (v : AV), nth (renL σ l) t = some v → ∃ u, nth l t = some u ∧ v = renV σ u
  | [], t, v, h => by simp [renL, nth] at h
  | x :: l, 0, v, h => by simp only [renL, nth, Option.some.injEq] at h; exact ⟨x, rfl, h.symm⟩
  | x :: l, t + 1, v, h => by simp only [renL, nth] at h ⊢; exact renL_nth σ l t v h
def fixB' (σ : List (Nat × Nat)) (l : List Nat) : Bool := allB (fun x => rn σ x == x) l
theorem Safe.ren (σ : List (Nat × Nat)) (hnd : nodupB (mapN σ dom) = true) (hfix : fixB' σ (idsOf h0) = true) (hd : subB (idsOf h0) dom = true) (hcl : closedL dom sl = true) (hch : closedH dom hp) (h : Safe P f h0 ret outs todo ⟨renL σ sl, renH σ hp⟩ (mapN σ dom)) : Safe P f h0 ret outs todo ⟨sl, hp⟩ dom := by
  intro E0 W0 E W a b cs h1 h2 h3 h4 h5 h6 h7 h8
  have inj : ∀ a b, a ∈ dom → b ∈ dom → rn σ a = rn σ b → a = b := fun a b ha hb e => by
    have hd := nodupB_ok hnd
    rw [mapN_eq] at hd
    obtain ⟨i, hi, rfl⟩ := List.getElem_of_mem ha
    obtain ⟨j, hj, rfl⟩ := List.getElem_of_mem hb
    by_cases hij : i = j
    · subst hij; rfl
    · exfalso
      have := (List.nodup_iff_pairwise_ne.1 hd)
      rcases Nat.lt_or_gt_of_ne hij with hlt | hlt
      · exact List.pairwise_iff_getElem.1 this i j (by simpa using hi) (by simpa using hj) hlt (by simpa using e)
      · exact List.pairwise_iff_getElem.1 this j i (by simpa using hj) (by simpa using hi) hlt (by simpa using e.symm)
  obtain ⟨E', hE'⟩ : ∃ E' : Env, ∀ y, E' y = match dom.find? (fun i => rn σ i == y) with | some i => E i | none => none := ⟨fun y => match dom.find? (fun i => rn σ i == y) with | some i => E i | none => none, fun _ => rfl⟩
  have e2 : ∀ id, id ∈ dom → E id = E' (rn σ id) := fun id hid => by
    rw [hE']
    cases hq : dom.find? (fun i => rn σ i == rn σ id) with
    | some i =>
      have g1 := List.find?_some hq
      have g2 := List.mem_of_find?_eq_some hq
      rw [inj i id g2 hid (by simpa using g1)]
    | none =>
      have := List.find?_eq_none.1 hq id hid
      simp at this
  have hs : ∀ id ∈ idsOf hp, id ∈ dom := fun id hid => by
    have := idsOf_mem.1 hid
    unfold hasId at this
    split at this
    · rename_i o ho; exact (closedH_at hch id o ho).1
    · cases this
  have hbl : ∀ k, k ∈ dom → blkOf E' (rn σ k) = blkOf E k := fun k hk => by simp only [blkOf, e2 k hk]
  have rh : RH E' (renH σ hp) W := by
    refine ⟨fun y o' hf => ?_, fun y z o' p' hy hz hne hw b hb hb2 => ?_⟩
    · obtain ⟨id, hid, rfl⟩ := ren_ids _ _ _ hf
      have hidN := hs id hid
      rw [find_ren inj _ hs id hidN] at hf
      cases hfo : find hp id with
      | none => rw [hfo] at hf; cases hf
      | some o =>
        rw [hfo] at hf
        simp only [Option.map_some, Option.some.injEq] at hf
        rw [← hf]
        exact (renO_iff e2 hidN o (closedH_at hch id o hfo).2).2 (h6.hp.holds id o hfo)
    · obtain ⟨i, hi, rfl⟩ := ren_ids _ _ _ hy
      obtain ⟨j, hj, rfl⟩ := ren_ids _ _ _ hz
      rw [find_ren inj _ hs i (hs i hi)] at hy
      rw [find_ren inj _ hs j (hs j hj)] at hz
      cases hfi : find hp i with
      | none => rw [hfi] at hy; cases hy
      | some o =>
        cases hfj : find hp j with
        | none => rw [hfj] at hz; cases hz
        | some p =>
          rw [hfi] at hy
          rw [hfj] at hz
          simp only [Option.map_some, Option.some.injEq] at hy hz
          rw [← hy, renO_owned] at hw
          rw [← hy] at hb
          rw [← hz] at hb2
          exact h6.hp.apart i j o p hfi hfj (fun e => hne (by rw [e])) hw b (hb.congr (renO_bx σ o).symm (hbl i (hs i hi)).symm) (hb2.congr (renO_bx σ p).symm (hbl j (hs j hj)).symm)
  have hfx : ∀ id, hasId h0 id = true → rn σ id = id ∧ id ∈ dom := fun id hid => by
    have := allB_ok hfix id (idsOf_mem.2 hid)
    exact ⟨by simpa using this, subB_ok hd id (idsOf_mem.2 hid)⟩
  refine h E0 W0 E' W a b cs h1 h2 h3 h4 (fun id hid => ?_) ⟨by rw [h6.size]; exact (renL_length σ sl).symm, fun t v ht => ?_, h6.df, rh⟩ ⟨h7.os, h7.tape, h7.output, h7.size, h7.old, fun y o' b hf hb => ?_⟩ (fun y hy => ?_)
  · obtain ⟨g1, g2⟩ := hfx id hid
    rw [← h5 id hid, e2 id g2, g1]
  · obtain ⟨u, hu, rfl⟩ := renL_nth σ sl t v ht
    obtain ⟨c, c1, c2⟩ := h6.sl t u hu
    refine ⟨c, c1, (renV_iff e2 u c ?_).2 c2⟩
    have : ∀ (l : List AV), closedL dom l = true → ∀ t v, nth l t = some v → closedV dom v = true := by
      intro l
      induction l with
      | nil => intro _ t v h; simp [nth] at h
      | cons x l ih =>
        intro hl t v hv
        simp only [closedL, Bool.and_eq_true] at hl
        cases t with
        | zero => simp only [nth, Option.some.injEq] at hv; subst hv; exact hl.1
        | succ t => exact ih hl.2 t v (by simpa [nth] using hv)
    exact this _ hcl t u hu
  · obtain ⟨id, hid, rfl⟩ := ren_ids _ _ _ hf
    rw [find_ren inj _ hs id (hs id hid)] at hf
    cases hfo : find hp id with
    | none => rw [hfo] at hf; cases hf
    | some o =>
      rw [hfo] at hf
      simp only [Option.map_some, Option.some.injEq] at hf
      rw [← hf] at hb
      refine (h7.own id o b hfo (hb.congr (renO_bx σ o).symm (hbl id (hs id hid)).symm)).imp_left fun ⟨j, p, p1, p2, p3⟩ => ⟨j, p, p1, fun hw => p2 (by rw [← renO_owned σ, hf]; exact hw), p3⟩
  · rw [hE'] at hy
    cases hq : dom.find? (fun i => rn σ i == y) with
    | some i =>
      rw [mapN_eq]
      exact List.mem_map.2 ⟨i, List.mem_of_find?_eq_some hq, by simpa using List.find?_some hq⟩
    | none => rw [hq] at hy; exact absurd rfl hy
theorem Safe.nil (t id ty es : Nat) (row : Nat → List AV) (hs : nth sl t = some (.val (.slice none 0 0))) (hid : dom.contains id = false) (hdm : closedH dom hp) (h : Safe P f h0 ret outs todo ⟨setN sl t (.sl id 0 es 0 none), (id, .vec ty es 0 row) :: hp⟩ (id :: dom)) (hz : subB (idsOf h0) dom = true) : Safe P f h0 ret outs todo ⟨sl, hp⟩ dom := by
  intro E0 W0 E W a b cs h1 h2 h3 h4 h5 h6 h7 h8
  have hn : E id = none := by
    cases he : E id with
    | none => rfl
    | some x =>
      have := h8 id (by rw [he]; simp)
      rw [List.contains_iff_mem.2 this] at hid; cases hid
  have hx := nw_set E id (none, 0) hn
  have hfind : ∀ x, find ((id, .vec ty es 0 row) :: hp) x = if id == x then some (.vec ty es 0 row) else find hp x := fun x => by simp only [find]
  have hnone : find hp id = none := by
    cases hf : find hp id with
    | none => rfl
    | some o =>
      have := (closedH_at hdm id o hf).1
      rw [List.contains_iff_mem.2 this] at hid; cases hid
  have hbl : blkOf (fun y => if y = id then some (none, 0) else E y : Env) id = none := by simp [blkOf]
  have hblo : ∀ x, x ≠ id → blkOf (fun y => if y = id then some (none, 0) else E y : Env) x = blkOf E x := fun x hx => by simp only [blkOf, if_neg hx]
  have rh : RH (fun y => if y = id then some (none, 0) else E y : Env) ((id, .vec ty es 0 row) :: hp) W := by
    refine ⟨fun x o ho => ?_, fun i j o p hi hj hne hw b hb hb2 => ?_⟩
    · rw [hfind] at ho
      by_cases e : id = x
      · subst e
        simp only [beq_self_eq_true, if_true, Option.some.injEq] at ho
        subst ho
        exact ⟨none, 0, [], by simp, World.ownsRow_nil _ _ _ _, (fun u hu => by cases hu), fun q hq => by omega⟩
      · rw [if_neg (by simpa using e)] at ho
        exact (h6.hp.holds x o ho).mono hx.1
    · by_cases ei : i = id
      · subst ei; exact hb.none hbl
      · by_cases ej : j = id
        · subst ej; exact hb2.none hbl
        · rw [hfind, if_neg (by simpa using Ne.symm ei)] at hi
          rw [hfind, if_neg (by simpa using Ne.symm ej)] at hj
          exact h6.hp.apart i j o p hi hj hne hw b (hb.cg (hblo i ei).symm) (hb2.cg (hblo j ej).symm)
  refine h E0 W0 _ W a b cs h1 h2 h3 h4 (fun x hx' => ?_) ⟨by rw [h6.size, setN_eq]; simp, fun u v hu => ?_, h6.df, rh⟩ ⟨h7.os, h7.tape, h7.output, h7.size, h7.old, fun x o b hf hb => ?_⟩ (fun y hy => ?_)
  · have hxd := subB_ok hz x (idsOf_mem.2 hx')
    have : x ≠ id := fun e => by subst e; rw [List.contains_iff_mem.2 hxd] at hid; cases hid
    simp only [if_neg this]; exact h5 x hx'
  · simp only [nth_eq, setN_eq] at hu
    rw [List.getElem?_set] at hu
    by_cases e : t = u
    · subst e
      rw [if_pos rfl] at hu
      split at hu
      · simp only [Option.some.injEq] at hu
        subst hu
        obtain ⟨c, c1, c2⟩ := h6.sl t _ hs
        simp only [RV] at c2
        refine ⟨c, c1, ?_⟩
        simp only [RV]
        exact ⟨none, 0, by simp, none, c2, rfl, rfl⟩
      · cases hu
    · rw [if_neg e] at hu
      obtain ⟨c, c1, c2⟩ := h6.sl u v (by rw [nth_eq]; exact hu)
      exact ⟨c, c1, RV.mono hx.1 _ _ c2⟩
  · by_cases e : x = id
    · subst e; exact (hb.none hbl).elim
    · rw [hfind, if_neg (by simpa using Ne.symm e)] at hf
      exact h7.own x o b hf (hb.cg (hblo x e).symm)
  · by_cases e : y = id
    · rw [e]; exact List.mem_cons_self ..
    · simp only [if_neg e] at hy
      exact List.mem_cons_of_mem _ (h8 y hy)
def skipTo : Nat → List Item → List Item
  | 0, t => t
  | n + 1, .code c :: k => match c with
    | .seq a b => skipTo n (.code a :: .code b :: k)
    | .block id c => skipTo n (.code c :: .inBlock id :: k)
    | .loop c => skipTo n (.code c :: .inLoop c :: k)
    | .scope c => skipTo n (.code c :: .inScope c :: k)
    | _ => skipTo n k
  | n + 1, _ :: k => skipTo n k
  | _, [] => []
def bodyOf (fn : Func) : List Item := match fn.body with
  | some c => [.code c]
  | none => []
def rfIn : Code → List Item → Nat → Nat × Option (List Item)
  | .rangeFunc g ps as bd, k, j => match j with
    | 0 => (0, some (.code (.rangeFunc g ps as bd) :: k))
    | j + 1 => (j, none)
  | .seq a b, k, j => match rfIn a (.code b :: k) j with
    | (j', some t) => (j', some t)
    | (j', none) => rfIn b k j'
  | .cond _ a b, k, j => match rfIn a k j with
    | (j', some t) => (j', some t)
    | (j', none) => rfIn b k j'
  | .block id c, k, j => rfIn c (.inBlock id :: k) j
  | .scope c, k, j => rfIn c (.inScope c :: k) j
  | .loop c, k, j => rfIn c (.inLoop c :: k) j
  | _, _, j => (j, none)
def rfAt (fn : Func) (j : Nat) : List Item := match fn.body with
  | some c => match rfIn c [] j with
    | (_, some t) => t
    | _ => []
  | none => []
def rfPs (fn : Func) (j : Nat) : Array Tmp := match rfAt fn j with
  | .code (.rangeFunc _ ps _ _) :: _ => ps
  | _ => #[]
def rfAs (fn : Func) (j : Nat) : Code := match rfAt fn j with
  | .code (.rangeFunc _ _ as _) :: _ => as
  | _ => .skip
def rfBd (fn : Func) (j : Nat) : Code := match rfAt fn j with
  | .code (.rangeFunc _ _ _ bd) :: _ => bd
  | _ => .skip
def rfK (fn : Func) (j : Nat) : List Item := (rfAt fn j).tail
theorem Safe.any (t : Nat) {p q : Prop} (hs : nth sl t = some (.anyB p q)) (h1 : p → Safe P f h0 ret outs todo ⟨setN sl t (.val (.bool true)), hp⟩ dom) (h2 : q → Safe P f h0 ret outs todo ⟨setN sl t (.val (.bool false)), hp⟩ dom) : Safe P f h0 ret outs todo ⟨sl, hp⟩ dom := by
  intro E0 W0 E W a b cs g1 g2 g3 g4 g5 g6 g7 g8
  obtain ⟨c, c1, c2⟩ := g6.sl t _ hs
  simp only [RV] at c2
  obtain ⟨bb, rfl, c3, c4⟩ := c2
  have hrel : Rel (f.marks.map mkD) E ⟨setN sl t (.val (.bool bb)), hp⟩ W a := by
    refine ⟨by rw [g6.size, setN_eq]; simp, fun u v hu => ?_, g6.df, g6.hp⟩
    simp only [nth_eq, setN_eq] at hu
    rw [List.getElem?_set] at hu
    by_cases e : t = u
    · subst e
      rw [if_pos rfl] at hu
      split at hu
      · simp only [Option.some.injEq] at hu
        subst hu
        exact ⟨_, c1, by simp only [RV]⟩
      · cases hu
    · rw [if_neg e] at hu
      exact g6.sl u v (by rw [nth_eq]; exact hu)
  cases bb with
  | true => exact h1 (c3 rfl) E0 W0 E W a b cs g1 g2 g3 g4 g5 hrel g7 g8
  | false => exact h2 (c4 rfl) E0 W0 E W a b cs g1 g2 g3 g4 g5 hrel g7 g8
theorem Safe.withLoop {σ : Type} {s : St} (td : List Item) (ids : List Nat) (N : Nat) (I : σ → List (Nat × AV)) (H : σ → Hp) (pre : σ → Prop) (μ : σ → Nat)
    (body : ∀ g, pre g → (∀ g', pre g' → μ g' < μ g → Safe P f h0 ret outs td ⟨slotsOf N (I g'), H g'⟩ ids) → Safe P f h0 ret outs td ⟨slotsOf N (I g), H g⟩ ids)
    (entry : (∀ g, pre g → Safe P f h0 ret outs td ⟨slotsOf N (I g), H g⟩ ids) → Safe P f h0 ret outs todo s dom) : Safe P f h0 ret outs todo s dom :=
  entry (Safe.loop μ (fun g => ⟨slotsOf N (I g), H g⟩) pre body)
theorem Safe.gotoE (hmx : P.follows .mixedOrders = true) (n : Nat) (hs : List RHint) (live ids : List Nat) {s : St} {sl : List AV} {hp : Hp} {ob : List Prop} (hd : subB (idsOf h0) dom = true) (hi : subB (idsOf h0) ids = true) (h : (match runK P n hs todo s dom live ids with | some (t, a, b, c) => if isEnd t then some (a, b, c) else none | none => none) = some (sl, hp, ob)) (hob : AllP ob)
    (hcl : closedL ids sl = true) (hch : closedH ids hp) (hk : ∀ td, isEnd td = true → Safe P f h0 ret outs td ⟨sl, hp⟩ ids) : Safe P f h0 ret outs todo s dom := by
  cases hr : runK P n hs todo s dom live ids with
  | none => rw [hr] at h; cases h
  | some x =>
    obtain ⟨t, a, b, c⟩ := x
    rw [hr] at h
    dsimp only at h
    by_cases ht : isEnd t = true
    · rw [if_pos ht] at h
      simp only [Option.some.injEq, Prod.mk.injEq] at h
      obtain ⟨rfl, rfl, rfl⟩ := h
      exact Safe.goto hmx n hs live ids hd hi hr hob hcl hch (hk t ht)
    · rw [if_neg ht] at h; cases h
theorem Safe.here {s : St} (T : List Item) (h : todo = T) (k : Safe P f h0 ret outs T s dom) : Safe P f h0 ret outs todo s dom := h ▸ k
def fstT : Option (List Item × List AV × Hp × List Prop) → List Item
  | some (t, _) => t
  | none => []
theorem Safe.gotoS (hmx : P.follows .mixedOrders = true) (n : Nat) (hs : List RHint) (live ids : List Nat) {s : St} {sl : List AV} {hp : Hp} {ob : List Prop} (hd : subB (idsOf h0) dom = true) (hi : subB (idsOf h0) ids = true) (h : (match runK P n hs todo s dom live ids with | some (t, a, b, c) => some (a, b, c) | none => none) = some (sl, hp, ob)) (hob : AllP ob)
    (hcl : closedL ids sl = true) (hch : closedH ids hp) (hk : Safe P f h0 ret outs (fstT (runK P n hs todo s dom live ids)) ⟨sl, hp⟩ ids) : Safe P f h0 ret outs todo s dom := by
  cases hr : runK P n hs todo s dom live ids with
  | none => rw [hr] at h; cases h
  | some x =>
    obtain ⟨t, a, b, c⟩ := x
    rw [hr] at h hk
    simp only [Option.some.injEq, Prod.mk.injEq] at h
    obtain ⟨rfl, rfl, rfl⟩ := h
    exact Safe.goto hmx n hs live ids hd hi hr hob hcl hch hk
theorem Safe.endsT {fn : Func} (hf : P.funcs[f.fn]? = some fn) (ht : isEnd todo = true) {s : St} {r : AV} {hp : Hp} {ob : List Prop} (hd : subB (idsOf h0) dom = true) (h : (match (retA P fn.results.toList).run s with | some o => some (o.a, keepH s.heap (idsOf (applyO h0 outs)), o.ob) | none => none) = some (r, hp, ob)) (hob : AllP ob)
    (he : VLe r ret) (hl : HpLe hp (applyO h0 outs)) (hc : closedH (idsOf h0 ++ newIds h0 outs) (applyO h0 outs)) (hcr : closedV (idsOf h0 ++ newIds h0 outs) ret = true) (hrn : f.rnd = none := by rfl) : Safe P f h0 ret outs todo s dom := by
  cases hr : (retA P fn.results.toList).run s with
  | none => rw [hr] at h; cases h
  | some o =>
    rw [hr] at h
    simp only [Option.some.injEq, Prod.mk.injEq] at h
    obtain ⟨rfl, rfl, rfl⟩ := h
    exact Safe.fin hf ht hr hob he ((keepH_le _ _).trans' (keepH_find _ _) hl) hc hcr hrn
end
def rowG {α : Type} [Inhabited α] (enc : α → List AV) (L : List α) : Nat → List AV := fun q => enc (L.getD q default)
def rowN {α : Type} [Inhabited α] (enc : Nat → α → List AV) (a : Nat) (L : List α) : Nat → List AV := rowG (enc a) L
theorem rowG_cat {α : Type} [Inhabited α] (enc : α → List AV) (L M : List α) (r2 : Nat → List AV) (h : ∀ j, j < M.length → r2 j = enc (M.getD j default)) (q : Nat) (hq : q < (L ++ M).length) : catR L.length (rowG enc L) r2 q = rowG enc (L ++ M) q := by
  rw [catR_at]
  unfold rowG
  rw [List.length_append] at hq
  by_cases e : q < L.length
  · rw [if_pos e]
    simp only [List.getD_eq_getElem?_getD]
    rw [List.getElem?_append_left e]
  · rw [if_neg e, h _ (by omega)]
    simp only [List.getD_eq_getElem?_getD]
    rw [List.getElem?_append_right (by omega)]
theorem closedL_iff {ids : List Nat} : ∀ {l : List AV}, closedL ids l = true ↔ ∀ x ∈ l, closedV ids x = true
  | [] => by simp [closedL]
  | x :: l => by
    simp only [closedL, Bool.and_eq_true, List.mem_cons, forall_eq_or_imp]
    rw [closedL_iff (l := l)]
theorem closed_cat {ids : List Nat} {n : Nat} {r1 r2 : Nat → List AV} (h1 : ∀ q, closedL ids (r1 q) = true) (h2 : ∀ q, closedL ids (r2 q) = true) (q : Nat) : closedL ids (catR n r1 r2 q) = true := by
  rw [catR_at]
  split
  · exact h1 _
  · exact h2 _
theorem closed_rows {ids : List Nat} {cs : List AV} {es : Nat} (h : closedL ids cs = true) (q : Nat) : closedL ids (rowsOf cs es q) = true :=
  closedL_iff.2 fun x hx => closedL_iff.1 h x (List.mem_of_mem_drop (List.mem_of_mem_take hx))
theorem ob_ren_one {σ : List (Nat × Nat)} {α : Type} [Inhabited α] {ty es n : Nat} (enc : α → List AV) (L : List α) (x : α) (r2 : Nat → List AV) (hn : n = L.length + 1) (h2 : ∀ x, renL σ (enc x) = enc x) (h : renL σ (r2 0) = enc x) : ObLe (.vec ty es n (fun q => renL σ (catR L.length (rowG enc L) r2 q))) (.vec ty es (L ++ [x]).length (rowG enc (L ++ [x]))) := by
  refine ⟨rfl, rfl, by rw [hn, List.length_append]; rfl, fun q hq => ?_⟩
  have e := rowG_cat enc L [x] (fun j => renL σ (r2 j)) (fun j hj => by
    have : j = 0 := by simpa using hj
    subst this; exact h) q hq
  rw [← e]
  simp only [catR_at]
  split
  · exact h2 _
  · rfl
theorem Safe.leD {P : Program} {f : FK} {h0 : Hp} {ret : AV} {outs : List (Nat × Option Ob)} {todo : List Item} {sl sl' : List AV} {hp hp' : Hp} {dom : List Nat} (dom' : List Nat) (hd : subB (idsOf h0) dom' = true) (hs : SlLe sl sl') (hl : HpLe hp hp') (hcl : closedL dom' sl' = true) (hch : closedH dom' hp') (h : Safe P f h0 ret outs todo ⟨sl', hp'⟩ dom') : Safe P f h0 ret outs todo ⟨sl, hp⟩ dom :=
  Safe.to (s' := ⟨sl', hp'⟩) (fun id hid => subB_ok hd id (idsOf_mem.2 hid)) (fun _ _ => trivial) hs hcl hl hch h
theorem Safe.leH {P : Program} {f : FK} {h0 : Hp} {ret : AV} {outs : List (Nat × Option Ob)} {todo : List Item} {sl sl' : List AV} {hp hp' : Hp} {dom dom' : List Nat} (h : Safe P f h0 ret outs todo ⟨sl', hp'⟩ dom') (hd : subB (idsOf h0) dom' = true) (hs : SlLe sl sl') (hl : HpLe hp hp') (hcl : closedL dom' sl' = true) (hch : closedH dom' hp') : Safe P f h0 ret outs todo ⟨sl, hp⟩ dom :=
  Safe.leD dom' hd hs hl hcl hch h
theorem closed_set {ids : List Nat} {i : Nat} {r : Nat → List AV} {l : List AV} (h : ∀ q, closedL ids (r q) = true) (hl : closedL ids l = true) (q : Nat) : closedL ids (setRow r i l q) = true := by
  unfold setRow
  split
  · exact hl
  · exact h _
theorem ob_set {α : Type} [Inhabited α] {ty es n i : Nat} (enc : α → List AV) (L : List α) (x : α) (r : List AV) (hn : n = L.length) (h : r = enc x) : ObLe (.vec ty es n (setRow (rowG enc L) i r)) (.vec ty es (L.set i x).length (rowG enc (L.set i x))) := by
  refine ⟨rfl, rfl, by rw [hn, List.length_set], fun q hq => ?_⟩
  unfold setRow rowG
  rw [List.getD_eq_getElem?_getD, List.getD_eq_getElem?_getD, List.getElem?_set]
  by_cases e : q = i
  · subst e
    rw [if_pos rfl, if_pos rfl, if_pos (by simpa using hq), h]
    rfl
  · rw [if_neg e, if_neg (fun h => e h.symm)]
theorem CallOK.isB {P : Program} {f : FuncId} {args : List AV} {h0 : Hp} {e b : Bool} {outs : List (Nat × Option Ob)} (h : CallOK P f args h0 (B e) outs) (he : e = b) : CallOK P f args h0 (B b) outs := he ▸ h
end Go.Proofs.Ytbgbjgedjmhcaaa
namespace Go.Proofs.Ytbgbjgedjmhcaaa
open Go.RowKit
theorem hasId_upd (h : Hp) (id : Nat) (o : Ob) (y : Nat) : hasId (upd h id o) y = (id == y || hasId h y) := by
  unfold hasId
  rw [find_upd]
  by_cases e : id = y
  · simp [e]
  · have : (id == y) = false := by simpa using e
    rw [if_neg e, this]; rfl
theorem hasId_del (h : Hp) (id : Nat) (y : Nat) : hasId (del h id) y = (!(id == y) && hasId h y) := by
  unfold hasId
  rw [find_del]
  by_cases e : id = y
  · simp [e]
  · have : (id == y) = false := by simpa using e
    rw [if_neg e, this]; rfl
theorem apply_beside (id : Nat) (v : Ob) : ∀ (outs : List (Nat × Option Ob)) (h h' : Hp), id ∉ outIds outs → hasId h id = true → (∀ x, find h' x = if x = id then some v else find h x) →
    (∀ x, find (applyO h' outs) x = if x = id then some v else find (applyO h outs) x) ∧ newIds h' outs = newIds h outs ∧ id ∉ newIds h outs
  | [], h, h', _, _, hf => ⟨hf, rfl, fun h => by cases h⟩
  | (k, some o) :: l, h, h', hn, hh, hf => by
    simp only [outIds, List.mem_cons, not_or] at hn
    have hk : hasId h' k = hasId h k := by
      unfold hasId
      rw [hf, if_neg (fun e => hn.1 e.symm)]
    obtain ⟨h1, h2, h3⟩ := apply_beside id v l (upd h k o) (upd h' k o) hn.2 (by rw [hasId_upd, hh]; simp) (fun x => by
      rw [find_upd, find_upd, hf]
      by_cases e : k = x
      · subst e; rw [if_pos rfl, if_pos rfl, if_neg (fun e => hn.1 e.symm)]
      · rw [if_neg e, if_neg e])
    simp only [applyO, newIds, hk]
    refine ⟨h1, by rw [h2], ?_⟩
    cases hasId h k with
    | true => exact h3
    | false => exact fun hm => (List.mem_cons.1 hm).elim hn.1 h3
  | (k, none) :: l, h, h', hn, hh, hf => by
    simp only [outIds, List.mem_cons, not_or] at hn
    obtain ⟨h1, h2, h3⟩ := apply_beside id v l (del h k) (del h' k) hn.2 (by
      have : (k == id) = false := by simpa using fun e => hn.1 e.symm
      rw [hasId_del, hh, this]; rfl) (fun x => by
      rw [find_del, find_del, hf]
      by_cases e : k = x
      · subst e; rw [if_pos rfl, if_pos rfl, if_neg (fun e => hn.1 e.symm)]
      · rw [if_neg e, if_neg e])
    simp only [applyO, newIds]
    exact ⟨h1, h2, h3⟩
def allOwned : List (Nat × Option Ob) → Bool
  | [] => true
  | (_, some o) :: l => match o.owned with
    | true => allOwned l
    | false => false
  | (_, none) :: l => allOwned l
theorem ro_old : ∀ (outs : List (Nat × Option Ob)) (h : Hp) (j : Nat) (p : Ob), allOwned outs = true → find (applyO h outs) j = some p → p.owned = false → find h j = some p
  | [], h, j, p, _, hf, _ => hf
  | (k, some o) :: l, h, j, p, ha, hf, hp => by
    unfold allOwned at ha
    cases ho : o.owned with
    | false => rw [ho] at ha; cases ha
    | true =>
      rw [ho] at ha
      have := ro_old l (upd h k o) j p ha hf hp
      rw [find_upd] at this
      by_cases e : k = j
      · rw [if_pos e] at this; obtain rfl := Option.some.inj this; rw [ho] at hp; cases hp
      · rwa [if_neg e] at this
  | (k, none) :: l, h, j, p, ha, hf, hp => by
    have := ro_old l (del h k) j p ha hf hp
    rw [find_del] at this
    by_cases e : k = j
    · rw [if_pos e] at this; cases this
    · rwa [if_neg e] at this
def notIn (id : Nat) (l : List Nat) : Bool := allB (fun x => !(x == id)) l
theorem CallOK.own {P : Program} {g : FuncId} {args : List AV} {h : Hp} {ret : AV} {outs : List (Nat × Option Ob)} (ty id : Nat) {es n : Nat} {row : Nat → List AV} (hf : find h id = some (.ro es n row)) (hn : notIn id (outIds outs) = true) (ha : allOwned outs = true) (c : CallOK P g args h ret outs) : CallOK P g args (upd h id (.vec ty es n row)) ret outs := by
  have hn' : id ∉ outIds outs := fun hm => by have := allB_ok hn id hm; simp at this
  have hh : hasId h id = true := by unfold hasId; rw [hf]
  obtain ⟨a1, a2, a3⟩ := apply_beside id (.vec ty es n row) outs h (upd h id (.vec ty es n row)) hn' hh (fun x => by
    rw [find_upd]
    by_cases e : id = x
    · rw [if_pos e, if_pos e.symm]
    · rw [if_neg e, if_neg (fun e' => e e'.symm)])
  refine ⟨c.1, fun E W cargs hargs rh hfr => ?_⟩
  rw [a2] at hfr ⊢
  have hv := rh.holds id (.vec ty es n row) (by rw [find_upd, if_pos rfl])
  have hro : Holds E W id (.ro es n row) := by
    obtain ⟨b, k, xs, h1, h2, h3, h4⟩ := hv
    refine ⟨b, k, xs, h1, h2.1, ?_, h3, h4⟩
    cases b with
    | none =>
      rcases h2.2 with ⟨hv, h0⟩ | ⟨g, cap, cur, hv, _⟩
      · simp only [Value.slice.injEq] at hv; exact .inl ⟨rfl, h0, hv.2.2⟩
      · simp at hv
    | some a =>
      have hlt := (h2.lt a.block rfl).2
      have hc := h2.cells (g := a.block) rfl
      have hoff : a.off = 0 ∧ n ≤ k := by
        rcases h2.2 with ⟨hv, _⟩ | ⟨g, cap, cur, hv, _, _, hle, _⟩
        · simp at hv
        · simp only [Value.slice.injEq, Option.some.injEq, true_and] at hv; rw [hv.1, hv.2]; exact ⟨rfl, hle⟩
      refine .inr ⟨a, rfl, hlt, hoff.2, fun j u hu => ?_⟩
      have := hc j u hu
      rw [add_at (⟨a.block, 0, none⟩ : Addr)] at this
      rw [hoff.1]; exact this
  have hrest : ∀ x o, x ≠ id → find h x = some o → find (upd h id (.vec ty es n row)) x = some o := fun x o hx ho => by
    rw [find_upd, if_neg (fun e => hx e.symm)]; exact ho
  have hid : find (upd h id (.vec ty es n row)) id = some (.vec ty es n row) := by rw [find_upd, if_pos rfl]
  have rh0 : RH E h W := by
    refine ⟨fun x o ho => ?_, fun i j o p hi hj hne hw b hb hb2 => ?_⟩
    · by_cases e : x = id
      · subst e; rw [hf] at ho; obtain rfl := Option.some.inj ho; exact hro
      · exact rh.holds x o (hrest x o e ho)
    · have hi' : i ≠ id := fun e => by subst e; rw [hf] at hi; obtain rfl := Option.some.inj hi; cases hw
      by_cases e : j = id
      · subst e
        rw [hf] at hj; obtain rfl := Option.some.inj hj
        exact rh.apart i j o _ (hrest i o hi' hi) hid hne hw b hb (hb2.congr rfl rfl)
      · exact rh.apart i j o p (hrest i o hi' hi) (hrest j p e hj) hne hw b hb hb2
  refine (c.2 E W cargs hargs rh0 hfr).mono ?_
  rintro e W' ⟨cv, E', rfl, hx, hvr, hh', hm⟩
  have hbid : blkOf E' id = blkOf E id := by
    obtain ⟨z, hz⟩ := hv.bound
    exact blkOf_ext hx.1 hz
  have hvec' : Holds E' W' id (.vec ty es n row) := by
    refine (hv.mono hx.1).kept hm.size fun b hb => ?_
    have hb := hb.cg hbid.symm
    refine hm.old b (Holds.blk_lt hb hv) fun i o hi hw hib => ?_
    have hi' : i ≠ id := fun e => by subst e; rw [hf] at hi; obtain rfl := Option.some.inj hi; cases hw
    exact rh.apart i id o _ (hrest i o hi' hi) hid hi' hw b hib hb
  have hold : ∀ x o b, x ≠ id → find (applyO h outs) x = some o → Foot E' W' x o b → o.owned = true → ¬ Foot E' W' id (.vec ty es n row) b := fun x o b hx' ho hb hw hb2 => by
    have hb2 : Foot E W id (.vec ty es n row) b := (hb2.cg hbid.symm).plain rfl
    rcases hm.own x o b ho hb with ⟨i, p, p1, p2, p3⟩ | hge
    · have hp := p2 hw
      have hi' : i ≠ id := fun e => by subst e; rw [hf] at p1; obtain rfl := Option.some.inj p1; cases hp
      exact rh.apart i id p _ (hrest i p hi' p1) hid hi' hp b p3 hb2
    · have := Holds.blk_lt hb2 hv; omega
  refine ⟨cv, E', rfl, hx, hvr, ⟨fun x o ho => ?_, fun i j o p hi hj hne hw b hb hb2 => ?_⟩, ⟨hm.os, hm.tape, hm.output, hm.size, fun b hb hno => hm.old b hb fun i o hi hw => ?_, fun x o b ho hb => ?_⟩⟩
  · rw [a1] at ho
    by_cases e : x = id
    · subst e; rw [if_pos rfl] at ho; obtain rfl := Option.some.inj ho; exact hvec'
    · rw [if_neg e] at ho; exact hh'.holds x o ho
  · rw [a1] at hi hj
    by_cases ei : i = id
    · subst ei
      rw [if_pos rfl] at hi
      obtain rfl := Option.some.inj hi
      rw [if_neg (fun e => hne e.symm)] at hj
      by_cases hwp : p.owned = true
      · exact hold j p b (fun e => hne e.symm) hj hb2 hwp hb
      · have hpo : p.owned = false := by simpa using hwp
        have hj0 := ro_old outs h j p ha hj hpo
        have hje : j ≠ i := fun e => hne e.symm
        obtain ⟨z, hz⟩ := (rh0.holds j p hj0).bound
        have hb2 : Foot E W j p b := (hb2.cg (blkOf_ext hx.1 hz).symm).plain (by cases p <;> first | rfl | cases hpo)
        exact rh.apart i j _ p hid (hrest j p hje hj0) hne rfl b ((hb.cg hbid.symm).plain rfl) hb2
    · rw [if_neg ei] at hi
      by_cases ej : j = id
      · subst ej; rw [if_pos rfl] at hj; obtain rfl := Option.some.inj hj; exact hold i o b ei hi hb hw hb2
      · rw [if_neg ej] at hj; exact hh'.apart i j o p hi hj hne hw b hb hb2
  · have hi' : i ≠ id := fun e => by subst e; rw [hf] at hi; obtain rfl := Option.some.inj hi; cases hw
    exact hno i o (hrest i o hi' hi) hw
  · rw [a1] at ho
    by_cases e : x = id
    · subst e
      rw [if_pos rfl] at ho
      obtain rfl := Option.some.inj ho
      exact .inl ⟨x, _, hid, fun h => h, (hb.cg hbid.symm).plain rfl⟩
    · rw [if_neg e] at ho
      refine (hm.own x o b ho hb).imp_left fun ⟨i, p, p1, p2, p3⟩ => ?_
      by_cases ei : i = id
      · subst ei; rw [hf] at p1; obtain rfl := Option.some.inj p1; exact ⟨i, _, hid, fun _ => rfl, p3⟩
      · exact ⟨i, p, hrest i p ei p1, p2, p3⟩
end Go.Proofs.Ytbgbjgedjmhcaaa
namespace Go.Proofs.Ytbgbjgedjmhcaaa
open Go.RowKit
def OSim : Option Ob → Option Ob → Prop
  | none, none => True
  | some o, some o' => ObLe o o' ∧ ObLe o' o
  | _, _ => False
def HpSim (h h' : Hp) : Prop := ∀ id, OSim (find h id) (find h' id)
theorem OSim.refl : ∀ o, OSim o o
  | none => trivial
  | some o => ⟨ObLe.refl o, ObLe.refl o⟩
theorem OSim.symm : ∀ {a b}, OSim a b → OSim b a
  | none, none, _ => trivial
  | some _, some _, h => ⟨h.2, h.1⟩
theorem HpSim.symm {h h' : Hp} (s : HpSim h h') : HpSim h' h := fun id => (s id).symm
theorem HpSim.get {h h' : Hp} (s : HpSim h h') {id : Nat} {o' : Ob} (ho : find h' id = some o') : ∃ o, find h id = some o ∧ ObLe o o' ∧ ObLe o' o := by
  have := s id
  rw [ho] at this
  cases hf : find h id with
  | none => rw [hf] at this; exact this.elim
  | some o => rw [hf] at this; exact ⟨o, rfl, this⟩
theorem RH.sim {E : Env} {h h' : Hp} {W : World} (s : HpSim h h') (r : RH E h W) : RH E h' W := by
  refine ⟨fun id o' ho => ?_, fun i j o' p' hi hj hne hw b hb => ?_⟩
  · obtain ⟨o, h1, h2, _⟩ := s.get ho
    exact (ObLe.ok h2 (r.holds id o h1)).1
  · obtain ⟨o, h1, h2, _⟩ := s.get hi
    obtain ⟨p, h3, h4, _⟩ := s.get hj
    exact fun hb2 => r.apart i j o p h1 h3 hne (by rw [← (ObLe.ok h2 (r.holds i o h1)).2]; exact hw) b (h2.foot (r.holds i o h1) hb) (h4.foot (r.holds j p h3) hb2)
theorem applyO_sim : ∀ (outs : List (Nat × Option Ob)) {h h' : Hp}, HpSim h h' → HpSim (applyO h outs) (applyO h' outs)
  | [], _, _, s => s
  | (id, some o) :: l, h, h', s => applyO_sim l fun x => by
    rw [find_upd, find_upd]
    split
    · exact OSim.refl _
    · exact s x
  | (id, none) :: l, h, h', s => applyO_sim l fun x => by
    rw [find_del, find_del]
    split
    · exact OSim.refl _
    · exact s x
theorem hasId_sim {h h' : Hp} (s : HpSim h h') (id : Nat) : hasId h id = hasId h' id := by
  have := s id
  unfold hasId
  cases hf : find h id <;> cases hf' : find h' id <;> rw [hf, hf'] at this <;> first | rfl | exact this.elim
theorem newIds_sim : ∀ (outs : List (Nat × Option Ob)) {h h' : Hp}, HpSim h h' → newIds h outs = newIds h' outs
  | [], _, _, s => rfl
  | (id, some o) :: l, h, h', s => by
    have ih := newIds_sim l (h := upd h id o) (h' := upd h' id o) fun x => by
      rw [find_upd, find_upd]
      split
      · exact OSim.refl _
      · exact s x
    simp only [newIds, hasId_sim s id, ih]
  | (id, none) :: l, h, h', s => by
    have ih := newIds_sim l (h := del h id) (h' := del h' id) fun x => by
      rw [find_del, find_del]
      split
      · exact OSim.refl _
      · exact s x
    simp only [newIds, ih]
theorem ObLe.owned {o o' : Ob} (h : ObLe o o') : o'.owned = o.owned := by
  cases o <;> cases o' <;> first | rfl | exact (by simp [ObLe] at h)
theorem Mod.sim {E E' : Env} {h h' a a' : Hp} {W W' : World} (s : HpSim h h') (t : HpSim a a') (r : RH E h W) (r' : RH E' a W') (m : Mod E h W E' a W') : Mod E h' W E' a' W' := by
  refine ⟨m.os, m.tape, m.output, m.size, fun b hb hn => m.old b hb fun id o ho hw => ?_, fun id o' b ho hb => ?_⟩
  · obtain ⟨o', h1, h2, h3⟩ := s.symm.get ho
    exact fun hb2 => hn id o' h1 (by rw [← h2.owned]; exact hw) (h2.foot ((RH.sim s r).holds id o' h1) hb2)
  · obtain ⟨o, h1, h2, _⟩ := t.get ho
    rcases m.own id o b h1 (h2.foot (r'.holds id o h1) hb) with ⟨i, p, g1, g2, g3⟩ | g
    · obtain ⟨p', k1, k2, k3⟩ := s.symm.get g1
      exact .inl ⟨i, p', k1, fun hw => by rw [← k2.owned]; exact g2 (by rw [← h2.owned]; exact hw), k2.foot ((RH.sim s r).holds i p' k1) g3⟩
    · exact .inr g
theorem CallOK.sim {P : Program} {g : FuncId} {args : List AV} {h h' : Hp} {ret : AV} {outs : List (Nat × Option Ob)} (s : HpSim h h') (c : CallOK P g args h ret outs) : CallOK P g args h' ret outs := by
  refine ⟨c.1, fun E W cargs hr rh hn => ?_⟩
  refine (c.2 E W cargs hr (rh.sim s.symm) (fun id hid => hn id (by rw [← newIds_sim outs s]; exact hid))).mono fun e W' ⟨cv, E', he, hx, hv, hr', hm⟩ => ?_
  exact ⟨cv, E', he, by rw [← newIds_sim outs s]; exact hx, hv, hr'.sim (applyO_sim outs s), hm.sim s (applyO_sim outs s) (rh.sim s.symm) hr'⟩
def OutSim : List (Nat × Option Ob) → List (Nat × Option Ob) → Prop
  | [], [] => True
  | (i, o) :: l, (j, p) :: m => i = j ∧ OSim o p ∧ OutSim l m
  | _, _ => False
theorem OutSim.nil : OutSim [] [] := trivial
theorem OutSim.cons {i : Nat} {o p : Option Ob} {l m : List (Nat × Option Ob)} (e : OSim o p) (t : OutSim l m) : OutSim ((i, o) :: l) ((i, p) :: m) := ⟨rfl, e, t⟩
theorem HpSim.upd {h h' : Hp} (s : HpSim h h') (i : Nat) {o o' : Ob} (e : OSim (some o) (some o')) : HpSim (upd h i o) (upd h' i o') := fun x => by
  rw [find_upd, find_upd]
  split
  · exact e
  · exact s x
theorem HpSim.del {h h' : Hp} (s : HpSim h h') (i : Nat) : HpSim (del h i) (del h' i) := fun x => by
  rw [find_del, find_del]
  split
  · exact OSim.refl _
  · exact s x
theorem out_sim : ∀ {outs outs' : List (Nat × Option Ob)} {h h' : Hp}, OutSim outs outs' → HpSim h h' → HpSim (applyO h outs) (applyO h' outs') ∧ newIds h outs = newIds h' outs'
  | [], [], h, h', _, s => ⟨s, rfl⟩
  | (i, some o) :: l, (j, some p) :: m, h, h', ⟨e, e2, e3⟩, s => by
    subst e
    obtain ⟨g1, g2⟩ := out_sim e3 (s.upd i e2)
    exact ⟨g1, by simp only [newIds, hasId_sim s i, g2]⟩
  | (i, none) :: l, (j, none) :: m, h, h', ⟨e, e2, e3⟩, s => by
    subst e
    obtain ⟨g1, g2⟩ := out_sim e3 (s.del i)
    exact ⟨g1, by simp only [newIds, g2]⟩
  | (i, some o) :: l, (j, none) :: m, _, _, ⟨_, e2, _⟩, _ => e2.elim
  | (i, none) :: l, (j, some o) :: m, _, _, ⟨_, e2, _⟩, _ => e2.elim
  | [], _ :: _, _, _, e, _ => e.elim
  | _ :: _, [], _, _, e, _ => e.elim
theorem CallOK.simO {P : Program} {g : FuncId} {args : List AV} {h : Hp} {ret : AV} {outs outs' : List (Nat × Option Ob)} (c : CallOK P g args h ret outs) (s : OutSim outs outs') : CallOK P g args h ret outs' := by
  have s0 : HpSim h h := fun id => OSim.refl _
  obtain ⟨g1, g2⟩ := out_sim s s0
  refine ⟨c.1, fun E W cargs hr rh hn => ?_⟩
  refine (c.2 E W cargs hr rh (fun id hid => hn id (by rw [← g2]; exact hid))).mono fun e W' ⟨cv, E', he, hx, hv, hr', hm⟩ => ?_
  exact ⟨cv, E', he, by rw [← g2]; exact hx, hv, hr'.sim g1, hm.sim s0 g1 rh hr'⟩
theorem renL_drop (σ : List (Nat × Nat)) : ∀ (n : Nat) (l : List AV), renL σ (l.drop n) = (renL σ l).drop n
  | 0, l => rfl
  | n + 1, [] => rfl
  | n + 1, x :: l => by simp only [List.drop_succ_cons, renL]; exact renL_drop σ n l
theorem renL_take (σ : List (Nat × Nat)) : ∀ (n : Nat) (l : List AV), renL σ (l.take n) = (renL σ l).take n
  | 0, l => rfl
  | n + 1, [] => rfl
  | n + 1, x :: l => by simp only [List.take_succ_cons, renL]; rw [renL_take σ n l]
theorem renL_rowsOf (σ : List (Nat × Nat)) (cs : List AV) (es q : Nat) : renL σ (rowsOf cs es q) = rowsOf (renL σ cs) es q := by
  unfold rowsOf; rw [renL_take, renL_drop]
theorem OSim.rowsV {σ : List (Nat × Nat)} {ty es n : Nat} {cs cs' : List AV} (h : renL σ cs = cs') : OSim (some (renO σ (.vec ty es n (rowsOf cs es)))) (some (.vec ty es n (rowsOf cs' es))) := by
  subst h
  exact ⟨⟨rfl, rfl, rfl, fun q _ => renL_rowsOf σ cs es q⟩, ⟨rfl, rfl, rfl, fun q _ => (renL_rowsOf σ cs es q).symm⟩⟩
theorem OSim.rowsR {σ : List (Nat × Nat)} {es n : Nat} {cs cs' : List AV} (h : renL σ cs = cs') : OSim (some (renO σ (.ro es n (rowsOf cs es)))) (some (.ro es n (rowsOf cs' es))) := by
  subst h
  exact ⟨⟨rfl, rfl, fun q _ => renL_rowsOf σ cs es q⟩, ⟨rfl, rfl, fun q _ => (renL_rowsOf σ cs es q).symm⟩⟩
theorem HpSim.nil : HpSim [] [] := fun _ => trivial
theorem HpSim.cons {k k' : Nat} {o o' : Ob} {h h' : Hp} (e : k = k') (s : OSim (some o) (some o')) (t : HpSim h h') : HpSim ((k, o) :: h) ((k', o') :: h') := by
  subst e
  intro id
  simp only [find]
  split
  · exact s
  · exact t id
theorem CallOK.simR {P : Program} {g : FuncId} {args : List AV} {h h' : Hp} {ret : AV} {outs : List (Nat × Option Ob)} (c : CallOK P g args h ret outs) (s : HpSim h h') : CallOK P g args h' ret outs := c.sim s
end Go.Proofs.Ytbgbjgedjmhcaaa
