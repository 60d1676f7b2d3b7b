/- The engine, part F: fields, indexes, slices, new slices, append, numbers. No conditions but those of each theorem. -/
import Derived.Test.YtbgbjgedjmhcaaaSyD
namespace Go.Proofs.Ytbgbjgedjmhcaaa
open Go.RowKit
set_option linter.unusedVariables false
set_option linter.unusedSimpArgs false

inductive Hint where
  | none
  | tt (b : Bool)
  | wrap
  | eq (z : Int)
  | call (ids : List Nat) (ret : AV) (outs : List (Nat × Option Ob))
  | row (cs : List AV)
  | is (v : AV)
  | inpl
  | cell (v : AV)
  | ext (v : AV)
  | inv (f : FuncId) (rx : AV) (ids : List Nat) (ret : AV) (outs : List (Nat × Option Ob))

/-- a variable is read, its cells told otherwise -/
def loadH (P : Program) (h : Hint) (t : TypeId) (v : AV) : Ac AV := match h with
  | .row cs => match v with
    | .ptr id i es j => .get id fun o => winA o i es j fun ds => .need (ds = cs) (partA P t cs)
    | _ => .fail
  | .cell w => match v with
    | .ptr id 0 _ j => .get id fun o => match o with
      | .blk _ cs => .need (nth cs j = some w) (partA P t [w])
      | _ => .fail
    | _ => .fail
  | _ => loadA P t v
section
variable {P : Program} {E : Env} {s : St} {W : World} {sem : Sem Value}

theorem loadH_ok (r : RH E s.heap W) (h : Hint) {t : TypeId} {v : AV} {c : Value} (hv : RV E v c) : SemAt P E s W (Instr.loadAt t c) (loadH P h t v) := by
  unfold loadH
  split
  · split
    · rename_i id i es j
      refine (SemQ.get fun o ho => win_ok (r.holds id o ho) i es j _ fun a kk cs xs h1 h2 h3 => SemQ.need fun e => ?_).at r
      subst e
      simp only [RV] at hv
      obtain ⟨a', k', e, rfl⟩ := hv
      rw [e] at h1
      obtain ⟨rfl, rfl⟩ : a' = a ∧ k' = kk := by simpa using h1
      refine loadVar_ok h2 h3 ?_
      simp only [Instr.loadAt, Instr.sureAddr, Sem.run_bind, Sem.run_pure, Result.andThen_ok]
    · exact SemQ.fail.at r
  · split
    · rename_i w id es j
      simp only [RV] at hv
      obtain ⟨a, k, he, rfl⟩ := hv
      refine (SemQ.get fun o ho => ?_).at r
      split
      · rename_i ty cs
        refine SemQ.need fun e => ?_
        obtain ⟨b, k', xs, h1, h2, h3, _⟩ := r.holds id _ ho
        rw [he] at h1
        simp only [Option.some.injEq, Prod.mk.injEq] at h1
        obtain ⟨rfl, rfl⟩ := h1
        obtain ⟨y, hy, hy2⟩ := h3.get _ _ e
        refine loadVar_ok (a := ⟨b, 0, none⟩) (n := 0 + (0 * es + j)) (xs := [y]) (by simp only [RVs]; exact ⟨_, _, rfl, hy2, rfl⟩) (fun d u hu => ?_) ?_
        · cases d with
          | zero =>
            simp only [List.getElem?_cons_zero, Option.some.injEq] at hu
            subst hu
            simpa [World.cell?, h2] using hy
          | succ d => simp at hu
        · simp only [Instr.loadAt, Instr.sureAddr, Sem.run_bind, Sem.run_pure, Result.andThen_ok]
      · exact SemQ.fail
    · exact SemQ.fail.at r
  · exact load_ok r hv
theorem part_ok (r : RH E s.heap W) {t : TypeId} {cs : List AV} {xs : List Value} (hc : RVs E cs xs) (off : Nat) (hs : sem.run P W = (part t xs.toArray off).run P W) : SemAt P E s W sem (partA P t (cs.drop off)) := by
  unfold partA
  cases hg : tyAgg P t with
  | none => exact SemAt.fail
  | some b =>
    cases b with
    | true =>
      dsimp only
      cases hz : tySize P t with
      | none => exact SemAt.fail
      | some z =>
        dsimp only
        cases hl : lenGe (cs.drop off) z with
        | false => exact SemAt.fail
        | true =>
          dsimp only
          refine SemAt.ret r (cv := .agg ((xs.drop off).take z).toArray) ?_ (by simp only [RV]; exact ⟨_, rfl, (hc.drop off).take z⟩)
          rw [hs]
          have e : xs.toArray.extract off (off + z) = ((xs.drop off).take z).toArray := by
            apply Array.ext'
            simp [List.take_drop]
          simp only [part, Sem.run_bind, run_isAgg hg, run_size hz, Result.andThen_ok, if_true, Sem.run_pure, e]
    | false =>
      dsimp only
      cases hd : cs.drop off with
      | nil => exact SemAt.fail
      | cons v l =>
        have hn : nth cs off = some v := by rw [nth_eq]; have := congrArg (fun l => l[0]?) hd; simpa using this
        obtain ⟨y, hy, hy2⟩ := hc.get off v hn
        refine SemAt.ret r (cv := y) ?_ hy2
        rw [hs]
        have : xs.toArray[off]? = some y := by simpa using hy
        simp only [part, Sem.run_bind, run_isAgg hg, Result.andThen_ok, Bool.false_eq_true, if_false, this, Sem.run_pure]
def fieldOf (P : Program) (t : TypeId) (f : Nat) : Option Field := match P.underlying t with
  | some (.struct fs) => nth fs.toList f
  | _ => none
theorem fieldOf_ok {t f : Nat} {fd : Field} (h : fieldOf P t f = some fd) : ∃ fs, P.underlying t = some (.struct fs) ∧ fs[f]? = some fd := by
  unfold fieldOf at h
  split at h
  · rename_i fs hu
    rw [nth_eq] at h
    exact ⟨fs, hu, by simpa using h⟩
  · cases h
def fieldA (P : Program) (t : TypeId) (v : AV) (f : Nat) : Ac AV := match v with
  | .agg cs => match fieldOf P t f with
    | some fd => partA P fd.type (cs.drop fd.offset)
    | none => .fail
  | _ => .fail
theorem field_ok (r : RH E s.heap W) (t : TypeId) {v : AV} {c : Value} (h : RV E v c) (f : Nat) : SemAt P E s W (Instr.field t c f) (fieldA P t v f) := by
  unfold fieldA
  split
  case h_2 => exact SemAt.fail
  rename_i cs
  split
  case h_2 => exact SemAt.fail
  rename_i fd hf
  obtain ⟨fs, hu, hfd⟩ := fieldOf_ok hf
  simp only [RV] at h
  obtain ⟨xs, rfl, h1⟩ := h
  refine part_ok r h1 fd.offset ?_
  simp only [Instr.field, Sem.run_bind, run_underlying hu, Result.andThen_ok, hfd, asAgg, Sem.run_pure]
def fieldAddrA (P : Program) (t : TypeId) (v : AV) (f : Nat) : Ac AV := match v with
  | .ptr id i es j => match fieldOf P t f with
    | some fd => match tySize P fd.type with
      | some (_ + 1) => .ret (.ptr id i es (j + fd.offset))
      | _ => .fail
    | none => .fail
  | _ => .fail
theorem fieldAddr_ok (r : RH E s.heap W) (t : TypeId) {v : AV} {c : Value} (h : RV E v c) (f : Nat) : SemAt P E s W (Instr.fieldAt t c f) (fieldAddrA P t v f) := by
  unfold fieldAddrA
  split
  case h_2 => exact SemAt.fail
  rename_i id i es j
  split
  case h_2 => exact SemAt.fail
  rename_i fd hf
  obtain ⟨fs, hu, hfd⟩ := fieldOf_ok hf
  split
  case h_2 => exact SemAt.fail
  rename_i q hz
  simp only [RV] at h
  obtain ⟨a, k, he, rfl⟩ := h
  refine SemAt.ret r (cv := .pointer (some ⟨a.block, a.off + (i * es + j) + fd.offset, none⟩)) ?_ (by simp only [RV]; exact ⟨a, k, he, by congr 3; omega⟩)
  simp only [Instr.fieldAt, Sem.run_bind, run_underlying hu, Result.andThen_ok, hfd, Instr.sureAddr, Sem.run_pure, fieldPlace, run_size hz, Nat.succ_ne_zero, if_false, add_at]
def addN : Nat → Nat → Nat
  | 0, k => k
  | i + 1, k => i + 1 + k
theorem addN_eq (i k : Nat) : addN i k = i + k := by cases i <;> simp [addN]
def indexAddrA (P : Program) (t : TypeId) (x ix : AV) : Ac AV := match ix with
  | .val (.int k z) => match x with
    | .sl id i es n c => match P.underlying t with
      | some (.slice e) => match tySize P e with
        | some q => match q == es with
          | true => .need (0 ≤ z ∧ z < (n : Int)) (.ret (.ptr id (addN i z.toNat) es 0))
          | false => .fail
        | none => .fail
      | _ => .fail
    | .ptr id i es j => match P.underlying t with
      | some (.array len e) => match tySize P e with
        | some 1 => .need (0 ≤ z ∧ z < (len : Int)) (.ret (.ptr id i es (j + z.toNat)))
        | some q => .need (0 ≤ z ∧ z < (len : Int)) (.ret (.ptr id i es (j + z.toNat * q)))
        | none => .fail
      | _ => .fail
    | _ => .fail
  | _ => .fail
theorem indexAddr_ok (r : RH E s.heap W) (t : TypeId) {x ix : AV} {cx ci : Value} (hx : RV E x cx) (hi : RV E ix ci) : SemAt P E s W (Instr.indexAt t cx ci) (indexAddrA P t x ix) := by
  unfold indexAddrA
  split
  case h_2 => exact SemAt.fail
  rename_i k z
  simp only [RV] at hi
  subst hi
  split
  · rename_i id i es n c
    split
    case h_2 => exact SemAt.fail
    rename_i e hu
    split
    case h_2 => exact SemAt.fail
    rename_i q hq
    split
    case h_2 => exact SemAt.fail
    rename_i hqe
    have hqe' : q = es := by simpa using hqe
    subst hqe'
    refine SemAt.need fun hz => ?_
    simp only [RV] at hx
    obtain ⟨b, kk, he, h2⟩ := hx
    cases b with
    | none => obtain ⟨_, _, rfl, _⟩ := h2; omega
    | some a =>
      obtain ⟨o, m, rfl, h3, h4, h5, _⟩ := h2
      have ho := h5 (by omega)
      refine SemAt.ret r (cv := .pointer (some ⟨a.block, o + z.toNat * q, none⟩)) ?_ (by simp only [RV]; exact ⟨a, kk, he, by rw [ho, addN_eq, Nat.add_mul]; congr 3; omega⟩)
      have hc : (0 ≤ z ∧ z < (n : Int)) := hz
      simp only [Instr.indexAt, asIntOf, Sem.run_bind, Sem.run_pure, Result.andThen_ok, run_underlying hu, Bool.and_false, Sem.run_ite, hc, and_self, if_true, run_size hq, add_at]
  · rename_i id i es j
    split
    case h_2 => exact SemAt.fail
    rename_i len e hu
    simp only [RV] at hx
    obtain ⟨a, kk, he, rfl⟩ := hx
    have key : ∀ q, tySize P e = some q → (0 ≤ z ∧ z < (len : Int)) → (Instr.indexAt t (.pointer (some ⟨a.block, a.off + (i * es + j), none⟩)) (.int k z)).run P W = .ok (.pointer (some ⟨a.block, a.off + (i * es + j) + z.toNat * q, none⟩)) W := fun q hq hc => by
      simp only [Instr.indexAt, asIntOf, Sem.run_bind, Sem.run_pure, Result.andThen_ok, run_underlying hu, Instr.sureAddr, Sem.run_ite, hc, and_self, if_true, run_size hq, add_at]
    split
    case h_3 => exact SemAt.fail
    · rename_i hq
      refine SemAt.need fun hz => ?_
      exact SemAt.ret r (key 1 hq hz) (by simp only [RV]; exact ⟨a, kk, he, by congr 3; omega⟩)
    · rename_i q hq _
      refine SemAt.need fun hz => ?_
      exact SemAt.ret r (key q (by assumption) hz) (by simp only [RV]; exact ⟨a, kk, he, by congr 3; omega⟩)
  · exact SemAt.fail
/-- a byte of a string -/
def byteAt (s : ByteArray) (k : Nat) : Int := ((s.data.toList[k]?.getD 0).toNat : Nat)
def indexA (P : Program) (t : TypeId) (x ix : AV) : Ac AV := match ix with
  | .val (.int k z) => match P.underlying t with
    | some .string => match x with
      | .val (.string s) => .need (0 ≤ z ∧ z < (s.size : Int)) (.ret (.val (.int .u8 (byteAt s z.toNat))))
      | _ => .fail
    | some (.array len e) => match x with
      | .agg cs => match tySize P e with
        | some q => .need (0 ≤ z ∧ z < (len : Int)) (partA P e (cs.drop (z.toNat * q)))
        | none => .fail
      | _ => .fail
    | _ => .fail
  | _ => .fail
theorem index_ok (r : RH E s.heap W) (t : TypeId) {x ix : AV} {cx ci : Value} (hx : RV E x cx) (hi : RV E ix ci) : SemAt P E s W (Instr.index t cx ci) (indexA P t x ix) := by
  unfold indexA
  split
  case h_2 => exact SemAt.fail
  rename_i k z
  simp only [RV] at hi
  subst hi
  split
  · rename_i hu
    split
    case h_2 => exact SemAt.fail
    rename_i str
    refine SemAt.need fun hz => ?_
    simp only [RV] at hx
    subst hx
    refine SemAt.ret r (cv := .int .u8 (byteAt str z.toNat)) ?_ (by simp only [RV])
    have hlt : z.toNat < str.size := by omega
    have hlt2 : z.toNat < str.data.toList.length := by simpa using hlt
    have hb : byteAt str z.toNat = ((str[z.toNat]'hlt).toNat : Int) := by
      unfold byteAt
      rw [List.getElem?_eq_getElem hlt2]
      rfl
    have hg : (if 0 ≤ z then str[z.toNat]? else none) = some (str[z.toNat]'hlt) := by
      rw [if_pos hz.1]
      simp [hlt]
    simp only [Instr.index, asIntOf, Sem.run_bind, Sem.run_pure, Result.andThen_ok, run_underlying hu, hg, hb]
  · rename_i len e hu
    split
    case h_2 => exact SemAt.fail
    rename_i cs
    split
    case h_2 => exact SemAt.fail
    rename_i q hq
    refine SemAt.need fun hz => ?_
    simp only [RV] at hx
    obtain ⟨xs, rfl, h1⟩ := hx
    refine part_ok r h1 (z.toNat * q) ?_
    have hc : (0 ≤ z ∧ z < (len : Int)) := hz
    simp only [Instr.index, asIntOf, Sem.run_bind, Sem.run_pure, Result.andThen_ok, run_underlying hu, Sem.run_ite, hc, and_self, if_true, run_size hq]
  · exact SemAt.fail
def extractA (v : AV) (i : Nat) : Ac AV := match v with
  | .tup vs => match nth vs i with
    | some x => .ret x
    | none => .fail
  | _ => .fail
theorem extract_ok (r : RH E s.heap W) {v : AV} {c : Value} (h : RV E v c) (i : Nat) : SemAt P E s W (Instr.extract c i) (extractA v i) := by
  unfold extractA
  split
  case h_2 => exact SemAt.fail
  split
  case h_2 => exact SemAt.fail
  rename_i vs x hx
  simp only [RV] at h
  obtain ⟨xs, rfl, h1⟩ := h
  obtain ⟨y, hy, hy2⟩ := h1.get i x hx
  refine SemAt.ret r (cv := y) ?_ hy2
  have : xs.toArray[i]? = some y := by simpa using hy
  simp only [Instr.extract, this, Sem.run_pure]

/-! ### Numbers -/
/-- what a kind of integers can hold -/
def inK : IntKind → Int → Prop
  | .i64, z => -9223372036854775808 ≤ z ∧ z ≤ 9223372036854775807
  | .i32, z => -2147483648 ≤ z ∧ z ≤ 2147483647
  | .i16, z => -32768 ≤ z ∧ z ≤ 32767
  | .i8, z => -128 ≤ z ∧ z ≤ 127
  | .u64, z => 0 ≤ z ∧ z ≤ 18446744073709551615
  | .u32, z => 0 ≤ z ∧ z ≤ 4294967295
  | .u16, z => 0 ≤ z ∧ z ≤ 65535
  | .u8, z => 0 ≤ z ∧ z ≤ 255
theorem wrap_in {k : IntKind} {z : Int} (h : inK k z) : k.wrap z = z := by
  cases k with
  | i64 => exact IntWalk.i64_in z h
  | i32 => exact IntWalk.i32_in z h
  | i16 => exact IntWalk.i16_in z h
  | i8 => exact IntWalk.i8_in z h
  | u64 => exact IntWalk.u64_in z h
  | u32 => exact IntWalk.u32_in z h
  | u16 => exact IntWalk.u16_in z h
  | u8 => exact IntWalk.u8_in z h
def arithA (h : Hint) (k : IntKind) (z : Int) : Ac AV := match h with
  | .wrap => .ret (.val (.int k (k.wrap z)))
  | .eq y => .need (k.wrap z = y) (.ret (.val (.int k y)))
  | _ => .need (inK k z) (.ret (.val (.int k z)))
theorem arith_ok (r : RH E s.heap W) (h : Hint) {k : IntKind} {z : Int} (hs : sem.run P W = .ok (.int k (k.wrap z)) W) : SemAt P E s W sem (arithA h k z) := by
  unfold arithA
  split
  · exact SemAt.ret r hs (by simp only [RV])
  · exact SemAt.need fun e => SemAt.ret r hs (by simp only [RV]; rw [e])
  · exact SemAt.need fun e => SemAt.ret r hs (by simp only [RV]; rw [wrap_in e])
def cmpA (h : Hint) (b : Bool) : Ac AV := .ret (.val (.bool b))
theorem cmp_ok (r : RH E s.heap W) (h : Hint) {b : Bool} (hs : sem.run P W = .ok (.bool b) W) : SemAt P E s W sem (cmpA h b) := SemAt.ret r hs (by simp only [RV])
/-- bits of numbers -/
def bitsV (op : BinOp) (k : IntKind) (x y : Int) : Int := match op with
  | .and => ((BitVec.ofInt k.bits x) &&& (BitVec.ofInt k.bits y)).toNat
  | .or => ((BitVec.ofInt k.bits x) ||| (BitVec.ofInt k.bits y)).toNat
  | .xor => ((BitVec.ofInt k.bits x) ^^^ (BitVec.ofInt k.bits y)).toNat
  | _ => ((BitVec.ofInt k.bits x) &&& ~~~(BitVec.ofInt k.bits y)).toNat
def sameK : IntKind → IntKind → Bool
  | .i8, .i8 => true | .i16, .i16 => true | .i32, .i32 => true | .i64, .i64 => true
  | .u8, .u8 => true | .u16, .u16 => true | .u32, .u32 => true | .u64, .u64 => true
  | _, _ => false
theorem sameK_ok {a b : IntKind} (h : sameK a b = true) : a = b := by cases a <;> cases b <;> first | rfl | cases h
def intBin (h : Hint) (op : BinOp) (k : IntKind) (a : Int) (k' : IntKind) (b : Int) : Ac AV := match op with
  | .shl => .need (0 ≤ b ∧ b ≤ (k.bits : Int)) (arithA h k (a * 2 ^ b.toNat))
  | .shr => .need (0 ≤ b ∧ b ≤ (k.bits : Int)) (.ret (.val (.int k (a / 2 ^ b.toNat))))
  | op => match sameK k k' with
    | false => .fail
    | true => match op with
      | .add => arithA h k (a + b)
      | .sub => arithA h k (a - b)
      | .mul => arithA h k (a * b)
      | .quo => match h with
        | .wrap => .need (b ≠ 0) (.ret (.val (.int k (k.wrap (a.tdiv b)))))
        | h => .need (0 ≤ a ∧ 0 < b) (arithA h k (a / b))
      | .rem => match h with
        | .wrap => .need (b ≠ 0) (.ret (.val (.int k (a.tmod b))))
        | _ => .need (0 ≤ a ∧ 0 < b) (.ret (.val (.int k (a % b))))
      | .and => arithA h k (bitsV .and k a b)
      | .or => arithA h k (bitsV .or k a b)
      | .xor => arithA h k (bitsV .xor k a b)
      | .andNot => arithA h k (bitsV .andNot k a b)
      | .eql => cmpA h (decide (a = b))
      | .neq => cmpA h (decide (¬ a = b))
      | .lss => cmpA h (decide (a < b))
      | .leq => cmpA h (decide (a ≤ b))
      | .gtr => cmpA h (decide (a > b))
      | .geq => cmpA h (decide (a ≥ b))
      | _ => .fail
theorem beq_dec (a b : Int) : (a == b) = decide (a = b) := by by_cases h : a = b <;> simp [h]
theorem intBin_ok (r : RH E s.heap W) (h : Hint) (op : BinOp) (t : TypeId) (k : IntKind) (a : Int) (k' : IntKind) (b : Int) : SemAt P E s W (binOp op t (.int k a) (.int k' b)) (intBin h op k a k' b) := by
  have hm : ∀ b : Int, 0 ≤ b ∧ b ≤ (k.bits : Int) → min b.toNat k.bits = b.toNat := fun b hb => by omega
  unfold intBin
  split
  · refine SemAt.need fun hb => arith_ok r h ?_
    have h0 : ¬ b < 0 := by omega
    simp only [binOp, Op.shift, if_neg h0, hm b hb, Sem.run_pure]
  · refine SemAt.need fun hb => SemAt.ret r (cv := .int k (a.fdiv (2 ^ b.toNat))) ?_ ?_
    · have h0 : ¬ b < 0 := by omega
      simp only [binOp, Op.shift, if_neg h0, hm b hb, Sem.run_pure]
    · simp only [RV]
      rw [Int.fdiv_eq_ediv_of_nonneg _ (by exact Int.le_of_lt (Int.pow_pos (by decide)))]
  · rename_i hn1 hn2
    split
    · exact SemAt.fail
    rename_i hk
    obtain rfl := sameK_ok hk
    cases op <;> first | exact SemAt.fail | exact absurd rfl hn1 | exact absurd rfl hn2 | skip
    case add => exact arith_ok r h (by simp [binOp, Op.intArith])
    case sub => exact arith_ok r h (by simp [binOp, Op.intArith])
    case mul => exact arith_ok r h (by simp [binOp, Op.intArith])
    case quo =>
      dsimp only
      split
      · refine SemAt.need fun hb => SemAt.ret r (cv := .int k (k.wrap (a.tdiv b))) (by simp [binOp, Op.intDiv, hb]) (by simp only [RV])
      · refine SemAt.need fun hb => arith_ok r h ?_
        have h0 : ¬ b = 0 := by omega
        simp [binOp, Op.intDiv, h0, Int.tdiv_eq_ediv_of_nonneg hb.1]
    case rem =>
      dsimp only
      split
      · refine SemAt.need fun hb => SemAt.ret r (cv := .int k (a.tmod b)) (by simp [binOp, Op.intDiv, hb]) (by simp only [RV])
      · refine SemAt.need fun hb => SemAt.ret r (cv := .int k (a % b)) ?_ (by simp only [RV])
        have h0 : ¬ b = 0 := by omega
        simp [binOp, Op.intDiv, h0, Int.tmod_eq_emod_of_nonneg hb.1]
    case and => exact arith_ok r h (by simp [binOp, Op.intBits, bitsV])
    case or => exact arith_ok r h (by simp [binOp, Op.intBits, bitsV])
    case xor => exact arith_ok r h (by simp [binOp, Op.intBits, bitsV])
    case andNot => exact arith_ok r h (by simp [binOp, Op.intBits, bitsV])
    case eql => exact cmp_ok r h (by simp [binOp, Op.intCmp, beq_dec])
    case neq => exact cmp_ok r h (by simp [binOp, Op.intCmp, bne, beq_dec])
    case lss => exact cmp_ok r h (by simp [binOp, Op.intCmp])
    case leq => exact cmp_ok r h (by simp [binOp, Op.intCmp])
    case gtr => exact cmp_ok r h (by simp [binOp, Op.intCmp])
    case geq => exact cmp_ok r h (by simp [binOp, Op.intCmp])
end
end Go.Proofs.Ytbgbjgedjmhcaaa
