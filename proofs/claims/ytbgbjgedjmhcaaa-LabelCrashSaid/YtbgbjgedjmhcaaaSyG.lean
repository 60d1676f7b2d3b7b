/- The engine, part G: texts, tests of equality, conversions, slices, append. No conditions but those of each theorem. -/
import Derived.Test.YtbgbjgedjmhcaaaSyF
namespace Go.Proofs.Ytbgbjgedjmhcaaa
open Go.RowKit
set_option linter.unusedVariables false
set_option linter.unusedSimpArgs false

section
variable {P : Program} {E : Env} {s : St} {W : World} {sem : Sem Value}
theorem strEq (x y : ByteArray) : (x.toList == y.toList) = decide (x = y) := by
  have : (x.toList = y.toList) ↔ x = y := by
    rw [ByteArray.toList_eq, ByteArray.toList_eq]
    obtain ⟨⟨a⟩⟩ := x
    obtain ⟨⟨b⟩⟩ := y
    simp
  by_cases h : x = y
  · rw [decide_eq_true h, h]; simp
  · rw [decide_eq_false h]
    have h2 : ¬ x.toList = y.toList := fun e => h (this.1 e)
    simpa using h2
def strBin (h : Hint) (op : BinOp) (x y : ByteArray) : Ac AV := match op with
  | .add => .need (x.size + y.size ≤ 9223372036854775807) (.ret (.val (.string (x ++ y))))
  | .eql => cmpA h (decide (x = y))
  | .neq => cmpA h (decide (¬ x = y))
  | .lss => cmpA h (Op.bytesLess x.toList y.toList)
  | .geq => cmpA h (!Op.bytesLess x.toList y.toList)
  | .leq => cmpA h (Op.bytesLess x.toList y.toList || decide (x = y))
  | .gtr => cmpA h (!(Op.bytesLess x.toList y.toList || decide (x = y)))
  | _ => .fail
theorem strBin_ok (r : RH E s.heap W) (h : Hint) (op : BinOp) (t : TypeId) (x y : ByteArray) : SemAt P E s W (binOp op t (.string x) (.string y)) (strBin h op x y) := by
  unfold strBin
  cases op <;> first | exact SemAt.fail | skip
  case add =>
    refine SemAt.need fun hs => SemAt.ret r (cv := .string (x ++ y)) ?_ (by simp only [RV])
    have h0 : ¬ (((x.size + y.size : Nat) : Int) > IntKind.i64.max) := by
      have : IntKind.i64.max = 9223372036854775807 := by decide
      rw [this]; omega
    simp only [binOp, Op.stringOp, if_neg h0, Sem.run_pure]
  case eql => exact cmp_ok r h (by simp [binOp, Op.stringOp, strEq])
  case neq => exact cmp_ok r h (by simp [binOp, Op.stringOp, strEq])
  case lss => exact cmp_ok r h (by simp [binOp, Op.stringOp])
  case geq => exact cmp_ok r h (by simp [binOp, Op.stringOp])
  case leq => exact cmp_ok r h (by simp [binOp, Op.stringOp, strEq])
  case gtr => exact cmp_ok r h (by simp [binOp, Op.stringOp, strEq])
/-- are two values one? where it is seen -/
def eqCell (x y : AV) : Option Bool := match x, y with
  | .val (.int k a), .val (.int k' b) => match sameK k k' with
    | true => some (decide (a = b))
    | false => none
  | .val (.bool a), .val (.bool b) => some (a == b)
  | .val (.string a), .val (.string b) => some (decide (a = b))
  | _, _ => none
/-- a type whose values are seen to be one, or not -/
def plainTy (P : Program) (t : TypeId) : Bool := match P.underlying t with
  | some (.int _) => true
  | some .bool => true
  | some .string => true
  | _ => false
def kindOK (P : Program) (t : TypeId) (x : AV) : Bool := match P.underlying t, x with
  | some (.int _), .val (.int _ _) => true
  | some .bool, .val (.bool _) => true
  | some .string, .val (.string _) => true
  | _, _ => false
theorem eqCell_ok (d : Nat) {t : TypeId} {x y : AV} {cx cy : Value} {b : Bool} (hk : kindOK P t x = true) (he : eqCell x y = some b) (hx : RV E x cx) (hy : RV E y cy) (W : World) : (Op.equalIn (d + 1) t cx cy).run P W = .ok b W := by
  unfold eqCell at he
  split at he
  · rename_i k a k' b'
    split at he
    · rename_i hs
      obtain rfl := sameK_ok hs
      simp only [Option.some.injEq] at he
      subst he
      simp only [RV] at hx hy
      subst hx hy
      unfold kindOK at hk
      cases hu : P.underlying t with
      | none => rw [hu] at hk; simp at hk
      | some q =>
        rw [hu] at hk
        cases q <;> simp at hk
        rw [run_equalIn_int W d t k _ a b' hu, beq_dec]
    · cases he
  · rename_i a b'
    simp only [Option.some.injEq] at he
    subst he
    simp only [RV] at hx hy
    subst hx hy
    unfold kindOK at hk
    cases hu : P.underlying t with
    | none => rw [hu] at hk; simp at hk
    | some q =>
      rw [hu] at hk
      cases q <;> simp at hk
      exact run_equalIn_bool' W d t a b' hu
  · rename_i a b'
    simp only [Option.some.injEq] at he
    subst he
    simp only [RV] at hx hy
    subst hx hy
    unfold kindOK at hk
    cases hu : P.underlying t with
    | none => rw [hu] at hk; simp at hk
    | some q =>
      rw [hu] at hk
      cases q <;> simp at hk
      rw [run_equalIn_string W d t a b' hu, strEq]
  · cases he
/-- the fields of two structs, one behind the other -/
def eqFields (P : Program) (xs ys : List AV) : List Field → Option Bool
  | [] => some true
  | f :: fs => match f.name == "_", tyAgg P f.type, nth xs f.offset, nth ys f.offset with
    | false, some false, some x, some y => match kindOK P f.type x, eqCell x y, eqFields P xs ys fs with
      | true, some b, some c => some (b && c)
      | _, _, _ => none
    | _, _, _, _ => none
theorem eqFields_ok (d : Nat) {xs ys : List AV} {vx vy : List Value} (hx : RVs E xs vx) (hy : RVs E ys vy) (W : World) : ∀ (fs : List Field) (b : Bool), eqFields P xs ys fs = some b → (Op.eqFields (d + 1) vx.toArray vy.toArray fs).run P W = .ok b W
  | [], b, h => by
    simp only [eqFields, Option.some.injEq] at h
    subst h
    simp [Op.eqFields]
  | f :: fs, b, h => by
    unfold eqFields at h
    split at h
    case h_2 => cases h
    rename_i x y hn ha hfx hfy
    split at h
    case h_2 => cases h
    rename_i b1 c1 hk he hr
    simp only [Option.some.injEq] at h
    subst h
    obtain ⟨u, hu, hu2⟩ := hx.get _ _ hfx
    obtain ⟨v, hv, hv2⟩ := hy.get _ _ hfy
    have hne : (f.name ≠ "_") = True := by simpa using hn
    have p1 : (part f.type vx.toArray f.offset).run P W = .ok u W := by
      have : vx.toArray[f.offset]? = some u := by simpa using hu
      simp only [part, Sem.run_bind, run_isAgg ha, Result.andThen_ok, Bool.false_eq_true, if_false, this, Sem.run_pure]
    have p2 : (part f.type vy.toArray f.offset).run P W = .ok v W := by
      have : vy.toArray[f.offset]? = some v := by simpa using hv
      simp only [part, Sem.run_bind, run_isAgg ha, Result.andThen_ok, Bool.false_eq_true, if_false, this, Sem.run_pure]
    have p3 := eqCell_ok (P := P) d hk he hu2 hv2 W
    simp only [Op.eqFields, hne, if_true, Sem.run_bind, p1, p2, p3, Result.andThen_ok]
    cases b1
    · simp
    · simpa using eqFields_ok d hx hy W fs c1 hr
def aggEq (P : Program) (t : TypeId) (xs ys : List AV) : Option Bool := match P.underlying t with
  | some (.struct fs) => match P.stoodInHeld t, P.eqGuardType P.depth t with
    | false, false => eqFields P xs ys fs.toList
    | _, _ => none
  | _ => none
/-- tests against nil -/
def nilEq (x y : AV) : Option Bool := match x, y with
  | .ptr .., .val (.pointer none) => some false
  | .val (.pointer none), .ptr .. => some false
  | .val (.pointer none), .val (.pointer none) => some true
  | .fn .., .val .nilFunc => some false
  | .val .nilFunc, .fn .. => some false
  | .val .nilFunc, .val .nilFunc => some true
  | .val (.slice none _ _), .val (.slice none _ _) => some true
  | .ifc .., .val .nilIface => some false
  | .val .nilIface, .ifc .. => some false
  | _, _ => none
def nilTy (P : Program) (t : TypeId) (x y : AV) : Bool := match P.underlying t, x, y with
  | some (.pointer _), .ptr .., .val (.pointer none) => true
  | some (.pointer _), .val (.pointer none), .ptr .. => true
  | some (.pointer _), .val (.pointer none), .val (.pointer none) => true
  | some (.func ..), .fn .., .val .nilFunc => true
  | some (.func ..), .val .nilFunc, .fn .. => true
  | some (.func ..), .val .nilFunc, .val .nilFunc => true
  | some (.slice _), .val (.slice none _ _), .val (.slice none _ _) => true
  | some (.interface _), .ifc .., .val .nilIface => true
  | some (.interface _), .val .nilIface, .ifc .. => true
  | _, _, _ => false
theorem guard_no (op : BinOp) (t : TypeId) (x y : Operand) (a b : Value) (W : World) (h1 : ∀ p q, (a, b) ≠ (.agg p, .agg q)) (h2 : (a, b) ≠ (.nilIface, .nilIface)) : (eqGuard op t x y a b).run P W = .ok () W := by
  unfold eqGuard
  generalize (!(match op with | .eql => true | .neq => true | x => false)) = q
  cases q
  · rw [if_neg (by simp)]
    split
    · exact absurd rfl h2
    · exact absurd rfl (h1 _ _)
    · rfl
  · rw [if_pos rfl]; rfl
theorem nilEq_ok {t : TypeId} {x y : AV} {cx cy : Value} {b : Bool} (hk : nilTy P t x y = true) (he : nilEq x y = some b) (hx : RV E x cx) (hy : RV E y cy) (W : World) :
    (Op.equal t cx cy).run P W = .ok b W ∧ (∀ op a c, (eqGuard op t a c cx cy).run P W = .ok () W) ∧ (∀ op : BinOp, op = .eql ∨ op = .neq → (binOp op t cx cy).run P W = .ok (.bool (if op = .neq then !b else b)) W) := by
  unfold nilTy at hk
  have pack : ∀ {cx cy : Value} {b : Bool}, (Op.equal t cx cy).run P W = .ok b W → (∀ p q, (cx, cy) ≠ (.agg p, .agg q)) → (cx, cy) ≠ (.nilIface, .nilIface) → (∀ op : BinOp, op = .eql ∨ op = .neq → binOp op t cx cy = if op = .neq then (do pure (.bool (!(← Op.equal t cx cy)))) else (do pure (.bool (← Op.equal t cx cy)))) →
      (Op.equal t cx cy).run P W = .ok b W ∧ (∀ op a c, (eqGuard op t a c cx cy).run P W = .ok () W) ∧ (∀ op : BinOp, op = .eql ∨ op = .neq → (binOp op t cx cy).run P W = .ok (.bool (if op = .neq then !b else b)) W) := by
    intro cx cy b h2 g1 g2 h
    refine ⟨h2, fun op a c => guard_no op t a c _ _ W g1 g2, fun op ho => ?_⟩
    rw [h op ho]
    by_cases e : op = .neq
    · rw [if_pos e, if_pos e]; simp [h2]
    · rw [if_neg e, if_neg e]; simp [h2]
  split at hk
  case h_10 => cases hk
  all_goals
    rename_i hu
    simp only [nilEq, Option.some.injEq] at he
    subst he
    simp only [RV] at hx hy
    first
      | (obtain ⟨a, k, _, rfl⟩ := hx; subst hy)
      | (obtain ⟨a, k, _, rfl⟩ := hy; subst hx)
      | (obtain ⟨a, k, rfl, _⟩ := hx; subst hy)
      | (obtain ⟨a, k, rfl, _⟩ := hy; subst hx)
      | (obtain ⟨a, rfl, _⟩ := hx; subst hy)
      | (obtain ⟨a, rfl, _⟩ := hy; subst hx)
      | (subst hx hy)
    refine pack ?_ ?_ ?_ ?_
    · unfold Op.equal Op.maxDepth Op.equalIn
      rw [Sem.run_bind, run_underlying hu]
      rfl
    · intros; simp
    · simp
    · intro op ho; rcases ho with rfl | rfl <;> rfl
/-- is a slice nil? not seen; if so it holds nothing -/
def slNil (P : Program) (t : TypeId) (x y : AV) (op : BinOp) : Option AV := match P.underlying t, x, y, op with
  | some (.slice _), .sl _ _ _ n _, .val (.slice none _ _), .eql => some (.anyB (n = 0) True)
  | some (.slice _), .sl _ _ _ n _, .val (.slice none _ _), .neq => some (.anyB True (n = 0))
  | _, _, _, _ => none
def binA (P : Program) (h : Hint) (op : BinOp) (t : TypeId) (x y : AV) : Ac AV := match x, y with
  | .val (.int k a), .val (.int k' b) => intBin h op k a k' b
  | .val (.string a), .val (.string b) => strBin h op a b
  | .val (.bool a), .val (.bool b) => match P.underlying t, op with
    | some .bool, .eql => cmpA h (a == b)
    | some .bool, .neq => cmpA h (!(a == b))
    | _, _ => .fail
  | .agg xs, .agg ys => match aggEq P t xs ys, op with
    | some b, .eql => cmpA h b
    | some b, .neq => cmpA h (!b)
    | _, _ => .fail
  | x, y => match nilTy P t x y, nilEq x y, op with
    | true, some b, .eql => .ret (.val (.bool b))
    | true, some b, .neq => .ret (.val (.bool (!b)))
    | _, _, _ => match slNil P t x y op with
      | some v => .ret v
      | none => .fail
theorem SemAt.after {pre : Sem Unit} {c : Ac AV} (hp : pre.run P W = .ok () W) (h : SemAt P E s W sem c) : SemAt P E s W (do pre; sem) c := fun out h1 h2 h3 => by
  obtain ⟨q, cv, W', E', h4, rest⟩ := h out h1 h2 h3
  exact ⟨q, cv, W', E', by rw [Sem.run_bind, hp]; exact h4, rest⟩
theorem slNil_ok (r : RH E s.heap W) {op : BinOp} {t : TypeId} (ox oy : Operand) {x y v : AV} {cx cy : Value} (hk : slNil P t x y op = some v) (hx : RV E x cx) (hy : RV E y cy) : SemAt P E s W (do eqGuard op t ox oy cx cy; binOp op t cx cy) (.ret v) := by
  have key : ∀ {b' : Option Addr} {n m l k : Nat} {e : TypeId}, P.underlying t = some (.slice e) → (Op.equal t (.slice b' n m) (.slice none l k)).run P W = .ok b'.isNone W := by
    intro b' n m l k e hu
    unfold Op.equal Op.maxDepth Op.equalIn
    rw [Sem.run_bind, run_underlying hu]
    cases b' <;> rfl
  unfold slNil at hk
  split at hk
  case h_3 => cases hk
  all_goals
    rename_i hu
    simp only [Option.some.injEq] at hk
    subst hk
    simp only [RV] at hx hy
    subst hy
    obtain ⟨b, k, _, h2⟩ := hx
    rename_i id0 i0 es0 n0 c0 l0 k0 hu0
    have hcx : ∃ b' n' m, cx = .slice b' n' m ∧ (b'.isNone = true → n' = 0) ∧ n' = n0 := by
      cases b with
      | none => obtain ⟨b', rfl, h3, _⟩ := h2; exact ⟨_, _, _, rfl, fun _ => rfl, h3.symm⟩
      | some a => obtain ⟨o, m, rfl, _⟩ := h2; exact ⟨_, _, _, rfl, (fun h => by cases h), rfl⟩
    obtain ⟨b', n', m', rfl, hn, hne⟩ := hcx
    have hb := key (b' := b') (n := n') (m := m') (l := l0) (k := k0) hu
    refine SemAt.after (guard_no _ _ _ _ _ _ _ (by intros; simp) (by simp)) ?_
    first
      | exact SemAt.ret r (cv := .bool b'.isNone) (by show (do pure (.bool (← Op.equal t _ _)) : Sem Value).run P W = _; rw [Sem.run_bind, hb]; rfl) (by simp only [RV]; exact ⟨_, rfl, fun h => by rw [← hne]; exact hn h, fun _ => trivial⟩)
      | exact SemAt.ret r (cv := .bool (!b'.isNone)) (by show (do pure (.bool (!(← Op.equal t _ _))) : Sem Value).run P W = _; rw [Sem.run_bind, hb]; rfl) (by simp only [RV]; exact ⟨_, rfl, fun _ => trivial, fun h => by rw [← hne]; exact hn (by simpa using h)⟩)
theorem bin_ok (r : RH E s.heap W) (h : Hint) (op : BinOp) (t : TypeId) (ox oy : Operand) {x y : AV} {cx cy : Value} (hx : RV E x cx) (hy : RV E y cy) : SemAt P E s W (do eqGuard op t ox oy cx cy; binOp op t cx cy) (binA P h op t x y) := by
  unfold binA
  split
  · simp only [RV] at hx hy
    subst hx hy
    exact SemAt.after (guard_no _ _ _ _ _ _ _ (by intros; simp) (by simp)) (intBin_ok r h op t _ _ _ _)
  · simp only [RV] at hx hy
    subst hx hy
    exact SemAt.after (guard_no _ _ _ _ _ _ _ (by intros; simp) (by simp)) (strBin_ok r h op t _ _)
  · simp only [RV] at hx hy
    subst hx hy
    rename_i a b
    split
    · rename_i hu
      exact SemAt.after (guard_no _ _ _ _ _ _ _ (by intros; simp) (by simp)) (cmp_ok r h (by
        have := run_equalIn_bool' (P := P) W 9999 t a b hu
        simp only [binOp, Op.equal, Op.maxDepth, Sem.run_bind, this, Result.andThen_ok, Sem.run_pure]))
    · rename_i hu
      exact SemAt.after (guard_no _ _ _ _ _ _ _ (by intros; simp) (by simp)) (cmp_ok r h (by
        have := run_equalIn_bool' (P := P) W 9999 t a b hu
        simp only [binOp, Op.equal, Op.maxDepth, Sem.run_bind, this, Result.andThen_ok, Sem.run_pure]))
    · exact SemAt.fail
  · rename_i xs ys
    simp only [RV] at hx hy
    obtain ⟨vx, rfl, hx⟩ := hx
    obtain ⟨vy, rfl, hy⟩ := hy
    cases hb : aggEq P t xs ys with
    | none => exact SemAt.fail
    | some b =>
      have hb2 := hb
      unfold aggEq at hb2
      split at hb2
      case h_2 => cases hb2
      rename_i fs hu
      split at hb2
      case h_2 => cases hb2
      rename_i hs hg
      have hgd : (eqGuard op t ox oy (.agg vx.toArray) (.agg vy.toArray)).run P W = .ok () W := run_eqGuard_agg W op t ox oy _ _ hg
      have hf : P.fieldsOf t = fs := by simp [Program.fieldsOf, hu]
      have he := run_equalIn_struct (P := P) W 9999 t vx.toArray vy.toArray (by rw [hf]; exact hu) hs
      rw [hf, eqFields_ok 9998 hx hy W _ _ hb2] at he
      cases op <;> first | exact SemAt.fail | skip
      · exact SemAt.after hgd (cmp_ok r h (by rw [run_eql_struct, he]; rfl))
      · exact SemAt.after hgd (cmp_ok r h (by rw [run_neq_struct, he]; rfl))
  · split
    · rename_i hk he
      obtain ⟨_, h1, h2⟩ := nilEq_ok hk he hx hy W
      exact SemAt.after (h1 _ _ _) (SemAt.ret r (h2 .eql (.inl rfl)) (by simp [RV]))
    · rename_i hk he
      obtain ⟨_, h1, h2⟩ := nilEq_ok hk he hx hy W
      exact SemAt.after (h1 _ _ _) (SemAt.ret r (h2 .neq (.inr rfl)) (by simp [RV]))
    · split
      · rename_i hk
        exact slNil_ok r ox oy hk hx hy
      · exact SemAt.fail
def unA (h : Hint) (op : UnOp) (x : AV) : Ac AV := match op, x with
  | .not, .val (.bool b) => .ret (.val (.bool (!b)))
  | .neg, .val (.int k n) => arithA h k (0 - n)
  | _, _ => .fail
theorem un_ok (r : RH E s.heap W) (h : Hint) (op : UnOp) {x : AV} {c : Value} (hx : RV E x c) : SemAt P E s W (Op.unary op c) (unA h op x) := by
  unfold unA
  split
  · simp only [RV] at hx
    subst hx
    exact SemAt.ret r (by simp [Op.unary]; rfl) (by simp only [RV])
  · simp only [RV] at hx
    subst hx
    exact arith_ok r h (by simp [Op.unary, Op.intArith])
  · exact SemAt.fail
def convA (P : Program) (h : Hint) (src dst : TypeId) (x : AV) : Ac AV := match x with
  | .val (.int _ n) => match P.underlying src, P.underlying dst with
    | some (.int _), some (.int k) => arithA h k n
    | _, _ => .fail
  | .val (.string s) => match P.underlying src, P.underlying dst with
    | some .string, some .string => .ret (.val (.string s))
    | _, _ => .fail
  | _ => .fail
theorem conv_ok (r : RH E s.heap W) (h : Hint) (src dst : TypeId) {x : AV} {c : Value} (hx : RV E x c) : SemAt P E s W (convert src dst c) (convA P h src dst x) := by
  unfold convA
  split
  · simp only [RV] at hx
    subst hx
    split
    · rename_i h1 h2
      exact arith_ok r h (by simp [convert, run_underlying h1, run_underlying h2, Conv.intToInt])
    · exact SemAt.fail
  · simp only [RV] at hx
    subst hx
    split
    · rename_i h1 h2
      exact SemAt.ret r (by simp [convert, run_underlying h1, run_underlying h2]; rfl) (by simp only [RV])
    · exact SemAt.fail
  · exact SemAt.fail
def ifaceA (P : Program) (t : TypeId) (x : AV) : Ac AV := match P.underlying t with
  | some (.interface _) => .fail
  | some _ => .ret (.ifc t x)
  | none => .fail
theorem iface_ok (r : RH E s.heap W) (t : TypeId) {x : AV} {c : Value} (hx : RV E x c) : SemAt P E s W (Instr.makeInterface t c) (ifaceA P t x) := by
  unfold ifaceA
  split
  · exact SemAt.fail
  · rename_i d hn hu
    refine SemAt.ret r (cv := .iface t c) ?_ (by simp only [RV]; exact ⟨c, rfl, hx⟩)
    simp only [Instr.makeInterface, Sem.run_bind, run_underlying hu, Result.andThen_ok]
    cases d <;> first | rfl | exact absurd hu (hn _)
  · exact SemAt.fail
end
end Go.Proofs.Ytbgbjgedjmhcaaa
