/- The engine, part H: slices. No conditions but those of each theorem. -/
import Derived.Test.YtbgbjgedjmhcaaaSyG
import Derived.Maps.AppendAt
namespace Go.Proofs.Ytbgbjgedjmhcaaa
open Go.RowKit
set_option linter.unusedVariables false
set_option linter.unusedSimpArgs false

section
variable {P : Program} {E : Env} {s : St} {W : World} {sem : Sem Value}

/-! ### len -/
def lenA (P : Program) (t : TypeId) (x : AV) : Ac AV := match P.underlying t with
  | some (.slice _) => match x with
    | .sl _ _ _ n _ => .ret (.val (.int .i64 (n : Int)))
    | .val (.slice _ n _) => .ret (.val (.int .i64 (n : Int)))
    | .len n => .ret (.val (.int .i64 (n : Int)))
    | _ => .fail
  | some .string => match x with
    | .val (.string s) => .ret (.val (.int .i64 (s.size : Int)))
    | _ => .fail
  | some (.array n _) => .ret (.val (.int .i64 (n : Int)))
  | some (.pointer e) => match P.underlying e with
    | some (.array n _) => .ret (.val (.int .i64 (n : Int)))
    | _ => .fail
  | _ => .fail
theorem len_ok (r : RH E s.heap W) (t ty : TypeId) {x : AV} {c : Value} (hx : RV E x c) (l : Array TypeId) (hl : l[0]? = some t) : SemAt P E s W (Builtin.len_ l ty #[c]) (lenA P t x) := by
  unfold lenA
  split
  · rename_i e hu
    split
    · rename_i id i es n cc
      simp only [RV] at hx
      obtain ⟨b, k, he, h2⟩ := hx
      refine SemAt.ret r (cv := goInt n) ?_ (by simp only [RV, goInt])
      cases b with
      | none => obtain ⟨b', rfl, rfl, _⟩ := h2; simp [Builtin.len_, hl, run_underlying hu]
      | some a => obtain ⟨o, m, rfl, _⟩ := h2; simp [Builtin.len_, hl, run_underlying hu]
    · rename_i a n m
      simp only [RV] at hx
      subst hx
      exact SemAt.ret r (cv := goInt n) (by simp [Builtin.len_, hl, run_underlying hu]) (by simp only [RV, goInt])
    · rename_i n
      simp only [RV] at hx
      obtain ⟨a, m, rfl⟩ := hx
      exact SemAt.ret r (cv := goInt n) (by simp [Builtin.len_, hl, run_underlying hu]) (by simp only [RV, goInt])
    · exact SemAt.fail
  · rename_i hu
    split
    · rename_i str
      simp only [RV] at hx
      subst hx
      exact SemAt.ret r (cv := goInt str.size) (by simp [Builtin.len_, hl, run_underlying hu]) (by simp only [RV, goInt])
    · exact SemAt.fail
  · rename_i n e hu
    exact SemAt.ret r (cv := goInt n) (by simp [Builtin.len_, hl, run_underlying hu]) (by simp only [RV, goInt])
  · rename_i e hu
    split
    · rename_i n e2 hu2
      exact SemAt.ret r (cv := goInt n) (by simp [Builtin.len_, hl, run_underlying hu, run_underlying hu2]) (by simp only [RV, goInt])
    · exact SemAt.fail
  · exact SemAt.fail

/-! ### slices of slices and of strings -/
theorem bound_ok {k : IntKind} {z : Int} {y : Nat} {code : BoundsCode} (h0 : 0 ≤ z) (h1 : z ≤ (y : Int)) (W : World) : (Instr.sliceBound (.int k z) y code).run P W = .ok z.toNat W := by
  have : (0 ≤ z ∧ z ≤ (y : Int)) := ⟨h0, h1⟩
  simp only [Instr.sliceBound, asIntOf, Sem.run_bind, Sem.run_pure, Result.andThen_ok, this, and_self, if_true]
/-- a bound that may be left out -/
inductive OB (E : Env) : Option AV → Option Value → Option Int → Prop
  | none : OB E none none none
  | some (k : IntKind) (z : Int) : OB E (some (.val (.int k z))) (some (.int k z)) (some z)
def loN : Option Int → Nat
  | none => 0
  | some z => z.toNat
def hiN (n : Nat) : Option Int → Nat
  | none => n
  | some z => z.toNat
def subN (n : Nat) : Option Int → Nat
  | none => n
  | some z => n - z.toNat
theorem subN_eq (n : Nat) (l : Option Int) : subN n l = n - loN l := by cases l <;> simp [subN, loN]
def obOf : Option AV → Option (Option Int)
  | none => some none
  | some (.val (.int _ z)) => some (some z)
  | _ => none
theorem obOf_ok {E : Env} {x : Option AV} {c : Option Value} {o : Option Int} (h : obOf x = some o) (hx : (x = none ∧ c = none) ∨ ∃ v w, x = some v ∧ c = some w ∧ RV E v w) : OB E x c o := by
  rcases hx with ⟨rfl, rfl⟩ | ⟨v, w, rfl, rfl, hv⟩
  · simp only [obOf, Option.some.injEq] at h
    subst h
    exact .none
  · unfold obOf at h
    split at h
    · rename_i e; cases e
    · rename_i k z e
      cases e
      simp only [Option.some.injEq] at h
      subst h
      simp only [RV] at hv
      subst hv
      exact .some k z
    · cases h
def okLo (n : Nat) (l h : Option Int) : Prop := match l with
  | none => True
  | some z => 0 ≤ z ∧ z.toNat ≤ hiN n h
def okHi (n : Nat) (h : Option Int) : Prop := match h with
  | none => True
  | some z => 0 ≤ z ∧ z ≤ (n : Int)
theorem bounds_ok {n cap : Nat} {lo hi : Option AV} {cl ch : Option Value} {l h : Option Int} (hl : OB E lo cl l) (hh : OB E hi ch h) (isS : Bool) (hnc : n ≤ cap) (h1 : okLo n l h) (h2 : okHi n h) (W : World) :
    (Instr.sliceBounds isS n cap cl ch none).run P W = .ok (loN l, hiN n h, cap) W := by
  cases hh with
  | none =>
    cases hl with
    | none => simp [Instr.sliceBounds, loN, hiN]
    | some k z =>
      simp only [hiN, okLo] at h1
      simp [Instr.sliceBounds, loN, hiN, bound_ok (P := P) (k := k) h1.1 (show z ≤ (n : Int) by omega)]
  | some k2 z2 =>
    simp only [okHi] at h2
    have hb2 := bound_ok (P := P) (k := k2) (code := if isS = true then BoundsCode.sliceAcap else BoundsCode.sliceAlen) h2.1 (show z2 ≤ (cap : Int) by omega) W
    cases hl with
    | none => simp [Instr.sliceBounds, loN, hiN, hb2]
    | some k z =>
      simp only [hiN, okLo] at h1
      simp [Instr.sliceBounds, loN, hiN, hb2, bound_ok (P := P) (k := k) h1.1 (show z ≤ (z2.toNat : Int) by omega)]
/-- the same with a bound of the capacity -/
theorem bounds3_ok {n cap : Nat} {lo : Option AV} {cl : Option Value} {l : Option Int} {k2 k3 : IntKind} {z2 z3 : Int} (hl : OB E lo cl l) (hnc : n ≤ cap) (h1 : okLo n l (some z2)) (h2 : 0 ≤ z2 ∧ z2 ≤ z3) (h3 : z3 ≤ (n : Int)) (W : World) :
    (Instr.sliceBounds true n cap cl (some (.int k2 z2)) (some (.int k3 z3))).run P W = .ok (loN l, z2.toNat, z3.toNat) W := by
  have hb3 := bound_ok (P := P) (k := k3) (code := BoundsCode.slice3Acap) (show 0 ≤ z3 by omega) (show z3 ≤ (cap : Int) by omega) W
  have hb2 := bound_ok (P := P) (k := k2) (code := BoundsCode.slice3B) h2.1 (show z2 ≤ (z3.toNat : Int) by omega) W
  cases hl with
  | none => simp [Instr.sliceBounds, loN, hb2, hb3]
  | some k z =>
    simp only [hiN, okLo] at h1
    simp [Instr.sliceBounds, loN, hb2, hb3, bound_ok (P := P) (k := k) h1.1 (show z ≤ (z2.toNat : Int) by omega)]
def needLo (l h : Option Int) (n : Nat) (k : Ac AV) : Ac AV := match l with
  | none => k
  | some z => match h with
    | none => .need (0 ≤ z ∧ z ≤ (n : Int)) k
    | some y => .need (0 ≤ z ∧ z ≤ y) k
def needHi (h : Option Int) (n : Nat) (k : Ac AV) : Ac AV := match h with
  | none => k
  | some z => .need (0 ≤ z ∧ z ≤ (n : Int)) k
theorem needs_ok {l h : Option Int} {n : Nat} {k : Ac AV} (hk : okLo n l h → okHi n h → loN l ≤ hiN n h → hiN n h ≤ n → SemAt P E s W sem k) : SemAt P E s W sem (needHi h n (needLo l h n k)) := by
  unfold needHi needLo
  cases h with
  | none =>
    cases l with
    | none => exact hk trivial trivial (Nat.zero_le _) (Nat.le_refl _)
    | some z => exact SemAt.need fun h => hk (by simp only [hiN, okLo]; omega) trivial (by simp only [loN, hiN]; omega) (Nat.le_refl _)
  | some y =>
    cases l with
    | none => exact SemAt.need fun h => hk trivial h (Nat.zero_le _) (by simp only [hiN]; omega)
    | some z => exact SemAt.need fun h => SemAt.need fun h' => hk (by simp only [hiN, okLo]; omega) h (by simp only [loN, hiN]; omega) (by simp only [hiN]; omega)
/-- the slice, its new capacity told or not -/
def cutSl (P : Program) (e : TypeId) (x : AV) (l h : Option Int) (m : Option Int) : Ac AV := match tySize P e with
  | none => .fail
  | some q => match x with
    | .sl id i es n c => match q == es with
      | true => needHi h n (needLo l h n (match m with
        | none => .ret (.sl id (addN i (loN l)) es (subN (hiN n h) l) (match c with | none => none | some m => some (subN m l)))
        | some z => match h with
          | none => .fail
          | some y => .need (y ≤ z ∧ z ≤ (n : Int)) (.ret (.sl id (addN i (loN l)) es (subN (hiN n h) l) (some (subN z.toNat l))))))
      | false => .fail
    | .val (.slice none 0 0) => needHi h 0 (needLo l h 0 (match m with
        | none => .ret (.val (.slice none 0 0))
        | some z => match h with
          | none => .fail
          | some y => .need (y ≤ z ∧ z ≤ 0) (.ret (.val (.slice none 0 0)))))
    | _ => .fail
def sliceA (P : Program) (t : TypeId) (x : AV) (lo hi mx : Option AV) : Ac AV := match obOf lo, obOf hi, obOf mx with
  | some l, some h, some m => match P.underlying t with
    | some .string => match x, m with
      | .val (.string s), none => needHi h s.size (needLo l h s.size (.ret (.val (.string (s.extract (loN l) (hiN s.size h))))))
      | _, _ => .fail
    | some (.slice e) => cutSl P e x l h m
    | _ => .fail
  | _, _, _ => .fail
theorem slice_ok (r : RH E s.heap W) (t : TypeId) {x : AV} {c : Value} (hx : RV E x c) {lo hi mx : Option AV} {cl ch cm : Option Value} (hl : (lo = none ∧ cl = none) ∨ ∃ v w, lo = some v ∧ cl = some w ∧ RV E v w) (hh : (hi = none ∧ ch = none) ∨ ∃ v w, hi = some v ∧ ch = some w ∧ RV E v w) (hm : (mx = none ∧ cm = none) ∨ ∃ v w, mx = some v ∧ cm = some w ∧ RV E v w) :
    SemAt P E s W (Instr.sliceAt t c cl ch cm) (sliceA P t x lo hi mx) := by
  unfold sliceA
  split
  case h_2 => exact SemAt.fail
  rename_i l h m e1 e2 e3
  have hl := obOf_ok e1 hl
  have hh := obOf_ok e2 hh
  have hm := obOf_ok e3 hm
  split
  · rename_i hu
    split
    case h_2 => exact SemAt.fail
    rename_i str
    cases hm
    simp only [RV] at hx
    subst hx
    refine needs_ok fun h1 h2 _ _ => ?_
    refine SemAt.ret r (cv := .string (str.extract (loN l) (hiN str.size h))) ?_ (by simp only [RV])
    have hb := bounds_ok (P := P) hl hh false (Nat.le_refl str.size) h1 h2 W
    simp [Instr.sliceAt, Instr.slice, run_underlying hu, hb]
  · rename_i e hu
    unfold cutSl
    split
    · exact SemAt.fail
    rename_i q hq
    split
    · rename_i id i es n cc
      split
      case h_2 => exact SemAt.fail
      rename_i hqe
      have hqe' : q = es := by simpa using hqe
      subst hqe'
      refine needs_ok fun h1 h2 h3 h4 => ?_
      simp only [RV] at hx
      obtain ⟨b, k, he, h5⟩ := hx
      cases b with
      | none =>
        obtain ⟨b', rfl, rfl, rfl⟩ := h5
        have hz : hiN 0 h = 0 := by omega
        have hz2 : loN l = 0 := by omega
        have hv : ∀ c, RV E (.sl id (addN 0 (loN l)) q (subN (hiN 0 h) l) c) (.slice b' 0 0) := fun c => by
          simp only [RV]; exact ⟨none, k, he, b', rfl, by rw [subN_eq, hz]; omega, by rw [hz2]; rfl⟩
        cases hm with
        | none =>
          have hb := bounds_ok (P := P) hl hh true (Nat.le_refl 0) h1 h2 W
          rw [hz, hz2] at hb
          refine SemAt.ret r (cv := .slice b' 0 0) ?_ (hv _)
          simp [Instr.sliceAt, Instr.slice, run_underlying hu, hb, run_size hq]
        | some k3 z3 =>
          cases hh with
          | none => exact SemAt.fail
          | some k2 z2 =>
            refine SemAt.need fun h6 => ?_
            simp only [okHi] at h2
            have hb := bounds3_ok (P := P) (k2 := k2) (k3 := k3) hl (Nat.le_refl 0) h1 ⟨h2.1, h6.1⟩ (by omega) W
            have hz3 : z2.toNat = 0 := by omega
            have hz4 : z3.toNat = 0 := by omega
            rw [hz3, hz2, hz4] at hb
            refine SemAt.ret r (cv := .slice b' 0 0) ?_ (hv _)
            simp [Instr.sliceAt, Instr.slice, run_underlying hu, hb, run_size hq]
      | some a =>
        obtain ⟨o, m', rfl, h6, h7, h8, h9⟩ := h5
        have hv : ∀ (hn mm : Nat) (c' : Option Nat), hn ≤ mm → mm ≤ m' → loN l ≤ hn → (match c' with | none => i + loN l + (mm - loN l) = k | some w => mm - loN l = w) → RV E (.sl id (addN i (loN l)) q (subN hn l) c') (.slice (some ⟨a.block, if mm = loN l then o else o + loN l * q, none⟩) (hn - loN l) (mm - loN l)) := fun hn mm c' g1 g2 g3 g4 => by
          simp only [RV]
          refine ⟨some a, k, he, _, mm - loN l, by rw [subN_eq], by rw [subN_eq]; omega, by rw [addN_eq]; omega, fun hne => ?_, ?_⟩
          · rw [if_neg (by omega), h8 (by omega), addN_eq, Nat.add_mul]
            omega
          · cases c' with
            | none => dsimp only at g4 ⊢; rw [addN_eq]; omega
            | some w => dsimp only at g4 ⊢; omega
        have hs : ∀ (hn mm : Nat), (Instr.sliceBounds true n m' cl ch cm).run P W = .ok (loN l, hn, mm) W → (Instr.sliceAt t (.slice (some ⟨a.block, o, none⟩) n m') cl ch cm).run P W = .ok (.slice (some ⟨a.block, if mm = loN l then o else o + loN l * q, none⟩) (hn - loN l) (mm - loN l)) W := fun hn mm hb => by
          simp only [Instr.sliceAt, Instr.slice, run_underlying hu, hb, run_size hq, Sem.run_bind, Result.andThen_ok, Sem.run_pure, Option.map_some]
          congr 2
          by_cases e : mm = loN l
          · rw [if_pos e, if_pos e]
          · rw [if_neg e, if_neg e, add_at]
        cases hm with
        | none =>
          have hb := bounds_ok (P := P) hl hh true h6 h1 h2 W
          refine SemAt.ret r (hs _ _ hb) (hv _ _ _ (by omega) (Nat.le_refl _) h3 ?_)
          cases cc with
          | none => dsimp only at h9 ⊢; omega
          | some w => dsimp only at h9 ⊢; rw [subN_eq]; omega
        | some k3 z3 =>
          cases hh with
          | none => exact SemAt.fail
          | some k2 z2 =>
            refine SemAt.need fun h10 => ?_
            simp only [okHi] at h2
            have hb := bounds3_ok (P := P) (k2 := k2) (k3 := k3) hl h6 h1 ⟨h2.1, h10.1⟩ h10.2 W
            have e9 : hiN n (some z2) = z2.toNat := rfl
            refine SemAt.ret r (hs _ _ hb) (hv _ _ _ (by omega) (by omega) h3 ?_)
            dsimp only; rw [subN_eq]
    · simp only [RV] at hx
      subst hx
      refine needs_ok fun h1 h2 h3 h4 => ?_
      have hz : hiN 0 h = 0 := by omega
      have hz2 : loN l = 0 := by omega
      cases hm with
      | none =>
        have hb := bounds_ok (P := P) hl hh true (Nat.le_refl 0) h1 h2 W
        rw [hz, hz2] at hb
        refine SemAt.ret r (cv := .slice none 0 0) ?_ (by simp only [RV])
        simp [Instr.sliceAt, Instr.slice, run_underlying hu, hb, run_size hq]
      | some k3 z3 =>
        cases hh with
        | none => exact SemAt.fail
        | some k2 z2 =>
          refine SemAt.need fun h6 => ?_
          simp only [okHi] at h2
          have hb := bounds3_ok (P := P) (k2 := k2) (k3 := k3) hl (Nat.le_refl 0) h1 ⟨h2.1, h6.1⟩ (by omega) W
          have hz3 : z2.toNat = 0 := by omega
          have hz4 : z3.toNat = 0 := by omega
          rw [hz3, hz2, hz4] at hb
          refine SemAt.ret r (cv := .slice none 0 0) ?_ (by simp only [RV])
          simp [Instr.sliceAt, Instr.slice, run_underlying hu, hb, run_size hq]
    · exact SemAt.fail
  · exact SemAt.fail
end
end Go.Proofs.Ytbgbjgedjmhcaaa
