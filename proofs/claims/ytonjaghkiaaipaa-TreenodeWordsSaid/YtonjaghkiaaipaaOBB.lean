/- Lists of words that are appended; bits of words; SetBit, Bit and Same of layer 2 and of the reference. No conditions but those of each theorem. -/
import Derived.Test.YtonjaghkiaaipaaOBF
import Derived.Laws.AppendOwnNone
import Derived.Maps.AppendAt
namespace Go.Proofs.Ytonjaghkiaaipaa.OldB
open Go.ChangeShapes Go.WideShapes Go.ChangeAt Go.RowKit
set_option linter.unusedVariables false

/-- a list of words as values -/
def vs (ws : List Nat) : List Value := ws.map (fun (x : Nat) => Value.int .u64 (x : Int))
theorem one_of (ws : List Nat) : ∀ u ∈ vs ws, u.oneCell' = true := by
  intro u hu
  simp [vs] at hu
  obtain ⟨x, _, rfl⟩ := hu
  rfl
/-- the cells of a slice that is appended -/
def Src (w : World) (a : Option Addr) (m c : Nat) (news : List Value) : Prop :=
  (a = none ∧ m = 0 ∧ c = 0 ∧ news = []) ∨ ∃ ad, a = some ad ∧ ∀ j u, news[j]? = some u → w.cell? (ad.add j) = some u

/-- append of a slice, nil or not, to one that the call owns -/
theorem wpList_append_src {P : Program} (w : World) {ops : Array Oper} {rest : List Oper} {o : Oper} {ac : Act} {Q : Exit → Act → World → Prop} (hgd : o.guard = none) (s x : Operand) (t : TypeId)
    (ho : o.op = .call { callee := .builtin .append, args := #[s, x], argTypes := #[t, t] })
    (base : Nat) (e : TypeId) (i : TypeInfo) (z : Value) (size bytes : Nat) (ht : P.underlying t = some (.slice e)) (hi : P.info? e = some i) (hz : i.zero = some z)
    (hsize : i.size = size) (hby : i.bytes = bytes) (hzs : z.cells.size = size) (hsz : 0 < size)
    (v : Value) (n : Nat) (xs : List Value) (hs : ac.eval s = v) (hown : w.ownsRow base e size v n xs)
    (a : Option Addr) (m c : Nat) (news : List Value) (hx : ac.eval x = .slice a m c) (hsrc : Src w a m c news) (hl : news.length = m * size) (h1 : ∀ u ∈ news, u.oneCell' = true)
    (h63 : n + m ≤ maxLen) (hbytes : (n + m) * bytes ≤ 140737488355328) (hbase : base ≤ w.heap.size)
    (h : ∀ v' w', w'.ownsRow base e size v' (n + m) (xs ++ news) → w.grownBy w' v.ownBlock → wpList P ops Q rest (ac.put o.dst v') w') : wpList P ops Q (o :: rest) ac w := by
  rcases hsrc with ⟨rfl, rfl, rfl, rfl⟩ | ⟨ad, rfl, hc⟩
  · exact wpList_append_own_none hgd s x t ho base e i size ht hi v n xs hs hown hx (h v w (by simpa using hown) ⟨rfl, rfl, rfl, Nat.le_refl _, fun _ _ _ => rfl⟩)
  · exact wpList_append_own w hgd s x t ho base e i z size bytes ht hi hz hsize hby hzs hsz v n xs hs hown ad m c news hx hl hc h1 h63 hbytes hbase (fun v' w' h2 h3 _ => h v' w' h2 h3)

/-- what is known of a slice of words: nil, or its cells -/
def Wd (n₀ : Nat) (W : World) (a : Option Addr) (len cap : Nat) (ws : List Nat) : Prop :=
  ws.length = len ∧ (∀ j, j < len → ws[j]?.getD 0 < 18446744073709551616) ∧ (a = none → len = 0 ∧ cap = 0) ∧ (len = 0 ∨ ∃ b off, a = some ⟨b, off, none⟩ ∧ b < n₀ ∧ ∀ j, j < len → W.cell? ⟨b, off + j, none⟩ = some (.int .u64 (ws[j]?.getD 0 : Nat)))
theorem Wd.below {n₀ : Nat} {A B : World} (h : Below n₀ A B) {a : Option Addr} {len cap : Nat} {ws : List Nat} : Wd n₀ A a len cap ws → Wd n₀ B a len cap ws
  | ⟨h0, h1, h2, .inl e⟩ => ⟨h0, h1, h2, .inl e⟩
  | ⟨h0, h1, h2, .inr ⟨b, off, e, hb, hc⟩⟩ => ⟨h0, h1, h2, .inr ⟨b, off, e, hb, fun j hj => (h.cell (p := ⟨b, off + j, none⟩) hb).trans (hc j hj)⟩⟩
theorem Wd.mono {n m : Nat} {W : World} {a : Option Addr} {len cap : Nat} {ws : List Nat} (hm : n ≤ m) : Wd n W a len cap ws → Wd m W a len cap ws
  | ⟨h0, h1, h2, .inl e⟩ => ⟨h0, h1, h2, .inl e⟩
  | ⟨h0, h1, h2, .inr ⟨b, off, e, hb, hc⟩⟩ => ⟨h0, h1, h2, .inr ⟨b, off, e, by omega, hc⟩⟩
theorem Wd.kept {W W' : World} {a : Option Addr} {len cap : Nat} {ws : List Nat} (h : Wd W.heap.size W a len cap ws) (hb : Below W.heap.size W W') : Wd W'.heap.size W' a len cap ws := (h.below hb).mono hb.size
theorem Wd.va {n₀ : Nat} {W : World} {a : Option Addr} {len cap : Nat} {ws : List Nat} (h : Wd n₀ W a len cap ws) : Va n₀ W a len ws := ⟨h.2.1, h.2.2.2⟩
theorem Wd.src {n₀ : Nat} {W : World} {a : Option Addr} {len cap : Nat} {ws : List Nat} (h : Wd n₀ W a len cap ws) : Src W a len cap (vs ws) := by
  obtain ⟨h0, h1, h2, h3⟩ := h
  cases a with
  | none =>
    obtain ⟨e1, e2⟩ := h2 rfl
    exact .inl ⟨rfl, e1, e2, by rw [List.length_eq_zero_iff.1 (h0.trans e1)]; rfl⟩
  | some ad =>
    refine .inr ⟨ad, rfl, fun j u hj => ?_⟩
    have hjl : j < len := by
      have := (List.getElem?_eq_some_iff.1 hj).1
      simp [vs] at this; omega
    obtain ⟨b, off, e, hb, hc⟩ := h3.resolve_left (by omega)
    obtain rfl := Option.some.inj e
    have hu : u = .int .u64 (ws[j]?.getD 0 : Nat) := by
      simp [vs, List.getElem?_eq_getElem (by omega : j < ws.length)] at hj
      simp [List.getElem?_eq_getElem (by omega : j < ws.length), hj]
    rw [hu, ← hc j hjl]
    by_cases e : j = 0
    · subst e; simp [Addr.add]
    · simp [Addr.add, e]
/-- a row of the call's own is such a slice -/
theorem own_wd {w : World} {base : Nat} {v : Value} {n : Nat} {ws : List Nat} (h : w.ownsRow base 38 1 v n (vs ws)) (hw : ∀ j, j < n → ws[j]?.getD 0 < 18446744073709551616) : ∃ a cap, v = .slice a n cap ∧ Wd w.heap.size w a n cap ws := by
  have hlen : ws.length = n := by have := h.1; simp [vs] at this; exact this
  rcases h.2 with ⟨hv, h0⟩ | ⟨g, cap, cur, hv, hg, hh, hc, hm, _⟩
  · subst h0
    exact ⟨none, 0, hv, ⟨hlen, hw, fun _ => ⟨rfl, rfl⟩, .inl rfl⟩⟩
  · refine ⟨some ⟨g, 0, none⟩, cap, hv, ⟨hlen, hw, (fun h => by cases h), .inr ⟨g, 0, rfl, (Array.getElem?_eq_some_iff.1 hh).1, fun j hj => ?_⟩⟩⟩
    rw [hv] at h
    rw [Nat.zero_add, h.cellAt j (by omega)]
    simp [vs, List.getElem?_eq_getElem (show j < ws.length by omega)]
/-- what the walk is told of a slice of integers that came in: it is nil, or it leads to a row of 'cap' cells, the numbers 'zs', each fitting its kind -/
def IsRow (k : IntKind) (w : World) (a : Option Addr) (len cap : Nat) (zs : List Int) : Prop :=
  (a = none ∧ len = 0 ∧ cap = 0 ∧ zs = []) ∨
  ∃ x, a = some x ∧ len ≤ cap ∧ cap ≤ maxLen ∧ zs.length = cap ∧ (∀ i, i < zs.length → w.cell? (x.add i) = some (.int k (zs.getD i 0))) ∧ ∀ n ∈ zs, (Lit.int k n).wf = true
theorem wd_of {w : World} {a : Option Addr} {len cap : Nat} {zs : List Int} (h : IsRow .u64 w a len cap zs) : Wd w.heap.size w a len cap ((zs.map Int.toNat).take len) := by
  rcases h with ⟨rfl, rfl, rfl, rfl⟩ | ⟨x, rfl, hl, hm, hz, hcell, hwz⟩
  · exact ⟨rfl, fun j hj => by omega, fun _ => ⟨rfl, rfl⟩, .inl rfl⟩
  · have hv : ∀ j, j < len → ((zs.map Int.toNat).take len)[j]?.getD 0 < 18446744073709551616 ∧ ((((zs.map Int.toNat).take len)[j]?.getD 0 : Nat) : Int) = zs.getD j 0 := fun j hj => by
      have hjz : j < zs.length := by omega
      have := hwz _ (List.getElem_mem hjz)
      simp [Lit.wf, IntKind.min, IntKind.max, IntKind.signed, IntKind.bits] at this
      rw [List.getElem?_take_of_lt hj]
      simp [List.getD_eq_getElem?_getD, List.getElem?_eq_getElem hjz]
      omega
    refine ⟨by simp; omega, fun j hj => (hv j hj).1, (fun h => by cases h), ?_⟩
    by_cases h0 : len = 0
    · exact .inl h0
    · obtain ⟨b, off, spot⟩ := x
      have hc := hcell 0 (by omega)
      have hspot : spot = none := by simpa [Addr.add] using World.cell?_spot hc
      subst hspot
      refine .inr ⟨b, off, rfl, ?_, fun j hj => ?_⟩
      · have hc' : w.cell? ⟨b, off, none⟩ = some (.int .u64 (zs.getD 0 0)) := by simpa [Addr.add] using hc
        exact block_lt_of_cell hc'
      · have := hcell j (by omega)
        rw [(hv j hj).2]
        by_cases e : j = 0
        · subst e; simpa [Addr.add] using this
        · simpa [Addr.add, e] using this

/-- bit r of a word, set or cleared -/
def sb (x r : Nat) (is : Bool) : Nat := if is then (x &&& (18446744073709551615 - 2 ^ r)) ||| 2 ^ r else x &&& (18446744073709551615 - 2 ^ r)
theorem pow_lt {r : Nat} (h : r < 64) : 2 ^ r < 18446744073709551616 := Nat.pow_lt_pow_right (a := 2) (by omega) h
theorem sb_lt {x : Nat} (r : Nat) (is : Bool) (hx : x < 18446744073709551616) (hr : r < 64) : sb x r is < 18446744073709551616 := by
  have h1 : x &&& (18446744073709551615 - 2 ^ r) < 2 ^ 64 := Nat.and_lt_two_pow _ (Nat.lt_of_le_of_lt (Nat.sub_le _ _) (by decide))
  unfold sb
  split
  · exact Nat.or_lt_two_pow h1 (pow_lt hr)
  · exact h1
theorem ones_bit (r i : Nat) (hr : r < 64) (hi : i < 64) : (18446744073709551615 - 2 ^ r).testBit i = !decide (r = i) := by
  have h := Nat.testBit_two_pow_sub_succ (n := 64) (x := 2 ^ r) (pow_lt hr) i
  rw [show 2 ^ 64 - (2 ^ r + 1) = 18446744073709551615 - 2 ^ r by omega] at h
  rw [h, Nat.testBit_two_pow]
  simp [hi]
theorem sb_bit (x r : Nat) (is : Bool) (hx : x < 18446744073709551616) (hr : r < 64) (i : Nat) : (sb x r is).testBit i = if i = r then is else x.testBit i := by
  by_cases hi : i < 64
  · unfold sb
    cases is
    · simp only [Bool.false_eq_true, if_false, Nat.testBit_and, ones_bit r i hr hi]
      by_cases e : i = r
      · subst e; simp
      · simp [e, show ¬ r = i by omega]
    · simp only [if_true, Nat.testBit_or, Nat.testBit_and, ones_bit r i hr hi, Nat.testBit_two_pow]
      by_cases e : i = r
      · subst e; simp
      · simp [e, show ¬ r = i by omega]
  · have h1 : 2 ^ 64 ≤ 2 ^ i := Nat.pow_le_pow_right (by omega) (by omega)
    rw [Nat.testBit_lt_two_pow (Nat.lt_of_lt_of_le (sb_lt r is hx hr) h1), if_neg (by omega), Nat.testBit_lt_two_pow (Nat.lt_of_lt_of_le hx h1)]
end Go.Proofs.Ytonjaghkiaaipaa.OldB
