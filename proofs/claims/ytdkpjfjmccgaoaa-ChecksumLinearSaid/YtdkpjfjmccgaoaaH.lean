/- Lists of words that are appended, and their checksums. No conditions but those of each theorem. -/
import Derived.Test.YtdkpjfjmccgaoaaG
import Derived.Laws.OwnMore
import Derived.Laws.AppendOwn
import Derived.Laws.AppendOwnNone
import Derived.OwnWalk
import Derived.Maps.AppendAt
namespace Go.Proofs.Ytdkpjfjmccgaoaa
open Go.ChangeShapes Go.WideShapes Go.ChangeAt Go.RowKit
set_option linter.unusedVariables false

theorem Try.info33 : (Try.prog.info? 33).map (fun i => (i.zero, i.size, i.bytes)) = some (some (.int .u64 0), 1, 8) := by kernel_rfl

def vs (ws : List Nat) : List Value := ws.map (fun (x : Nat) => Value.int .u64 (x : Int))

theorem xor_twice (c r : Nat) : c ^^^ (c ^^^ r) = r := by rw [← Nat.xor_assoc, Nat.xor_self, Nat.zero_xor]
theorem nt_nt (r : Nat) : nt (nt r) = r := by
  rw [nt, nt]
  generalize 4294967295 = c
  rw [xor_twice]

theorem wds_congr (x : Nat) (a b : List Nat) (n : Nat) (h : ∀ j, j < n → a[j]?.getD 0 = b[j]?.getD 0) : wds x a n = wds x b n := by
  induction n with
  | zero => rfl
  | succ n ih => rw [wds, wds, ih (fun j hj => h j (by omega)), h n (by omega)]

theorem wds_add (x : Nat) (a : List Nat) (n m : Nat) : wds x a (n + m) = wds (wds x a n) (a.drop n) m := by
  induction m with
  | zero => rfl
  | succ m ih => rw [← Nat.add_assoc, wds, ih, wds]; simp

theorem wds_append (x : Nat) (a b : List Nat) (n m : Nat) (hn : n ≤ a.length) : wds x (a.take n ++ b) (n + m) = wds (wds x a n) b m := by
  rw [wds_add]
  have h1 : wds x (a.take n ++ b) n = wds x a n := wds_congr _ _ _ _ fun j hj => by
    rw [List.getElem?_append_left (by simp; omega), List.getElem?_take_of_lt hj]
  have h2 : (a.take n ++ b).drop n = b := by
    rw [List.drop_append_of_le_length (by simp; omega)]
    simp
  rw [h1, h2]

theorem ext_append (a b : List Nat) (n m : Nat) (hn : n ≤ a.length) : ext 0 (a.take n ++ b) (n + m) = ext (ext 0 a n) b m := by
  unfold ext
  rw [nt_nt, wds_append _ _ _ _ _ hn]

theorem ext_nil (s : Nat) : ext s [] 0 = s := nt_nt s

theorem news_of {w : World} {n₀ b off len : Nat} {ws : List Nat} (hz : len ≤ ws.length) (hs : ∀ j, j < len → w.cell? ⟨b, off + j, none⟩ = some (.int .u64 (ws[j]?.getD 0 : Nat))) :
    ∀ j u, (vs (ws.take len))[j]? = some u → w.cell? ((⟨b, off, none⟩ : Addr).add j) = some u := by
  intro j u hj
  have hjl : j < len := by
    have := (List.getElem?_eq_some_iff.1 hj).1
    simp [vs] at this; omega
  have hc := hs j hjl
  have hu : u = .int .u64 (ws[j]?.getD 0 : Nat) := by
    simp [vs, hjl, List.getElem?_eq_getElem (by omega : j < ws.length)] at hj
    simp [List.getElem?_eq_getElem (by omega : j < ws.length), hj]
  rw [hu, ← hc]
  by_cases e : j = 0
  · subst e; simp [Addr.add]
  · simp [Addr.add, e]

theorem one_of (ws : List Nat) : ∀ u ∈ vs ws, u.oneCell' = true := by
  intro u hu
  simp [vs] at hu
  obtain ⟨x, _, rfl⟩ := hu
  rfl

theorem own_base {w : World} {base : Nat} {e : TypeId} {size : Nat} {v : Value} {n : Nat} {xs : List Value} (h : w.ownsRow base e size v n xs) : ∀ k, v.ownBlock = some k → base ≤ k := by
  intro k hk
  rcases h.2 with ⟨rfl, _⟩ | ⟨g, cap, cur, rfl, hg, _⟩
  · simp [Value.ownBlock] at hk
  · simp [Value.ownBlock] at hk; omega

theorem own_form {w : World} {base : Nat} {v : Value} {n : Nat} {ws : List Nat} (h : w.ownsRow base 33 1 v n (vs ws)) (hw : ∀ j, j < n → ws[j]?.getD 0 < 18446744073709551616) : ∃ a cap, v = .slice a n cap ∧ Wo w.heap.size w a n ws := by
  have hlen : ws.length = n := by have := h.1; simp [vs] at this; exact this
  rcases h.2 with ⟨hv, h0⟩ | ⟨g, cap, cur, hv, hg, hh, hc, hm, _⟩
  · subst h0
    exact ⟨none, 0, hv, hw, .inl rfl⟩
  · refine ⟨some ⟨g, 0, none⟩, cap, hv, hw, .inr ⟨g, 0, rfl, (Array.getElem?_eq_some_iff.1 hh).1, fun j hj => ?_⟩⟩
    rw [hv] at h
    rw [Nat.zero_add, h.cellAt j (by omega)]
    simp [vs, List.getElem?_eq_getElem (show j < ws.length by omega)]

theorem take_lt {ws : List Nat} {n : Nat} (h : ∀ j, j < n → ws[j]?.getD 0 < 18446744073709551616) : ∀ j, j < n → (ws.take n)[j]?.getD 0 < 18446744073709551616 := fun j hj => by
  rw [List.getElem?_take_of_lt hj]; exact h j hj

/-- the cells of a slice that is appended -/
def Src (w : World) (a : Option Addr) (m c : Nat) (news : List Value) : Prop :=
  (a = none ∧ m = 0 ∧ c = 0 ∧ news = []) ∨ ∃ ad, a = some ad ∧ ∀ j u, news[j]? = some u → w.cell? (ad.add j) = some u

/-- append of a slice, nil or not, to one that the call owns -/
theorem wpList_append_src {P : Program} (w : World) {ops : Array Oper} {rest : List Oper} {o : Oper} {ac : Act} {Q : Exit → Act → World → Prop} (hgd : o.guard = none) (s x : Operand) (t : TypeId)
    (ho : o.op = .call { callee := .builtin .append, args := #[s, x], argTypes := #[t, t] })
    (base : Nat) (e : TypeId) (i : TypeInfo) (z : Value) (size bytes : Nat) (ht : P.underlying t = some (.slice e)) (hi : P.info? e = some i) (hz : i.zero = some z)
    (hsize : i.size = size) (hby : i.bytes = bytes) (hzs : z.cells.size = size) (hsz : 0 < size)
    (v : Value) (n : Nat) (xs : List Value) (hs : ac.eval s = v) (hown : w.ownsRow base e size v n xs)
    (a : Option Addr) (m c : Nat) (news : List Value) (hx : ac.eval x = .slice a m c) (hsrc : Src w a m c news) (hl : news.length = m * size) (h1 : ∀ u ∈ news, u.oneCell' = true)
    (h63 : n + m ≤ maxLen) (hbytes : (n + m) * bytes ≤ 140737488355328) (hbase : base ≤ w.heap.size)
    (h : ∀ v' w', w'.ownsRow base e size v' (n + m) (xs ++ news) → w.grownBy w' v.ownBlock → wpList P ops Q rest (ac.put o.dst v') w') : wpList P ops Q (o :: rest) ac w := by
  rcases hsrc with ⟨rfl, rfl, rfl, rfl⟩ | ⟨ad, rfl, hc⟩
  · exact wpList_append_own_none hgd s x t ho base e i size ht hi v n xs hs hown hx (h v w (by simpa using hown) ⟨rfl, rfl, rfl, Nat.le_refl _, fun _ _ _ => rfl⟩)
  · exact wpList_append_own w hgd s x t ho base e i z size bytes ht hi hz hsize hby hzs hsz v n xs hs hown ad m c news hx hl hc h1 h63 hbytes hbase (fun v' w' h2 h3 _ => h v' w' h2 h3)

/-- a slice that is appended: nil, or its cells lie where they lay -/
theorem src_of {w : World} {a : Option Addr} {len cap : Nat} {zs : List Int} (h : IsRow .u64 w a len cap zs) :
    (∀ w', Below w.heap.size w w' → Src w' a len cap (vs ((zs.map Int.toNat).take len))) ∧ len ≤ (zs.map Int.toNat).length := by
  rcases h with ⟨rfl, rfl, rfl, rfl⟩ | ⟨x, rfl, hl, hm, hz, hcell, hwz⟩
  · exact ⟨fun w' _ => .inl ⟨rfl, rfl, rfl, rfl⟩, by simp⟩
  · refine ⟨fun w' hb => .inr ⟨x, rfl, fun j u hj => ?_⟩, by simp; omega⟩
    have hjl : j < len := by
      have := (List.getElem?_eq_some_iff.1 hj).1
      simp [vs] at this; omega
    have hjz : j < zs.length := by omega
    have hw := hwz _ (List.getElem_mem hjz)
    simp [Lit.wf, IntKind.min, IntKind.max, IntKind.signed, IntKind.bits] at hw
    have hc := hcell j hjz
    have hB : (x.add j).block < w.heap.size := block_lt_of_cell hc
    rw [hb.cell hB, hc]
    simp [vs, hjl, List.getElem?_eq_getElem hjz] at hj
    rw [← hj]
    simp [List.getD_eq_getElem?_getD, List.getElem?_eq_getElem hjz]
    omega
end Go.Proofs.Ytdkpjfjmccgaoaa
