/- Validity and membership of layer 3. No conditions but those of each theorem. -/
import Derived.Test.YtgfdmeaganhpiaaM
import Derived.WalkKit
import Derived.ProofKit
import Derived.OpenShut
import Derived.LoopTactic
import Derived.Outline
import Derived.Below
import Derived.WalkLawsBesides
import Derived.WalkSpells
import Derived.Deep.QuietTactic
import Derived.BigQuiet
import Derived.Laws.BitsAllLaws
import Derived.Laws.OwnMore
import Derived.Laws.AppendOwn
import Derived.Laws.AppendOwnNone
import Derived.OwnWalk
import Derived.Lib.SmallJoins
import Derived.StillTailTactics
namespace Go.Proofs.Ytgfdmeaganhpiaa.Old
open Go.ChangeShapes Go.WideShapes Go.ChangeAt Go.RowKit
set_option linter.unusedVariables false
set_option linter.unusedSimpArgs false

theorem hid {p : Prop} (h : p) : Hid p := h
theorem bt {W a b : World} (h : Below W.heap.size W a) (k : Below a.heap.size a b) : Below W.heap.size W b := h.trans (k.mono h.size)
theorem info_parts {o : Option TypeInfo} {z : Option Value} {s b : Nat} (h : o.map (fun i => (i.zero, i.size, i.bytes)) = some (z, s, b)) : ∃ i, o = some i ∧ i.zero = z ∧ i.size = s ∧ i.bytes = b := by
  cases o with
  | none => simp at h
  | some i => simp at h; exact ⟨i, rfl, h.1, h.2.1, h.2.2⟩
theorem Try.info42 : (Try.prog.info? 42).map (fun i => (i.zero, i.size, i.bytes)) = some (some (.agg #[.int .i64 0, .int .i64 0]), 2, 16) := by kernel_rfl
theorem Try.info3 : (Try.prog.info? 3).map (fun i => (i.zero, i.size, i.bytes)) = some (some (.int .i64 0), 1, 8) := by kernel_rfl
theorem own_kept {w w' : World} {base : Nat} {e : TypeId} {size : Nat} {v : Value} {n : Nat} {xs : List Value} (h : w.ownsRow base e size v n xs) (hb : Below w.heap.size w w') : w'.ownsRow base e size v n xs := by
  refine ⟨h.1, h.2.imp id fun ⟨g, cap, cur, hv, hg, hh, rest⟩ => ⟨g, cap, cur, hv, hg, ?_, rest⟩⟩
  rw [hb.block g (Array.getElem?_eq_some_iff.1 hh).1]; exact hh
theorem own_base {w : World} {base : Nat} {e : TypeId} {size : Nat} {v : Value} {n : Nat} {xs : List Value} (h : w.ownsRow base e size v n xs) : ∀ k, v.ownBlock = some k → base ≤ k := by
  intro k hk
  rcases h.2 with ⟨rfl, _⟩ | ⟨g, cap, cur, rfl, hg, _⟩
  · simp [Value.ownBlock] at hk
  · simp [Value.ownBlock] at hk; omega
theorem own_slice {w : World} {base e size : Nat} {v : Value} {n : Nat} {xs : List Value} (h : w.ownsRow base e size v n xs) : ∃ a cap, v = .slice a n cap := by
  rcases h.2 with ⟨hv, h0⟩ | ⟨g, cap, cur, hv, _⟩
  · exact ⟨none, 0, by rw [hv, h0]⟩
  · exact ⟨_, cap, hv⟩

/-- a number of type int -/
def I64 (z : Int) : Prop := -9223372036854775808 ≤ z ∧ z ≤ 9223372036854775807
/-- what is known of a slice of ranges: nothing in it, or its cells -/
def Rg (n₀ : Nat) (W : World) (a : Option Addr) (len : Nat) (rs : List Rn) : Prop :=
  rs.length = len ∧ (∀ r ∈ rs, I64 r.1 ∧ I64 r.2) ∧ (len = 0 ∨ ∃ b off, a = some ⟨b, off, none⟩ ∧ b < n₀ ∧ ∀ j, j < len → W.cell? ⟨b, off + j * 2, none⟩ = some (.int .i64 (rs[j]?.getD (0, 0)).1) ∧ W.cell? ⟨b, off + j * 2 + 1, none⟩ = some (.int .i64 (rs[j]?.getD (0, 0)).2))
theorem Rg.below {n₀ : Nat} {A B : World} (h : Below n₀ A B) {a : Option Addr} {len : Nat} {rs : List Rn} : Rg n₀ A a len rs → Rg n₀ B a len rs
  | ⟨h0, h1, .inl e⟩ => ⟨h0, h1, .inl e⟩
  | ⟨h0, h1, .inr ⟨b, off, e, hb, hc⟩⟩ => ⟨h0, h1, .inr ⟨b, off, e, hb, fun j hj => ⟨(h.cell (p := ⟨b, off + j * 2, none⟩) hb).trans (hc j hj).1, (h.cell (p := ⟨b, off + j * 2 + 1, none⟩) hb).trans (hc j hj).2⟩⟩⟩
theorem Rg.kept {W W' : World} {a : Option Addr} {len : Nat} {rs : List Rn} (h : Rg W.heap.size W a len rs) (hb : Below W.heap.size W W') : Rg W'.heap.size W' a len rs := by
  have := h.below hb
  refine ⟨this.1, this.2.1, this.2.2.imp id fun ⟨b, off, e, h1, h2⟩ => ⟨b, off, e, Nat.lt_of_lt_of_le h1 hb.size, h2⟩⟩

theorem valid_any (s l : Int) (hs : I64 s) (hl : I64 l) (w : World) :
    Calls Try.prog 30 #[.agg #[.int .i64 s, .int .i64 l]] w fun e w' => e = .returned (.bool (decide (Vld (s, l)))) ∧ w' = w.alloc (.cells #[.int .i64 s, .int .i64 l] 42) := by
  unfold I64 at hs hl
  have HV := hid (show Vld (s, l) ↔ (0 ≤ s ∧ 0 ≤ l ∧ s + l ≤ 1073741824) from Iff.rfl)
  by_cases h1 : 0 ≤ s
  · by_cases h2 : 0 ≤ l
    · by_cases h3 : s ≤ 1073741824
      · by_cases h4 : l ≤ 1073741824 - s
        · have h5 : decide (Vld (s, l)) = true := decide_eq_true (HV.out.2 ⟨h1, h2, by omega⟩)
          rw [h5]
          go_enter Try.func30, Try.ntmps30
          go_wp2_with fail
          go_ret
          exact ⟨rfl, rfl⟩
        · have h5 : decide (Vld (s, l)) = false := decide_eq_false (fun h => by have := HV.out.1 h; omega)
          rw [h5]
          go_enter Try.func30, Try.ntmps30
          go_wp2_with fail
          go_ret
          exact ⟨rfl, rfl⟩
      · have h5 : decide (Vld (s, l)) = false := decide_eq_false (fun h => by have := HV.out.1 h; omega)
        rw [h5]
        go_enter Try.func30, Try.ntmps30
        go_wp2_with fail
        go_ret
        exact ⟨rfl, rfl⟩
    · have h5 : decide (Vld (s, l)) = false := decide_eq_false (fun h => by have := HV.out.1 h; omega)
      rw [h5]
      go_enter Try.func30, Try.ntmps30
      go_wp2_with fail
      go_ret
      exact ⟨rfl, rfl⟩
  · have h5 : decide (Vld (s, l)) = false := decide_eq_false (fun h => by have := HV.out.1 h; omega)
    rw [h5]
    go_enter Try.func30, Try.ntmps30
    go_wp2_with fail
    go_ret
    exact ⟨rfl, rfl⟩
end Go.Proofs.Ytgfdmeaganhpiaa.Old
