/- Walks of layer 2 (pack), moved to this seat. No conditions but those of each theorem. -/
import Derived.Test.YtonjaghkiaaipaaRows
import Derived.WalkKit
import Derived.ProofKit
import Derived.OpenShut
import Derived.LoopTactic
import Derived.Outline
import Derived.Below
import Derived.WalkLawsBesides
import Derived.WalkSpells
import Derived.Deep.QuietTactic
import Derived.BigQuiet
import Derived.Laws.BitsAllLaws
import Derived.Laws.OwnMore
import Derived.Laws.AppendOwn
import Derived.OwnWalk
import Derived.Lib.SmallJoins
import Derived.StillTailTactics
import Derived.RangeFuncBox
import Derived.RangeFuncLeaves
import Derived.RangeFuncFrom
import Derived.RangeFuncWrites
import Derived.Shelf.Abstract
import Derived.Shelf.RegionOpen
import Derived.OwnWalkIn
import Derived.TacticsInMore
import Derived.LoopNIn
import Derived.LoopIn
import Derived.Laws.AppendOwnNone
import Derived.Maps.AppendAt
import Derived.RangeFuncNested
import Derived.StillTail
import Derived.OrdersIn
import Derived.CallsIn
import Derived.Deep.AppendLies
namespace Go.Proofs.Ytonjaghkiaaipaa.OldB
open Go.ChangeShapes Go.WideShapes Go.ChangeAt Go.RowKit
set_option linter.unusedVariables false

theorem hid {p : Prop} (h : p) : Hid p := h
theorem bt {W a b : World} (h : Below W.heap.size W a) (k : Below a.heap.size a b) : Below W.heap.size W b := h.trans (k.mono h.size)
theorem info_parts {o : Option TypeInfo} {z : Option Value} {s b : Nat} (h : o.map (fun i => (i.zero, i.size, i.bytes)) = some (z, s, b)) : ∃ i, o = some i ∧ i.zero = z ∧ i.size = s ∧ i.bytes = b := by
  cases o with
  | none => simp at h
  | some i => simp at h; exact ⟨i, rfl, h.1, h.2.1, h.2.2⟩
theorem Try.info38 : (Try.prog.info? 38).map (fun i => (i.zero, i.size, i.bytes)) = some (some (.int .u64 0), 1, 8) := by kernel_rfl
theorem own_kept {w w' : World} {base : Nat} {e : TypeId} {size : Nat} {v : Value} {n : Nat} {xs : List Value} (h : w.ownsRow base e size v n xs) (hb : Below w.heap.size w w') : w'.ownsRow base e size v n xs := by
  refine ⟨h.1, h.2.imp id fun ⟨g, cap, cur, hv, hg, hh, rest⟩ => ⟨g, cap, cur, hv, hg, ?_, rest⟩⟩
  rw [hb.block g (Array.getElem?_eq_some_iff.1 hh).1]; exact hh
theorem own_base {w : World} {base : Nat} {e : TypeId} {size : Nat} {v : Value} {n : Nat} {xs : List Value} (h : w.ownsRow base e size v n xs) : ∀ k, v.ownBlock = some k → base ≤ k := by
  intro k hk
  rcases h.2 with ⟨rfl, _⟩ | ⟨g, cap, cur, rfl, hg, _⟩
  · simp [Value.ownBlock] at hk
  · simp [Value.ownBlock] at hk; omega

/-- the number of words of a text of n bytes -/
def ln (n : Nat) : Nat := 1 + n / 8 + (n % 8 + 7) / 8
/-- a row of words -/
def rowu (k : Nat) (f : Nat → Nat) : List Value := (List.range k).map fun j => Value.int .u64 (f j : Nat)
theorem rowu_at (k : Nat) (f : Nat → Nat) (j : Nat) (hj : j < k) : (rowu k f)[j]? = some (.int .u64 (f j : Nat)) := by simp [rowu, hj]
theorem rowu_zero (k : Nat) (f : Nat → Nat) (h : ∀ j, j < k → f j = 0) : (madeCells (Value.int .u64 0).cells (k * 1)).toList = rowu k f := by
  rw [show (Value.int .u64 0).cells = #[Value.int .u64 0] from rfl, toList_madeCells_one]
  apply List.ext_getElem?
  intro j
  by_cases hj : j < k
  · rw [rowu_at _ _ _ hj, h j hj]; simp [hj]
  · simp [rowu, hj]
theorem rowu_set (k : Nat) (f g : Nat → Nat) (L x : Nat) (h : ∀ j, j < k → g j = if j = L then x else f j) : (rowu k f).set L (.int .u64 (x : Int)) = rowu k g := by
  apply List.ext_getElem?
  intro j
  rw [List.getElem?_set]
  by_cases hj : j < k
  · rw [rowu_at _ _ _ hj, rowu_at _ _ _ hj, h j hj]
    by_cases e : L = j
    · subst e; simp [hj, rowu]
    · rw [if_neg e, if_neg (fun h => e h.symm)]
  · have e1 : (rowu k f)[j]? = none := by rw [List.getElem?_eq_none_iff]; simp [rowu]; omega
    have e2 : (rowu k g)[j]? = none := by rw [List.getElem?_eq_none_iff]; simp [rowu]; omega
    have e3 : (rowu k f).length = k := by simp [rowu]
    rw [e1, e2]
    split
    · rw [if_neg (by omega)]
    · rfl
theorem own_at {w : World} {base g cap n k : Nat} {f : Nat → Nat} (h : w.ownsRow base 38 1 (.slice (some ⟨g, 0, none⟩) n cap) n (rowu k f)) (j : Nat) (hj : j < n) (hn : n = k) : w.cell? ⟨g, j, none⟩ = some (.int .u64 (f j : Nat)) := by
  rw [h.cellAt j (by omega), rowu_at _ _ _ (by omega)]

/-- the bytes of a string -/
def byt (s : ByteArray) (i : Nat) : Nat := if h : i < s.size then s[i].toNat else 0
theorem byt_lt (s : ByteArray) (i : Nat) : byt s i < 256 := by
  unfold byt
  split
  · exact UInt8.toNat_lt _
  · omega
theorem or_byte (x b r : Nat) (hx : x < 2 ^ 64) (hb : b < 256) (hr : r < 8) : bits .or .u64 (x : Int) (IntKind.u64.wrap ((b : Int) * 2 ^ (8 * r))) = ((x ||| (b <<< (8 * r)) : Nat) : Int) := by
  have h1 : b <<< (8 * r) < 2 ^ 8 * 2 ^ (8 * r) := by rw [Nat.shiftLeft_eq]; exact Nat.mul_lt_mul_of_pos_right hb (Nat.two_pow_pos _)
  rw [← Nat.pow_add] at h1
  have h2 : b <<< (8 * r) < 2 ^ 64 := Nat.lt_of_lt_of_le h1 (Nat.pow_le_pow_right (by omega) (by omega))
  have e : (b : Int) * 2 ^ (8 * r) = ((b <<< (8 * r) : Nat) : Int) := by rw [Nat.shiftLeft_eq, Int.natCast_mul, Int.natCast_pow]; rfl
  rw [e]
  generalize b <<< (8 * r) = y at h2
  have e2 : IntKind.u64.wrap (y : Int) = (y : Int) := by simp [IntKind.wrap, IntKind.bits, IntKind.signed]; omega
  rw [e2, u64_or_nat _ _ hx h2]
/-- word j of the words of n bytes, behind the first k of them -/
def tw (b : Nat → Nat) (n : Nat) : Nat → Nat → Nat
  | 0, j => if j = 0 then n else 0
  | k + 1, j => if j = 1 + k / 8 then tw b n k j ||| (b k <<< (8 * (k % 8))) else tw b n k j
theorem tw_lt (b : Nat → Nat) (hb : ∀ i, b i < 256) (n : Nat) (hn : n < 2 ^ 64) (k j : Nat) : tw b n k j < 2 ^ 64 := by
  induction k with
  | zero => unfold tw; split <;> omega
  | succ k ih =>
    unfold tw
    split
    · refine Nat.or_lt_two_pow ih ?_
      have h1 : b k <<< (8 * (k % 8)) < 2 ^ 8 * 2 ^ (8 * (k % 8)) := by rw [Nat.shiftLeft_eq]; exact Nat.mul_lt_mul_of_pos_right (hb k) (Nat.two_pow_pos _)
      rw [← Nat.pow_add] at h1
      exact Nat.lt_of_lt_of_le h1 (Nat.pow_le_pow_right (by omega) (by omega))
    · exact ih

end Go.Proofs.Ytonjaghkiaaipaa.OldB
namespace Go.Proofs.Ytonjaghkiaaipaa.OldB
open Go.ChangeShapes Go.WideShapes Go.ChangeAt Go.RowKit Go.Shelf
set_option linter.unusedVariables false
attribute [local go_sem] Oper.semAt_some

/-- the sum of the first widths -/
def sw (zs : List Int) : Nat → Int
  | 0 => 0
  | k + 1 => sw zs k + zs[k]?.getD 0
/-- width k fits behind those before it -/
def fit (zs : List Int) (k : Nat) : Prop := 1 ≤ zs[k]?.getD 0 ∧ zs[k]?.getD 0 ≤ 64 - sw zs k
theorem sw_bd (zs : List Int) (k : Nat) (h : ∀ j, j < k → fit zs j) : 0 ≤ sw zs k ∧ sw zs k ≤ 64 := by
  induction k with
  | zero => simp [sw]
  | succ k ih =>
    have h1 := ih (fun j hj => h j (by omega))
    have h2 := h k (by omega)
    unfold fit at h2
    unfold sw
    omega

/-- the widths lie in W, below n₀ -/
def Wi (n₀ : Nat) (W : World) (a : Option Addr) (len : Nat) (zs : List Int) : Prop :=
  len = 0 ∨ ∃ b off, a = some ⟨b, off, none⟩ ∧ b < n₀ ∧ ∀ j, j < len → W.cell? ⟨b, off + j, none⟩ = some (.int .i64 (zs[j]?.getD 0))
theorem Wi.below {n₀ : Nat} {A B : World} (h : Below n₀ A B) {a : Option Addr} {len : Nat} {zs : List Int} : Wi n₀ A a len zs → Wi n₀ B a len zs
  | .inl e => .inl e
  | .inr ⟨b, off, e, hb, hc⟩ => .inr ⟨b, off, e, hb, fun j hj => (h.cell (p := ⟨b, off + j, none⟩) hb).trans (hc j hj)⟩

theorem chk_ok (a : Option Addr) (len cap : Nat) (zs : List Int) (n₀ : Nat) (w : World) (hbig : len ≤ 9223372036854775807) (hI : Wi n₀ w a len zs) (hz : ∀ j, j < len → fit zs j) :
    Calls Try.prog 57 #[.slice a len cap] w fun e w' => e = .returned (.int .i64 0) ∧ w = w' := by
  have HI := hid hI
  have HZ := hid hz
  clear hI hz
  go_enter Try.func57, Try.ntmps57
  go_wp2
  go_loop [3, 8] (fun sv iv => ∃ k : Nat, k ≤ len ∧ iv = .int .i64 (k : Int) ∧ sv = .int .i64 (sw zs k)) (fun _ iv => len - (intOf iv).toNat)
  case atStart => exact ⟨0, by omega, rfl, rfl⟩
  case round =>
    obtain ⟨k, hk, rfl, rfl⟩ := hrel
    by_cases hlt : k < len
    · obtain ⟨b, off, rfl, _, hall⟩ := HI.out.resolve_left (by omega)
      have hck := hall k hlt
      clear hall
      have hf := HZ.out k hlt
      obtain ⟨h1, h2⟩ := sw_bd zs k (fun j hj => HZ.out j (by omega))
      unfold fit at hf
      have HS := hid (show sw zs (k + 1) = sw zs k + zs[k]?.getD 0 from rfl)
      generalize zs[k]?.getD 0 = z at *
      generalize sw zs k = s at *
      obtain ⟨f1, f2⟩ := hf
      have h3 : (k : Int) < (len : Int) := by omega
      go_wp2
      go_round
      case rel => exact ⟨k + 1, by omega, by go_num, by rw [HS.out]⟩
      case measure => simp [intOf]; omega
    · obtain rfl : k = len := by omega
      have h3 : ¬ (k : Int) < (k : Int) := by omega
      go_wp2
      go_ret
      exact ⟨rfl, rfl⟩

theorem chk_no (a : Option Addr) (len cap : Nat) (zs : List Int) (n₀ : Nat) (w : World) (hbig : len ≤ 9223372036854775807) (hI : Wi n₀ w a len zs) (k0 : Nat) (hk0 : k0 < len) (hz : ∀ j, j < k0 → fit zs j) (hn : ¬ fit zs k0) :
    Calls Try.prog 57 #[.slice a len cap] w fun e w' => e = .returned (.int .i64 1) ∧ w = w' := by
  have HI := hid hI
  have HZ := hid hz
  have HN := hid hn
  clear hI hz hn
  go_enter Try.func57, Try.ntmps57
  go_wp2
  go_loop [3, 8] (fun sv iv => ∃ k : Nat, k ≤ k0 ∧ iv = .int .i64 (k : Int) ∧ sv = .int .i64 (sw zs k)) (fun _ iv => len - (intOf iv).toNat)
  case atStart => exact ⟨0, by omega, rfl, rfl⟩
  case round =>
    obtain ⟨k, hk, rfl, rfl⟩ := hrel
    obtain ⟨b, off, rfl, _, hall⟩ := HI.out.resolve_left (by omega)
    have hck := hall k (by omega)
    clear hall
    obtain ⟨h1, h2⟩ := sw_bd zs k (fun j hj => HZ.out j (by omega))
    have h3 : (k : Int) < (len : Int) := by omega
    by_cases hlt : k < k0
    · have hf := HZ.out k hlt
      unfold fit at hf
      have HS := hid (show sw zs (k + 1) = sw zs k + zs[k]?.getD 0 from rfl)
      generalize zs[k]?.getD 0 = z at *
      generalize sw zs k = s at *
      obtain ⟨f1, f2⟩ := hf
      go_wp2
      go_round
      case rel => exact ⟨k + 1, by omega, by go_num, by rw [HS.out]⟩
      case measure => simp [intOf]; omega
    · obtain rfl : k = k0 := by omega
      have hf := HN.out
      unfold fit at hf
      generalize zs[k]?.getD 0 = z at *
      generalize sw zs k = s at *
      by_cases f1 : z < 1
      · clear hf
        go_wp2
        go_ret
        exact ⟨rfl, rfl⟩
      · have f2 : 64 - s < z := by omega
        clear hf
        go_wp2
        go_ret
        exact ⟨rfl, rfl⟩

theorem first_not (p : Nat → Prop) (len : Nat) (h : ¬ ∀ j, j < len → p j) : ∃ k0, k0 < len ∧ (∀ j, j < k0 → p j) ∧ ¬ p k0 := by
  induction len with
  | zero => exact absurd (fun j hj => by omega) h
  | succ n ih =>
    by_cases hn : ∀ j, j < n → p j
    · refine ⟨n, by omega, hn, fun hp => h fun j hj => ?_⟩
      by_cases e : j = n
      · rw [e]; exact hp
      · exact hn j (by omega)
    · obtain ⟨k0, h1, h2, h3⟩ := ih hn
      exact ⟨k0, by omega, h2, h3⟩

/-- the arguments of a round: its number, and the field -/
abbrev fenc (zs : List Int) (i : Nat) : Array Value := #[.int .i64 (i : Int), .agg #[.int .i64 (sw zs i), .int .i64 (zs[i]?.getD 0)]]

abbrev Ix (len : Nat) := { i : Nat // i < len }
/-- the first k numbers -/
def firsts (len : Nat) : (k : Nat) → k ≤ len → List (Ix len)
  | 0, _ => []
  | k + 1, h => firsts len k (by omega) ++ [⟨k, h⟩]
theorem firsts_length (len k : Nat) (h : k ≤ len) : (firsts len k h).length = k := by
  induction k with
  | zero => rfl
  | succ k ih => simp [firsts, ih]

set_option maxRecDepth 100000 in
set_option maxHeartbeats 2000000 in
theorem it_in (F : Fence) (n : Nat) (h35 : F.fn 64) (hro : F.round = none) (hn : 1 ≤ n) (l Bs n₀ len cap : Nat) (a : Option Addr) (zs : List Int) (hbig : len ≤ 9223372036854775807) (hz : ∀ j, j < len → fit zs j) (J Jx : List (Ix len) → World → Prop)
    (hY : ∀ pre (x : Ix len) W, J pre W → pre.length < len → YieldAt F (n - 1) Try.prog l (fenc zs x.1) W fun e W' =>
      (e = .returned (.bool true) ∧ J (pre ++ [x]) W' ∧ Below n₀ W W') ∨ (e = .returned (.bool false) ∧ Jx (pre ++ [x]) W'))
    (W : World) (hBs : W.cell? ⟨Bs, 0, none⟩ = some (.slice a len cap)) (hI : Wi n₀ W a len zs) (h0 : J [] W) :
    CallsIn F n Try.prog 64 #[.func (.yield l) #[] #[], .pointer (some ⟨Bs, 0, none⟩)] W fun e W' => (∃ v, e = .returned v) ∧
      ((∃ ys, ys = firsts len len (Nat.le_refl _) ∧ J ys W') ∨ (∃ pre : List (Ix len), Jx pre W')) := by
  refine callsIn_of_wp Try.func64 rfl h35 ?_ hro
  simp only [Try.ntmps64, List.size_toArray, List.length_cons, List.length_nil, Nat.reduceAdd, Nat.reduceSub, Array.replicate_succ, Array.replicate_zero, List.push_toArray, List.append_toArray, List.nil_append, List.cons_append]
  have HY := hid hY
  have HI := hid hI
  have HZ := hid hz
  clear hY hI hz
  gi_wp2
  gi_loopw [3, 8] (fun sv i wr => ∃ (k : Nat) (hk : k ≤ len), i = .int .i64 (k : Int) ∧ sv = .int .i64 (sw zs k) ∧ J (firsts len k hk) wr ∧ Below n₀ W wr) (fun _ i _ => len - (intOf i).toNat)
  case atStart => exact ⟨0, Nat.zero_le _, rfl, rfl, h0, Below.refl _ _⟩
  case round =>
    obtain ⟨k, hk, rfl, rfl, hJs, hnx⟩ := hrel
    have HJ := hid hJs
    clear hJs
    by_cases hlt : k < len
    · obtain ⟨b, off, rfl, hb, hall⟩ := (HI.out.below hnx).resolve_left (by omega)
      have hck := hall k hlt
      clear hall
      obtain ⟨s1, s2⟩ := sw_bd zs k (fun j hj => HZ.out j (by omega))
      have hf := HZ.out k hlt
      unfold fit at hf
      obtain ⟨fn, tmps, assign, body, hy, hR⟩ := HY.out _ (⟨k, hlt⟩ : Ix len) _ HJ.out (by rw [firsts_length]; exact hlt)
      dsimp only [fenc] at hy
      have HR := hid hR
      clear hR
      have hlt2 : (k : Int) < (len : Int) := by omega
      have HS := hid (show sw zs (k + 1) = sw zs k + zs[k]?.getD 0 from rfl)
      have HF := hid (show firsts len (k + 1) hlt = firsts len k hk ++ [⟨k, hlt⟩] from rfl)
      gi_wp2
      refine HR.out.mono ?_
      rintro e W3 (⟨rfl, hJ3, hk3⟩ | ⟨rfl, hJx3⟩)
      · have w1 : wrap64 (sw zs k + zs[k]?.getD 0) = sw zs k + zs[k]?.getD 0 := IntWalk.wrap64_in _ (by omega)
        gi_wp2
        go_roundw
        case rel => exact ⟨k + 1, hlt, by go_num, by rw [HS.out], by rw [HF.out]; exact hJ3, hnx.trans hk3⟩
        case measure => simp [intOf]; omega
      · gi_wp2
        refine bodyPost_ret (results_none rfl _ _ _) rfl ?_
        exact ⟨⟨_, rfl⟩, .inr ⟨_, hJx3⟩⟩
    · obtain rfl : k = len := by omega
      have hlt2 : ¬ (k : Int) < (k : Int) := by omega
      gi_wp2
      go_end0
      exact ⟨⟨_, rfl⟩, by first | exact .inl ⟨_, rfl, HJ.out⟩ | exact .inl HJ.out | exact HJ.out⟩

set_option maxHeartbeats 1000000 in
theorem fields_in (F : Fence) (n : Nat) (h31 : F.fn 58) (hro : F.round = none) (a : Option Addr) (len cap : Nat) (w : World) :
    CallsIn F n Try.prog 58 #[.slice a len cap] w fun e w' => e = .returned (.func (.func 64) #[] #[.pointer (some ⟨w.heap.size, 0, none⟩)]) ∧ w' = w.alloc (.cells #[.slice a len cap] 22) := by
  refine callsIn_of_wp Try.func58 rfl h31 ?_ hro
  simp only [Try.ntmps58, List.size_toArray, List.length_cons, List.length_nil, Nat.reduceAdd, Nat.reduceSub, Array.replicate_succ, Array.replicate_zero, List.push_toArray, List.append_toArray, List.nil_append, List.cons_append]
  gi_wp2
  go_ret
  exact ⟨rfl, rfl⟩

theorem fields_stops (F : Fence) (n : Nat) (h35 : F.fn 64) (hro : F.round = none) (hn : 1 ≤ n) (Bs n₀ : Nat) (a : Option Addr) (len cap : Nat) (zs : List Int) (hbig : len ≤ 9223372036854775807) (hz : ∀ j, j < len → fit zs j) (w : World) (hBs : Bs < w.heap.size) (hn₀ : n₀ ≤ w.heap.size)
    (hc : w.cell? ⟨Bs, 0, none⟩ = some (.slice a len cap)) (hI : Wi n₀ w a len zs) :
    SeqStopsK F n Try.prog 64 #[.pointer (some ⟨Bs, 0, none⟩)] (fun x : Ix len => fenc zs x.1) (Below n₀) (fun ys => ys = firsts len len (Nat.le_refl _)) (fun _ => True) len w := fun l J Jx W hW _ _ hY h0 => by
  have hc' := (hW.cell (p := ⟨Bs, 0, none⟩) hBs).trans hc
  refine (it_in F n h35 hro hn l Bs n₀ len cap a zs hbig hz J Jx hY W hc' (hI.below (hW.mono hn₀)) h0).mono ?_
  rintro e W' ⟨he, ⟨ys, rfl, hj⟩ | ⟨pre, hj⟩⟩
  · exact ⟨he, .inl ⟨_, rfl, hj⟩⟩
  · exact ⟨he, .inr ⟨_, trivial, hj⟩⟩

theorem mask_num : ∀ n, n < 65 → (18446744073709551615 : Int) / 2 ^ (64 - n) = ((2 ^ n - 1 : Nat) : Int) := by decide +kernel
/-- the greatest value of a field of b bits -/
theorem mask_any (lo b : Int) (h1 : 1 ≤ b) (h2 : b ≤ 64) (w : World) :
    Calls Try.prog 59 #[.agg #[.int .i64 lo, .int .i64 b]] w fun e w' => e = .returned (.int .u64 ((2 ^ b.toNat - 1 : Nat) : Int)) ∧ Below w.heap.size w w' := by
  have hm := hid (show (18446744073709551615 : Int) / 2 ^ (64 - b).toNat = ((2 ^ b.toNat - 1 : Nat) : Int) by
    have := mask_num b.toNat (by omega)
    rwa [show 64 - b.toNat = (64 - b).toNat by omega] at this)
  go_enter Try.func59, Try.ntmps59
  go_wp2_with fail
  rw [hm.out]
  go_ret
  exact ⟨rfl, (Below.refl _ _).alloc (Nat.le_refl _) _⟩

/-- the word of the first fields -/
def fw (zs : List Int) (vs : List Nat) : Nat → Nat
  | 0 => 0
  | k + 1 => fw zs vs k ||| ((vs[k]?.getD 0) <<< (sw zs k).toNat)
/-- value k fits its width -/
def vfit (zs : List Int) (vs : List Nat) (k : Nat) : Prop := vs[k]?.getD 0 < 2 ^ (zs[k]?.getD 0).toNat
theorem fw_lt (zs : List Int) (vs : List Nat) (k : Nat) (h : ∀ j, j < k → fit zs j ∧ vfit zs vs j) : fw zs vs k < 2 ^ 64 := by
  induction k with
  | zero => simp [fw]
  | succ k ih =>
    have h1 := ih (fun j hj => h j (by omega))
    obtain ⟨h2, h3⟩ := h k (by omega)
    obtain ⟨s1, s2⟩ := sw_bd zs k (fun j hj => (h j (by omega)).1)
    unfold fit at h2
    unfold vfit at h3
    unfold fw
    refine Nat.or_lt_two_pow h1 ?_
    rw [Nat.shiftLeft_eq]
    have h4 : vs[k]?.getD 0 * 2 ^ (sw zs k).toNat < 2 ^ (zs[k]?.getD 0).toNat * 2 ^ (sw zs k).toNat := Nat.mul_lt_mul_of_pos_right h3 (Nat.two_pow_pos _)
    rw [← Nat.pow_add] at h4
    exact Nat.lt_of_lt_of_le h4 (Nat.pow_le_pow_right (by omega) (by omega))

/-- the values lie in W, below n₀ -/
def Va (n₀ : Nat) (W : World) (a : Option Addr) (len : Nat) (vs : List Nat) : Prop :=
  (∀ j, j < len → vs[j]?.getD 0 < 18446744073709551616) ∧ (len = 0 ∨ ∃ b off, a = some ⟨b, off, none⟩ ∧ b < n₀ ∧ ∀ j, j < len → W.cell? ⟨b, off + j, none⟩ = some (.int .u64 (vs[j]?.getD 0 : Nat)))
theorem Va.below {n₀ : Nat} {A B : World} (h : Below n₀ A B) {a : Option Addr} {len : Nat} {vs : List Nat} : Va n₀ A a len vs → Va n₀ B a len vs
  | ⟨h1, .inl e⟩ => ⟨h1, .inl e⟩
  | ⟨h1, .inr ⟨b, off, e, hb, hc⟩⟩ => ⟨h1, .inr ⟨b, off, e, hb, fun j hj => (h.cell (p := ⟨b, off + j, none⟩) hb).trans (hc j hj)⟩⟩
end Go.Proofs.Ytonjaghkiaaipaa.OldB
namespace Go.Proofs.Ytonjaghkiaaipaa.OldB
open Go.ChangeShapes Go.WideShapes Go.ChangeAt Go.RowKit
set_option linter.unusedVariables false

/-- a list of words as values -/
def vs (ws : List Nat) : List Value := ws.map (fun (x : Nat) => Value.int .u64 (x : Int))
theorem one_of (ws : List Nat) : ∀ u ∈ vs ws, u.oneCell' = true := by
  intro u hu
  simp [vs] at hu
  obtain ⟨x, _, rfl⟩ := hu
  rfl
/-- the cells of a slice that is appended -/
def Src (w : World) (a : Option Addr) (m c : Nat) (news : List Value) : Prop :=
  (a = none ∧ m = 0 ∧ c = 0 ∧ news = []) ∨ ∃ ad, a = some ad ∧ ∀ j u, news[j]? = some u → w.cell? (ad.add j) = some u

/-- append of a slice, nil or not, to one that the call owns -/
theorem wpList_append_src {P : Program} (w : World) {ops : Array Oper} {rest : List Oper} {o : Oper} {ac : Act} {Q : Exit → Act → World → Prop} (hgd : o.guard = none) (s x : Operand) (t : TypeId)
    (ho : o.op = .call { callee := .builtin .append, args := #[s, x], argTypes := #[t, t] })
    (base : Nat) (e : TypeId) (i : TypeInfo) (z : Value) (size bytes : Nat) (ht : P.underlying t = some (.slice e)) (hi : P.info? e = some i) (hz : i.zero = some z)
    (hsize : i.size = size) (hby : i.bytes = bytes) (hzs : z.cells.size = size) (hsz : 0 < size)
    (v : Value) (n : Nat) (xs : List Value) (hs : ac.eval s = v) (hown : w.ownsRow base e size v n xs)
    (a : Option Addr) (m c : Nat) (news : List Value) (hx : ac.eval x = .slice a m c) (hsrc : Src w a m c news) (hl : news.length = m * size) (h1 : ∀ u ∈ news, u.oneCell' = true)
    (h63 : n + m ≤ maxLen) (hbytes : (n + m) * bytes ≤ 140737488355328) (hbase : base ≤ w.heap.size)
    (h : ∀ v' w', w'.ownsRow base e size v' (n + m) (xs ++ news) → w.grownBy w' v.ownBlock → wpList P ops Q rest (ac.put o.dst v') w') : wpList P ops Q (o :: rest) ac w := by
  rcases hsrc with ⟨rfl, rfl, rfl, rfl⟩ | ⟨ad, rfl, hc⟩
  · exact wpList_append_own_none hgd s x t ho base e i size ht hi v n xs hs hown hx (h v w (by simpa using hown) ⟨rfl, rfl, rfl, Nat.le_refl _, fun _ _ _ => rfl⟩)
  · exact wpList_append_own w hgd s x t ho base e i z size bytes ht hi hz hsize hby hzs hsz v n xs hs hown ad m c news hx hl hc h1 h63 hbytes hbase (fun v' w' h2 h3 _ => h v' w' h2 h3)

/-- what is known of a slice of words: nil, or its cells -/
def Wd (n₀ : Nat) (W : World) (a : Option Addr) (len cap : Nat) (ws : List Nat) : Prop :=
  ws.length = len ∧ (∀ j, j < len → ws[j]?.getD 0 < 18446744073709551616) ∧ (a = none → len = 0 ∧ cap = 0) ∧ (len = 0 ∨ ∃ b off, a = some ⟨b, off, none⟩ ∧ b < n₀ ∧ ∀ j, j < len → W.cell? ⟨b, off + j, none⟩ = some (.int .u64 (ws[j]?.getD 0 : Nat)))
theorem Wd.below {n₀ : Nat} {A B : World} (h : Below n₀ A B) {a : Option Addr} {len cap : Nat} {ws : List Nat} : Wd n₀ A a len cap ws → Wd n₀ B a len cap ws
  | ⟨h0, h1, h2, .inl e⟩ => ⟨h0, h1, h2, .inl e⟩
  | ⟨h0, h1, h2, .inr ⟨b, off, e, hb, hc⟩⟩ => ⟨h0, h1, h2, .inr ⟨b, off, e, hb, fun j hj => (h.cell (p := ⟨b, off + j, none⟩) hb).trans (hc j hj)⟩⟩
theorem Wd.mono {n m : Nat} {W : World} {a : Option Addr} {len cap : Nat} {ws : List Nat} (hm : n ≤ m) : Wd n W a len cap ws → Wd m W a len cap ws
  | ⟨h0, h1, h2, .inl e⟩ => ⟨h0, h1, h2, .inl e⟩
  | ⟨h0, h1, h2, .inr ⟨b, off, e, hb, hc⟩⟩ => ⟨h0, h1, h2, .inr ⟨b, off, e, by omega, hc⟩⟩
theorem Wd.kept {W W' : World} {a : Option Addr} {len cap : Nat} {ws : List Nat} (h : Wd W.heap.size W a len cap ws) (hb : Below W.heap.size W W') : Wd W'.heap.size W' a len cap ws := (h.below hb).mono hb.size
theorem Wd.va {n₀ : Nat} {W : World} {a : Option Addr} {len cap : Nat} {ws : List Nat} (h : Wd n₀ W a len cap ws) : Va n₀ W a len ws := ⟨h.2.1, h.2.2.2⟩
theorem Wd.src {n₀ : Nat} {W : World} {a : Option Addr} {len cap : Nat} {ws : List Nat} (h : Wd n₀ W a len cap ws) : Src W a len cap (vs ws) := by
  obtain ⟨h0, h1, h2, h3⟩ := h
  cases a with
  | none =>
    obtain ⟨e1, e2⟩ := h2 rfl
    exact .inl ⟨rfl, e1, e2, by rw [List.length_eq_zero_iff.1 (h0.trans e1)]; rfl⟩
  | some ad =>
    refine .inr ⟨ad, rfl, fun j u hj => ?_⟩
    have hjl : j < len := by
      have := (List.getElem?_eq_some_iff.1 hj).1
      simp [vs] at this; omega
    obtain ⟨b, off, e, hb, hc⟩ := h3.resolve_left (by omega)
    obtain rfl := Option.some.inj e
    have hu : u = .int .u64 (ws[j]?.getD 0 : Nat) := by
      simp [vs, List.getElem?_eq_getElem (by omega : j < ws.length)] at hj
      simp [List.getElem?_eq_getElem (by omega : j < ws.length), hj]
    rw [hu, ← hc j hjl]
    by_cases e : j = 0
    · subst e; simp [Addr.add]
    · simp [Addr.add, e]
/-- a row of the call's own is such a slice -/
theorem own_wd {w : World} {base : Nat} {v : Value} {n : Nat} {ws : List Nat} (h : w.ownsRow base 38 1 v n (vs ws)) (hw : ∀ j, j < n → ws[j]?.getD 0 < 18446744073709551616) : ∃ a cap, v = .slice a n cap ∧ Wd w.heap.size w a n cap ws := by
  have hlen : ws.length = n := by have := h.1; simp [vs] at this; exact this
  rcases h.2 with ⟨hv, h0⟩ | ⟨g, cap, cur, hv, hg, hh, hc, hm, _⟩
  · subst h0
    exact ⟨none, 0, hv, ⟨hlen, hw, fun _ => ⟨rfl, rfl⟩, .inl rfl⟩⟩
  · refine ⟨some ⟨g, 0, none⟩, cap, hv, ⟨hlen, hw, (fun h => by cases h), .inr ⟨g, 0, rfl, (Array.getElem?_eq_some_iff.1 hh).1, fun j hj => ?_⟩⟩⟩
    rw [hv] at h
    rw [Nat.zero_add, h.cellAt j (by omega)]
    simp [vs, List.getElem?_eq_getElem (show j < ws.length by omega)]
/-- what the walk is told of a slice of integers that came in: it is nil, or it leads to a row of 'cap' cells, the numbers 'zs', each fitting its kind -/
def IsRow (k : IntKind) (w : World) (a : Option Addr) (len cap : Nat) (zs : List Int) : Prop :=
  (a = none ∧ len = 0 ∧ cap = 0 ∧ zs = []) ∨
  ∃ x, a = some x ∧ len ≤ cap ∧ cap ≤ maxLen ∧ zs.length = cap ∧ (∀ i, i < zs.length → w.cell? (x.add i) = some (.int k (zs.getD i 0))) ∧ ∀ n ∈ zs, (Lit.int k n).wf = true
theorem wd_of {w : World} {a : Option Addr} {len cap : Nat} {zs : List Int} (h : IsRow .u64 w a len cap zs) : Wd w.heap.size w a len cap ((zs.map Int.toNat).take len) := by
  rcases h with ⟨rfl, rfl, rfl, rfl⟩ | ⟨x, rfl, hl, hm, hz, hcell, hwz⟩
  · exact ⟨rfl, fun j hj => by omega, fun _ => ⟨rfl, rfl⟩, .inl rfl⟩
  · have hv : ∀ j, j < len → ((zs.map Int.toNat).take len)[j]?.getD 0 < 18446744073709551616 ∧ ((((zs.map Int.toNat).take len)[j]?.getD 0 : Nat) : Int) = zs.getD j 0 := fun j hj => by
      have hjz : j < zs.length := by omega
      have := hwz _ (List.getElem_mem hjz)
      simp [Lit.wf, IntKind.min, IntKind.max, IntKind.signed, IntKind.bits] at this
      rw [List.getElem?_take_of_lt hj]
      simp [List.getD_eq_getElem?_getD, List.getElem?_eq_getElem hjz]
      omega
    refine ⟨by simp; omega, fun j hj => (hv j hj).1, (fun h => by cases h), ?_⟩
    by_cases h0 : len = 0
    · exact .inl h0
    · obtain ⟨b, off, spot⟩ := x
      have hc := hcell 0 (by omega)
      have hspot : spot = none := by simpa [Addr.add] using World.cell?_spot hc
      subst hspot
      refine .inr ⟨b, off, rfl, ?_, fun j hj => ?_⟩
      · have hc' : w.cell? ⟨b, off, none⟩ = some (.int .u64 (zs.getD 0 0)) := by simpa [Addr.add] using hc
        exact block_lt_of_cell hc'
      · have := hcell j (by omega)
        rw [(hv j hj).2]
        by_cases e : j = 0
        · subst e; simpa [Addr.add] using this
        · simpa [Addr.add, e] using this

/-- bit r of a word, set or cleared -/
def sb (x r : Nat) (is : Bool) : Nat := if is then (x &&& (18446744073709551615 - 2 ^ r)) ||| 2 ^ r else x &&& (18446744073709551615 - 2 ^ r)
theorem pow_lt {r : Nat} (h : r < 64) : 2 ^ r < 18446744073709551616 := Nat.pow_lt_pow_right (a := 2) (by omega) h
theorem sb_lt {x : Nat} (r : Nat) (is : Bool) (hx : x < 18446744073709551616) (hr : r < 64) : sb x r is < 18446744073709551616 := by
  have h1 : x &&& (18446744073709551615 - 2 ^ r) < 2 ^ 64 := Nat.and_lt_two_pow _ (Nat.lt_of_le_of_lt (Nat.sub_le _ _) (by decide))
  unfold sb
  split
  · exact Nat.or_lt_two_pow h1 (pow_lt hr)
  · exact h1
theorem ones_bit (r i : Nat) (hr : r < 64) (hi : i < 64) : (18446744073709551615 - 2 ^ r).testBit i = !decide (r = i) := by
  have h := Nat.testBit_two_pow_sub_succ (n := 64) (x := 2 ^ r) (pow_lt hr) i
  rw [show 2 ^ 64 - (2 ^ r + 1) = 18446744073709551615 - 2 ^ r by omega] at h
  rw [h, Nat.testBit_two_pow]
  simp [hi]
theorem sb_bit (x r : Nat) (is : Bool) (hx : x < 18446744073709551616) (hr : r < 64) (i : Nat) : (sb x r is).testBit i = if i = r then is else x.testBit i := by
  by_cases hi : i < 64
  · unfold sb
    cases is
    · simp only [Bool.false_eq_true, if_false, Nat.testBit_and, ones_bit r i hr hi]
      by_cases e : i = r
      · subst e; simp
      · simp [e, show ¬ r = i by omega]
    · simp only [if_true, Nat.testBit_or, Nat.testBit_and, ones_bit r i hr hi, Nat.testBit_two_pow]
      by_cases e : i = r
      · subst e; simp
      · simp [e, show ¬ r = i by omega]
  · have h1 : 2 ^ 64 ≤ 2 ^ i := Nat.pow_le_pow_right (by omega) (by omega)
    rw [Nat.testBit_lt_two_pow (Nat.lt_of_lt_of_le (sb_lt r is hx hr) h1), if_neg (by omega), Nat.testBit_lt_two_pow (Nat.lt_of_lt_of_le hx h1)]
end Go.Proofs.Ytonjaghkiaaipaa.OldB
namespace Go.Proofs.Ytonjaghkiaaipaa.OldB
open Go.ChangeShapes Go.WideShapes Go.ChangeAt Go.RowKit
set_option linter.unusedVariables false
set_option linter.unusedSimpArgs false

theorem vs_set (B : List Nat) (q v : Nat) : (vs B).set q (.int .u64 (v : Int)) = vs (B.set q v) := by
  simp [vs, List.map_set]
theorem vs_at (ws : List Nat) (j : Nat) (hj : j < ws.length) : (vs ws)[j]? = some (.int .u64 (ws[j]?.getD 0 : Nat)) := by
  simp [vs, List.getElem?_eq_getElem hj]
theorem set_getD (B : List Nat) (q v j : Nat) (hq : q < B.length) : (B.set q v)[j]?.getD 0 = if j = q then v else B[j]?.getD 0 := by
  rw [List.getElem?_set]
  by_cases e : q = j
  · subst e; simp [hq]
  · rw [if_neg e, if_neg (fun h => e h.symm)]
theorem own_some {w : World} {base : Nat} {v : Value} {n : Nat} {xs : List Value} (h : w.ownsRow base 38 1 v n xs) (hn : 0 < n) : ∃ g cap, v = .slice (some ⟨g, 0, none⟩) n cap := by
  rcases h.2 with ⟨hv, h0⟩ | ⟨g, cap, cur, hv, _⟩
  · omega
  · exact ⟨g, cap, hv⟩
theorem pw (r : Nat) : ((2 ^ r : Nat) : Int) = (2 : Int) ^ r := by rw [Int.natCast_pow]; rfl
theorem shl1 (r : Nat) (hr : r < 64) : IntKind.u64.wrap ((2 : Int) ^ r) = ((2 ^ r : Nat) : Int) := by
  have := pow_lt hr
  rw [show ((2 : Int) ^ r) = ((2 ^ r : Nat) : Int) by rw [Int.natCast_pow]; rfl]
  generalize 2 ^ r = y at this
  simp [IntKind.wrap, IntKind.bits, IntKind.signed]; omega
theorem cb_lt (x r : Nat) : x &&& (18446744073709551615 - 2 ^ r) < 18446744073709551616 := Nat.and_lt_two_pow (n := 64) _ (Nat.lt_of_le_of_lt (Nat.sub_le _ _) (by decide))

set_option maxHeartbeats 1000000 in
theorem drewN_add (w : World) (a b : Nat) : (w.drewN a).drewN b = w.drewN (a + b) := by
  simp [World.drewN, Nat.add_assoc]
theorem same_yes (a b : Option Addr) (len cap cap' : Nat) (n₀ : Nat) (ws : List Nat) (w : World) (hl : len ≤ 9223372036854775807) (hA : Wd n₀ w a len cap ws) (hB : Wd n₀ w b len cap' ws) :
    Calls Try.prog 16 #[.slice a len cap, .slice b len cap'] w fun e w' => e = .returned (.bool true) ∧ ∃ n, w' = w.drewN n := by
  have HA := hid hA
  have HB := hid hB
  clear hA hB
  go_enter Try.func16, Try.ntmps16
  go_wp2_with fail
  go_loopw [5] (fun iv wr => ∃ k n : Nat, k ≤ len ∧ iv = .int .i64 (k : Int) ∧ Hid (wr = w.drewN n)) (fun iv _ => len - (intOf iv).toNat)
  case atStart => exact ⟨0, 0, by omega, rfl, rfl⟩
  case round =>
    obtain ⟨k, m, hk, rfl, hw⟩ := hrel
    by_cases hlt : k < len
    · obtain ⟨b1, o1, rfl, _, c1⟩ := HA.out.2.2.2.resolve_left (by omega)
      obtain ⟨b2, o2, rfl, _, c2⟩ := HB.out.2.2.2.resolve_left (by omega)
      have t1 := c1 k hlt
      have t2 := c2 k hlt
      clear c1 c2
      have t3 : wr.cell? ⟨b1, o1 + k, none⟩ = some (.int .u64 (ws[k]?.getD 0 : Nat)) := by rw [hw.out]; exact t1
      have t4 : wr.cell? ⟨b2, o2 + k, none⟩ = some (.int .u64 (ws[k]?.getD 0 : Nat)) := by rw [hw.out]; exact t2
      clear t1 t2
      have h3 : (k : Int) < (len : Int) := by omega
      go_wp2_with fail
      go_quiet (fail)
      go_wp2_with fail
      go_roundw
      case rel => exact ⟨k + 1, m + nq, by omega, by go_num, by rw [hw.out]; exact drewN_add _ _ _⟩
      case measure => simp [intOf]; omega
    · obtain rfl : k = len := by omega
      have h3 : ¬ (k : Int) < (k : Int) := by omega
      go_wp2_with fail
      go_ret
      exact ⟨rfl, _, hw.out⟩
end Go.Proofs.Ytonjaghkiaaipaa.OldB
namespace Go.Proofs.Ytonjaghkiaaipaa.OldB
open Go.ChangeShapes Go.WideShapes Go.ChangeAt Go.RowKit Go.Shelf
set_option linter.unusedVariables false

def notDefer (o : Oper) : Bool := match o.op with
  | .defer _ => false
  | _ => true
theorem notDefer_spec {o : Oper} (h : notDefer o = true) (c) : o.op ≠ .defer c := by
  intro e
  unfold notDefer at h
  rw [e] at h
  cases h

section
variable {P : Program} {ops : Array Oper} {md : Region.Mode} {w : World}

theorem wpIn_of_still {l₀ n : Nat} {o : Oper} {a : Act} {K : Act → Prop} {K' : Act → World → Prop} {Q' : Exit → Act → World → Prop} (hd : notDefer o = true) (h : ∀ a, K a → K' a w) (hh : o.still P a w K) : o.wpIn (Fence.wide.inRound l₀) n P a w K' Q' := by
  unfold Oper.still at hh
  unfold Oper.wpIn
  refine ⟨fun _ _ => trivial, ?_⟩
  rw [Oper.semAt_eq _ _ _ (notDefer_spec hd)]
  generalize (execOp a.eval o).run P w = r at *
  cases r with
  | ok n w' =>
    cases n <;> simp only [Oper.stillUpon] at hh <;> simp only [Oper.uponIn]
    case enter f args =>
      obtain ⟨rfl, v, hc, hn⟩ := hh
      exact ⟨fun h => by simp [Fence.inRound, Fence.wide] at h, (CallsIn.inRound l₀ (callsIn_wide.2 hc)).mono fun e w'' ⟨he, hw⟩ => by subst he; subst hw; exact h _ hn⟩
    all_goals (obtain ⟨rfl, h2⟩ := hh; exact h _ h2)
  | halt x w' => simp only [Oper.stillUpon] at hh

theorem wpOpIn_of_stOp {l₀ n : Nat} {i : Nat} {a : Act} {K : Act → Prop} {K' : Act → World → Prop} {Q' : Exit → Act → World → Prop} (hd : ∀ o, ops[i]? = some o → notDefer o = true) (h : ∀ a, K a → K' a w) (hh : stOp P ops w i K a) : wpOpIn (Fence.wide.inRound l₀) n P ops Q' i K' a w := by
  unfold stOp at hh
  unfold wpOpIn
  split
  · rename_i ho; simp only [ho] at hh; exact h _ hh
  · rename_i o ho
    simp only [ho] at hh
    split
    · rename_i hw; simp only [hw, if_true] at hh; exact wpIn_of_still (hd _ ho) h hh
    · rename_i hw; simp only [hw] at hh; exact ⟨fun _ _ => trivial, h _ hh⟩

theorem wpAnyIn_of_head {l₀ m n g : Nat} {L : Array Bool → Act → Prop} {Q' : Exit → Act → World → Prop} (hd : ∀ (i : Nat) (o : Oper), ops[i]? = some o → notDefer o = true) (hL : ∀ listed a, L listed a → wpAnyIn (Fence.wide.inRound l₀) m P md ops Q' g listed a w) :
    ∀ (f : Nat) (listed : Array Bool) (a : Act), wpAnyL P md ops w n L f listed a → wpAnyIn (Fence.wide.inRound l₀) m P md ops Q' (f + g) listed a w
  | 0, listed, a, h => by rw [Nat.zero_add]; exact hL _ _ h
  | f + 1, listed, a, h => by
    rw [show f + 1 + g = (f + g) + 1 by omega]
    exact ⟨fun h0 => absurd h0 h.1, fun i hi => wpOpIn_of_stOp (hd i) (fun a' h' => wpAnyIn_of_head hd hL f _ a' h') (h.2 i hi).2⟩

theorem wpAnyIn_of_seq {F : Fence} {m : Nat} {Q' : Exit → Act → World → Prop} : ∀ (l : List Oper) (k : Nat) (listed : Array Bool) (a : Act) (w : World), (∀ j, l[j]? = ops[k + j]?) →
    Region.seqB md ops l.length k listed = true → wpListIn F m P ops Q' l a w → wpAnyIn F m P md ops Q' l.length listed a w
  | [], _, _, _, _, _, hB, h => ⟨by simpa [Region.seqB] using hB, h⟩
  | o :: l, k, listed, a, w, hl, hB, h => by
    have h0 : ops[k]? = some o := by simpa using (hl 0).symm
    simp only [List.length_cons, Region.seqB, Bool.and_eq_true, decide_eq_true_eq] at hB
    refine ⟨fun h1 => (by rw [hB.1] at h1; cases h1), fun i hi => ?_⟩
    rw [hB.1] at hi
    have hik : i = k := by simpa using hi
    subst hik
    have hw : wpOpIn F m P ops Q' i (wpListIn F m P ops Q' l) a w := by unfold wpOpIn; simp only [h0]; exact h
    exact wpOpIn_mono (fun a' w' h' => wpAnyIn_of_seq l (i + 1) _ a' w' (fun j => by have := hl (j + 1); simpa [Nat.add_assoc, Nat.add_comm 1 j] using this) hB.2 h') hw

theorem wpIn_region_still_tail {l₀ m : Nat} {id : Nat} {Q : Exit → Act → World → Prop} {a : Act} {w : World} {l : List Oper} (n : Nat) (hm : P.follows .mixedOrders = true) (hB : Region.lexTailB .any l.toArray n = true) (hd : l.all notDefer = true)
    (h : wpStill P l.toArray { w with drawn := w.drawn + 1 } (fun a' => wpListIn (Fence.wide.inRound l₀) m P l.toArray Q (l.drop n) a' { w with drawn := w.drawn + 1 }) (l.take n) a) : (Code.region id l.toArray true).wpIn (Fence.wide.inRound l₀) m P Q a w := by
  simp only [Region.lexTailB, Bool.and_eq_true, decide_eq_true_eq] at hB
  obtain ⟨⟨⟨⟨hsel, hn⟩, hs⟩, hc⟩, hlex⟩ := hB
  have hn' : n < l.length := by simpa using hn
  have htl : (l.take n).length = n := by simp; omega
  have hdl : (l.drop n).length = l.toArray.size - n := by simp
  have inv0 : HeadInv .any l.toArray n (Array.replicate l.toArray.size false) :=
    ⟨by simp, fun j oj _ hl => (by rw [getD_replicate_false] at hl; cases hl), fun t _ ht => getD_in (by simpa using ht) (getD_replicate_false _ _)⟩
  have H := wpAnyL_lex (md := .any) (g := l.toArray.size - n) hsel hs hc hn (l.take n) 0 _ a (fun j hj => by
    have hj' : j < n := by rw [htl] at hj; exact hj
    simp [hj']) (by simpa using htl) inv0 (by rw [htl]; exact hlex) h
  have hd' : ∀ (i : Nat) (o : Oper), l.toArray[i]? = some o → notDefer o = true := fun i o ho => List.all_eq_true.1 hd o (List.mem_of_getElem? (i := i) (by simpa using ho))
  refine wpIn_region_any hm ?_
  have := wpAnyIn_of_head (Q' := Q) (l₀ := l₀) (m := m) (g := l.toArray.size - n) hd' (fun listed a' hL => by
    have := wpAnyIn_of_seq (F := Fence.wide.inRound l₀) (m := m) (md := .any) (Q' := Q) (l.drop n) n listed a' { w with drawn := w.drawn + 1 } (fun j => by simp [List.getElem?_drop]) (by rw [hdl]; exact hL.1) hL.2
    rwa [hdl] at this) _ _ _ H
  rw [htl, show n + (l.toArray.size - n) = l.toArray.size by omega] at this
  exact this
end
end Go.Proofs.Ytonjaghkiaaipaa.OldB
namespace Go.Proofs.Ytonjaghkiaaipaa.OldB
open Go.ChangeShapes Go.WideShapes Go.ChangeAt Go.RowKit Go.Shelf
set_option linter.unusedVariables false
set_option linter.unusedSimpArgs false
attribute [local go_sem] Oper.semAt_some

theorem mask_is (lo b : Int) (h1 : 1 ≤ b) (h2 : b ≤ 64) (w : World) :
    Calls Try.prog 59 #[.agg #[.int .i64 lo, .int .i64 b]] w fun e w' => e = .returned (.int .u64 ((2 ^ b.toNat - 1 : Nat) : Int)) ∧ w' = w.alloc (.cells #[.int .i64 lo, .int .i64 b] 87) := by
  have hm := hid (show (18446744073709551615 : Int) / 2 ^ (64 - b).toNat = ((2 ^ b.toNat - 1 : Nat) : Int) by
    have := mask_num b.toNat (by omega)
    rwa [show 64 - b.toNat = (64 - b).toNat by omega] at this)
  go_enter Try.func59, Try.ntmps59
  go_wp2_with fail
  rw [hm.out]
  go_ret
  exact ⟨rfl, rfl⟩

/-- a block of two cells -/
def Pair (W : World) (B : Nat) (x y : Int) : Prop := W.heap[B]? = some (.cells #[.int .i64 x, .int .i64 y] 87 (0, 0))
theorem pair_own (B : Nat) (x y : Int) : Own (fun (_ : Unit) W => Pair W B x y) := fun s X Y row hs hg hrow =>
  (hg.block B (Array.getElem?_eq_some_iff.1 hs).1 (fun e' => by obtain ⟨o, ho, hc⟩ := hrow B e'.symm; rw [show X.heap[B]? = _ from hs] at ho; cases ho; cases hc)).trans hs
theorem Pair.lt {W : World} {B : Nat} {x y : Int} (h : Pair W B x y) : B < W.heap.size := (Array.getElem?_eq_some_iff.1 h).1
theorem Pair.alloc {W : World} {B : Nat} {x y : Int} (h : Pair W B x y) (o : Obj) : Pair (W.alloc o) B x y := (Below.heap_alloc W o B h.lt).trans h
theorem Pair.c0 {W : World} {B : Nat} {x y : Int} (h : Pair W B x y) : W.cell? ⟨B, 0, none⟩ = some (.int .i64 x) := by simp [World.cell?, show W.heap[B]? = _ from h]
theorem Pair.c1 {W : World} {B : Nat} {x y : Int} (h : Pair W B x y) : W.cell? ⟨B, 1, none⟩ = some (.int .i64 y) := by simp [World.cell?, show W.heap[B]? = _ from h]

/-- the word of fields that came -/
def fwl {len : Nat} (zs : List Int) (vs : List Nat) (l : List (Ix len)) : Nat := l.foldl (fun r x => r ||| ((vs[x.1]?.getD 0) <<< (sw zs x.1).toNat)) 0
theorem fwl_snoc {len : Nat} (zs : List Int) (vs : List Nat) (l : List (Ix len)) (x : Ix len) : fwl zs vs (l ++ [x]) = fwl zs vs l ||| ((vs[x.1]?.getD 0) <<< (sw zs x.1).toNat) := by simp [fwl]
theorem fwl_firsts (zs : List Int) (vs : List Nat) (len k : Nat) (h : k ≤ len) : fwl zs vs (firsts len k h) = fw zs vs k := by
  induction k with
  | zero => rfl
  | succ k ih => rw [firsts, fwl_snoc, ih, fw]
theorem mem_firsts (len k : Nat) (h : k ≤ len) (j : Nat) (hj : j < len) (hk : j < k) : (⟨j, hj⟩ : Ix len) ∈ firsts len k h := by
  induction k with
  | zero => omega
  | succ k ih =>
    rw [firsts]
    by_cases e : j = k
    · subst e; exact List.mem_append.2 (.inr (by simp))
    · exact List.mem_append.2 (.inl (ih (by omega) (by omega)))
theorem sw_up (zs : List Int) (len k : Nat) (h : k ≤ len) (hz : ∀ j, j < len → fit zs j) (i : Nat) (hi : i < k) : sw zs i + zs[i]?.getD 0 ≤ 64 := by
  have h1 := sw_bd zs (i + 1) (fun j hj => hz j (by omega))
  have h2 : sw zs (i + 1) = sw zs i + zs[i]?.getD 0 := rfl
  omega
theorem shl_lt (v : Nat) (s z : Int) (h0 : 0 ≤ s) (h1 : 1 ≤ z) (h2 : s + z ≤ 64) (hv : v < 2 ^ z.toNat) : v <<< s.toNat < 2 ^ 64 := by
  rw [Nat.shiftLeft_eq]
  have h4 : v * 2 ^ s.toNat < 2 ^ z.toNat * 2 ^ s.toNat := Nat.mul_lt_mul_of_pos_right hv (Nat.two_pow_pos _)
  rw [← Nat.pow_add] at h4
  exact Nat.lt_of_lt_of_le h4 (Nat.pow_le_pow_right (by omega) (by omega))
theorem fwl_lt {len : Nat} (zs : List Int) (vs : List Nat) (hz : ∀ j, j < len → fit zs j) (l : List (Ix len)) (h : ∀ x ∈ l, vfit zs vs x.1) : fwl zs vs l < 2 ^ 64 := by
  have H : ∀ (l : List (Ix len)) (r : Nat), r < 2 ^ 64 → (∀ x ∈ l, vfit zs vs x.1) → l.foldl (fun r x => r ||| ((vs[x.1]?.getD 0) <<< (sw zs x.1).toNat)) r < 2 ^ 64 := by
    intro l
    induction l with
    | nil => intro r hr _; exact hr
    | cons x l ih =>
      intro r hr hl
      refine ih _ (Nat.or_lt_two_pow hr ?_) (fun y hy => hl y (List.mem_cons_of_mem _ hy))
      have h1 := sw_bd zs x.1 (fun j hj => hz j (by have := x.2; omega))
      have h2 := sw_up zs len (x.1 + 1) x.2 hz x.1 (by omega)
      have h3 := hz x.1 x.2
      unfold fit at h3
      exact shl_lt _ _ _ h1.1 h3.1 h2 (hl x (List.mem_cons_self ..))
  exact H l 0 (by decide) h

theorem after_mask1 (W : World) (o : Obj) : KeepsOthers W (W.drew.alloc o) := (KeepsOthers.drew W).trans (KeepsOthers.alloc _ _)
theorem after_mask2 (n₀ : Nat) (W : World) (o : Obj) (h : n₀ ≤ W.heap.size) : Below n₀ W (W.drew.alloc o) := ((Below.refl n₀ W).drew).alloc h _
theorem or_shl (x v : Nat) (s : Int) (hx : x < 2 ^ 64) (hv : v <<< s.toNat < 2 ^ 64) : bits .or .u64 (x : Int) (IntKind.u64.wrap ((v : Int) * 2 ^ s.toNat)) = ((x ||| (v <<< s.toNat) : Nat) : Int) := by
  have e : (v : Int) * 2 ^ s.toNat = ((v <<< s.toNat : Nat) : Int) := by rw [Nat.shiftLeft_eq, Int.natCast_mul, Int.natCast_pow]; rfl
  rw [e]
  generalize v <<< s.toNat = y at hv
  have e2 : IntKind.u64.wrap (y : Int) = (y : Int) := by simp [IntKind.wrap, IntKind.bits, IntKind.signed]; omega
  rw [e2, u64_or_nat _ _ hx hv]

/-- what is left behind each way through a region, proved once -/
structure Kept (p : Prop) : Prop where
  out : p
theorem share {A : Prop} (G : Prop) (k : Kept G → A) (pf : Kept G) : A := k pf

set_option maxRecDepth 100000 in
set_option maxHeartbeats 2000000 in
theorem fields_all (a b : Option Addr) (len cap cap2 : Nat) (zs : List Int) (vs : List Nat) (hbig : len ≤ 9223372036854775807) (hz : ∀ j, j < len → fit zs j) (w : World) (hI : Wi w.heap.size w a len zs) (hV : Va w.heap.size w b len vs) :
    Calls Try.prog 45 #[.slice a len cap, .slice b len cap2] w fun e w' => (((∀ j, j < len → vfit zs vs j) ∧ e = .returned (.tuple #[.int .u64 (fw zs vs len : Nat), .int .i64 0])) ∨ ((¬ ∀ j, j < len → vfit zs vs j) ∧ e = .returned (.tuple #[.int .u64 0, .int .i64 1]))) ∧ Below w.heap.size w w' := by
  have HI := hid hI
  have HV := hid hV
  have HZ := hid hz
  clear hI hV hz
  refine (callsIn_wide (n := 5)).1 (callsIn_of_wp_marks Try.func45 rfl trivial ?_ rfl)
  simp only [Try.ntmps45, List.size_toArray, List.length_cons, List.length_nil, Nat.reduceAdd, Nat.reduceSub, Array.replicate_succ, Array.replicate_zero, List.push_toArray, List.append_toArray, List.nil_append, List.cons_append]
  refine wpIn_wide.2 ?_
  go_wp2_with fail
  obtain ⟨wC, hwC⟩ : ∃ wC, wC = ((w.alloc (Obj.cells #[Value.slice b len cap2] 30)).alloc (Obj.cells #[Value.int IntKind.u64 0] 38)).alloc (Obj.cells #[Value.int IntKind.i64 0] 31) := ⟨_, rfl⟩
  rw [← hwC]
  have b1 := (((Boxed.new w 30 (.slice b len cap2)).alloc (.cells #[.int .u64 0] 38)).alloc (.cells #[.int .i64 0] 31))
  have b2 := (Boxed.new (w.alloc (.cells #[.slice b len cap2] 30)) 38 (.int .u64 0)).alloc (.cells #[.int .i64 0] 31)
  have b3 := Boxed.new ((w.alloc (.cells #[.slice b len cap2] 30)).alloc (.cells #[.int .u64 0] 38)) 31 (.int .i64 0)
  simp only [World.size_alloc] at b2 b3
  have hB0 : Below w.heap.size w wC := by rw [hwC]; exact (((Below.refl _ w).alloc (Nat.le_refl _) _).alloc (by simp) _).alloc (by simp; omega) _
  have hsz : wC.heap.size = w.heap.size + 3 := by rw [hwC]; simp
  rw [← hwC] at b1 b2 b3
  have HsC := hid hsz
  have B1 := hid b1; have B2 := hid b2; have B3 := hid b3; have HB0 := hid hB0
  clear hwC hsz b1 b2 b3 hB0
  refine (chk_ok a len cap zs w.heap.size wC hbig (HI.out.below HB0.out) HZ.out).mono ?_
  rintro e w1 ⟨rfl, rfl⟩
  go_wp2_with fail
  have c1 := B1.out.alloc (.cells #[.int .u64 0] 38)
  have c2 := B2.out.alloc (.cells #[.int .u64 0] 38)
  have c3 := B3.out.alloc (.cells #[.int .u64 0] 38)
  have c4 := Boxed.new wC 38 (.int .u64 0)
  rw [HsC.out] at c4
  have hB1 := hid (HB0.out.alloc (by rw [HsC.out]; omega) (.cells #[.int .u64 0] 38))
  have hs1 := hid (show (wC.alloc (.cells #[.int .u64 0] 38)).heap.size = w.heap.size + 4 by rw [World.size_alloc, HsC.out])
  rw [HsC.out]
  have C1 := hid c1; have C2 := hid c2; have C3 := hid c3; have C4 := hid c4
  clear c1 c2 c3 c4 B1 B2 B3 HB0 HsC
  generalize wC.alloc (.cells #[.int .u64 0] 38) = wD at *
  refine ((callsIn_wide (n := 4)).1 (fields_in Fence.wide 4 trivial rfl a len cap _)).mono ?_
  rintro e w' ⟨rfl, rfl⟩
  go_wp2_with fail
  rw [hs1.out]
  have d1 := C1.out.alloc (.cells #[.slice a len cap] 22)
  have d2 := C2.out.alloc (.cells #[.slice a len cap] 22)
  have d3 := C3.out.alloc (.cells #[.slice a len cap] 22)
  have d4 := C4.out.alloc (.cells #[.slice a len cap] 22)
  have d5 := Boxed.new wD 22 (.slice a len cap)
  rw [hs1.out] at d5
  have hB2 := hB1.out.alloc (by rw [hs1.out]; omega) (.cells #[.slice a len cap] 22)
  have hs2 : (wD.alloc (.cells #[.slice a len cap] 22)).heap.size = w.heap.size + 5 := by rw [World.size_alloc, hs1.out]
  clear C1 C2 C3 C4 hB1 hs1
  generalize wD.alloc (.cells #[.slice a len cap] 22) = wS at *
  refine (wpIn_wide (n := 5)).1 ?_
  refine wpIn_rangeFunc_ownH (F := Fence.wide) (n := 5) rfl (by omega) (gf := 64) (lb := #[.pointer (some ⟨w.heap.size + 4, 0, none⟩)]) rfl trivial (enters_of Try.func64 (by kernel_rfl) rfl)
    (fields_stops Fence.wide 4 trivial rfl (by omega) (w.heap.size + 4) w.heap.size a len cap zs hbig HZ.out wS (by omega) (by omega) d5.cell (HI.out.below hB2)) belowK_t (belowK_b (by omega)) (Below.refl _ _) (fun _ => rfl)
    (fun pre W => (((((∀ x ∈ pre, vfit zs vs x.1) ∧ Boxed W (w.heap.size + 3) 38 (.int .u64 (fwl zs vs pre : Nat))) ∧ Boxed W w.heap.size 30 (.slice b len cap2)) ∧ Boxed W (w.heap.size + 1) 38 (.int .u64 0)) ∧ Boxed W (w.heap.size + 2) 31 (.int .i64 0)) ∧ Below w.heap.size w W)
    (fun c pre W => (((c = .ret ∧ ∃ x ∈ pre, ¬ vfit zs vs x.1) ∧ Boxed W (w.heap.size + 1) 38 (.int .u64 0)) ∧ Boxed W (w.heap.size + 2) 31 (.int .i64 1)) ∧ Below w.heap.size w W)
    (OwnFrom.and (OwnFrom.and (OwnFrom.and (OwnFrom.and (OwnFrom.and (ownFrom_pure _ _) (Own.from (boxed_own _ _ _) _)) (Own.from (boxed_own _ _ _) _)) (Own.from (boxed_own _ _ _) _)) (Own.from (boxed_own _ _ _) _)) (ownFrom_below (Nat.le_refl _) (by omega)))
    (fun c => OwnFrom.and (OwnFrom.and (OwnFrom.and (ownFrom_pure _ _) (Own.from (boxed_own _ _ _) _)) (Own.from (boxed_own _ _ _) _)) (ownFrom_below (Nat.le_refl _) (by omega)))
    ⟨⟨⟨⟨⟨by simp, d4⟩, d1⟩, d2⟩, d3⟩, hB2⟩
    (fun x a' W => ∃ Bx, w.heap.size + 3 < Bx ∧ Pair W Bx (sw zs x.1) (zs[x.1]?.getD 0) ∧ a' = { tmps := #[.slice a len cap, .slice b len cap2, undef, .pointer (some ⟨w.heap.size, 0, none⟩), .pointer (some ⟨w.heap.size + 1, 0, none⟩), .pointer (some ⟨w.heap.size + 1 + 1, 0, none⟩), .int .i64 0, .pointer (some ⟨w.heap.size + 3, 0, none⟩), .int .i64 (x.1 : Int), .pointer (some ⟨Bx, 0, none⟩), .slice a len cap, .int .i64 len, .slice b len cap2, .int .i64 len, .bool false, .slice a len cap, .int .i64 0, .int .i64 0, .bool false, undef, .slice a len cap, .func (.func 64) #[] #[.pointer (some ⟨w.heap.size + 4, 0, none⟩)], .int .i64 (x.1 : Int), .agg #[.int .i64 (sw zs x.1), .int .i64 (zs[x.1]?.getD 0)], undef, undef, undef, undef, undef, undef, undef, undef, undef, undef, undef, undef, undef, undef, undef, undef, undef], defers := [] })
    (fun x a' _ X Y row hs hg hr => by obtain ⟨Bx, h1, h2, h3⟩ := hs; exact ⟨Bx, h1, pair_own Bx _ _ () X Y row h2 hg (fun r e => (hr r e).2), h3⟩)
    ?assign ?body ?done ?stop
  case assign =>
    rintro l pre x W K ⟨⟨⟨⟨⟨hp, e4⟩, e1⟩, e2⟩, e3⟩, eB⟩ hK
    have es := e4.lt
    gi_wp2
    exact hK _ _ ((KeepsOthers.alloc _ _).from _) ((Below.refl _ W).alloc eB.size _) ⟨⟨⟨⟨⟨hp, e4.alloc _⟩, e1.alloc _⟩, e2.alloc _⟩, e3.alloc _⟩, eB.alloc eB.size _⟩ ⟨W.heap.size, es, World.alloc_heap_new W _, rfl⟩
  case body =>
    rintro l pre x a' W hl ⟨r, hr⟩ ⟨⟨⟨⟨⟨hp, e4⟩, e1⟩, e2⟩, e3⟩, eB⟩ ⟨Bx, hBx, eX, rfl⟩ hlt
    have hx := x.2
    have hfit := HZ.out x.1 hx
    unfold fit at hfit
    obtain ⟨f1, f2⟩ := hfit
    obtain ⟨s1, s2⟩ := sw_bd zs x.1 (fun j hj => HZ.out j (by omega))
    have HF := hid (fwl_lt zs vs HZ.out pre hp)
    obtain ⟨v1, v2⟩ := HV.out
    have hv := v1 x.1 hx
    obtain ⟨bb, off, rfl, hbb, hcv⟩ := v2.resolve_left (by omega)
    have cV := (eB.cell (p := ⟨bb, off + x.1, none⟩) hbb).trans (hcv x.1 hx)
    clear v1 v2 hcv
    have c1 := e1.cell
    have c4 := e4.cell
    have g4 := e4.frozen
    have cX0 := eX.c0
    have cX1 := eX.c1
    have hx2 : (x.1 : Int) < (len : Int) := by omega
    have hx3 : (0 : Int) ≤ (x.1 : Int) := by omega
    have HSN := hid (fwl_snoc zs vs pre x)
    have HM := hid (mask_is (sw zs x.1) (zs[x.1]?.getD 0) f1 (by omega))
    have h1' : 1 ≤ 5 - 1 - 1 := by omega
    have hmx : Try.prog.follows .mixedOrders = true := by kernel_rfl
    obtain ⟨wM, hwM⟩ : ∃ wM, wM = W.drew.alloc (.cells #[.int .i64 (sw zs x.1), .int .i64 (zs[x.1]?.getD 0)] 87) := ⟨_, rfl⟩
    have m1 : wM.cell? ⟨w.heap.size, 0, none⟩ = some (.slice (some ⟨bb, off, none⟩) len cap2) := by rw [hwM]; exact (Boxed.alloc (W := W.drew) e1 _).cell
    have m2 : wM.cell? ⟨bb, off + x.1, none⟩ = some (.int .u64 (vs[x.1]?.getD 0 : Nat)) := by rw [hwM]; exact (World.cell?_alloc_old W.drew _ ⟨bb, off + x.1, none⟩ (Nat.ne_of_lt (Nat.lt_of_lt_of_le hbb eB.size))).trans cV
    have m3 : wM.cell? ⟨Bx, 0, none⟩ = some (.int .i64 (sw zs x.1)) := by rw [hwM]; exact (Pair.alloc (W := W.drew) eX _).c0
    have m4 : wM.cell? ⟨Bx, 1, none⟩ = some (.int .i64 (zs[x.1]?.getD 0)) := by rw [hwM]; exact (Pair.alloc (W := W.drew) eX _).c1
    have HwM := hid hwM
    clear hwM
    have HM2 := hid ((HM.out W.drew).mono (R' := fun e w' => e = .returned (.int .u64 ((2 ^ (zs[x.1]?.getD 0).toNat - 1 : Nat) : Int)) ∧ wM = w') (fun e w' ⟨h1, h2⟩ => ⟨h1, HwM.out.trans h2.symm⟩))
    clear HM
    have n4 : wM.cell? ⟨w.heap.size + 3, 0, none⟩ = some (.int .u64 (fwl zs vs pre : Nat)) := by rw [HwM.out]; exact (Boxed.alloc (W := W.drew) e4 _).cell
    have n5 : wM.frozen? ⟨w.heap.size + 3, 0, none⟩ = false := by rw [HwM.out]; exact (Boxed.alloc (W := W.drew) e4 _).frozen
    have n6 : wM.cell? ⟨w.heap.size + 1, 0, none⟩ = some (.int .u64 0) := by rw [HwM.out]; exact (Boxed.alloc (W := W.drew) e2 _).cell
    have n7 : wM.frozen? ⟨w.heap.size + 1, 0, none⟩ = false := by rw [HwM.out]; exact (Boxed.alloc (W := W.drew) e2 _).frozen
    have n8 : wM.cell? ⟨w.heap.size + 2, 0, none⟩ = some (.int .i64 0) := by rw [HwM.out]; exact (Boxed.alloc (W := W.drew) e3 _).cell
    have n9 : wM.frozen? ⟨w.heap.size + 2, 0, none⟩ = false := by rw [HwM.out]; exact (Boxed.alloc (W := W.drew) e3 _).frozen
    have KM := hid (after_mask1 W (.cells #[.int .i64 (sw zs x.1), .int .i64 (zs[x.1]?.getD 0)] 87))
    have BM := hid (after_mask2 w.heap.size W (.cells #[.int .i64 (sw zs x.1), .int .i64 (zs[x.1]?.getD 0)] 87) eB.size)
    have M1 := hid (Boxed.alloc (W := W.drew) e1 (.cells #[.int .i64 (sw zs x.1), .int .i64 (zs[x.1]?.getD 0)] 87))
    have M2 := hid (Boxed.alloc (W := W.drew) e2 (.cells #[.int .i64 (sw zs x.1), .int .i64 (zs[x.1]?.getD 0)] 87))
    have M3 := hid (Boxed.alloc (W := W.drew) e3 (.cells #[.int .i64 (sw zs x.1), .int .i64 (zs[x.1]?.getD 0)] 87))
    have M4 := hid (Boxed.alloc (W := W.drew) e4 (.cells #[.int .i64 (sw zs x.1), .int .i64 (zs[x.1]?.getD 0)] 87))
    rw [← HwM.out] at KM BM M1 M2 M3 M4
    have EB := hid eB
    have HP := hid hp
    gi_wp2
    apply share
    case k =>
      intro key
      gi_region_with_o (refine ⟨trivial, ?_⟩; gi_at_call 59; refine (CallsIn.inRound l (callsIn_wide.2 HM2.out)).mono ?_; rintro e w' ⟨rfl, rfl⟩)
      all_goals exact key.out
    case pf =>
      refine ⟨?_⟩
      clear HM2 c1 cV cX0 cX1 c4 g4 hp eB e1 e2 e3 e4 eX HwM
      by_cases hfv : vs[x.1]?.getD 0 < 2 ^ (zs[x.1]?.getD 0).toNat
      · have hd : decide (2 ^ (zs[x.1]?.getD 0).toNat - 1 < vs[x.1]?.getD 0) = false := by simp; omega
        have HS := hid (shl_lt (vs[x.1]?.getD 0) (sw zs x.1) (zs[x.1]?.getD 0) s1 f1 (by omega) hfv)
        have w1 := or_shl (fwl zs vs pre) (vs[x.1]?.getD 0) (sw zs x.1) HF.out HS.out
        rw [hd]
        have HX := hid (M4.out.set (.int .u64 (fwl zs vs pre ||| (vs[x.1]?.getD 0) <<< (sw zs x.1).toNat : Nat)))
        have HX1 := hid (M1.out.other (by omega) (B' := w.heap.size + 3) (.int .u64 (fwl zs vs pre ||| (vs[x.1]?.getD 0) <<< (sw zs x.1).toNat : Nat)))
        have HX2 := hid (M2.out.other (by omega) (B' := w.heap.size + 3) (.int .u64 (fwl zs vs pre ||| (vs[x.1]?.getD 0) <<< (sw zs x.1).toNat : Nat)))
        have HX3 := hid (M3.out.other (by omega) (B' := w.heap.size + 3) (.int .u64 (fwl zs vs pre ||| (vs[x.1]?.getD 0) <<< (sw zs x.1).toNat : Nat)))
        have HX4 := hid (((KM.out.trans (KeepsOthers.setCell wM ⟨w.heap.size + 3, 0, none⟩ (.int .u64 (fwl zs vs pre ||| (vs[x.1]?.getD 0) <<< (sw zs x.1).toNat : Nat)))).trans (KeepsOthers.drew _)).from wS.heap.size)
        have HX5 := hid ((BM.out.setCell (p := ⟨w.heap.size + 3, 0, none⟩) (by simp) (.int .u64 (fwl zs vs pre ||| (vs[x.1]?.getD 0) <<< (sw zs x.1).toNat : Nat))).drew)
        have HX6 := hid (show ∀ y ∈ pre ++ [x], vfit zs vs y.1 from fun y hy => (List.mem_append.1 hy).elim (HP.out y) (fun h => by rw [List.mem_singleton.1 h]; exact hfv))
        rw [← HSN.out] at HX HX1 HX2 HX3 HX4 HX5
        clear hfv
        gi_wp2
        refine wpIn_region_still_tail 9 hmx (by kernel_rfl) (by kernel_rfl) ?_
        simp only [List.take_succ_cons, List.take_zero, List.drop_succ_cons, List.drop_zero]
        repeat still_step
        refine wpStill_nil ?_
        rw [← HSN.out]
        change wpListIn _ _ _ _ _ _ _ wM.drew
        gi_wp2
        exact ⟨HX4.out, HX5.out, ⟨⟨⟨⟨HX6.out, HX.out⟩, HX1.out⟩, HX2.out⟩, HX3.out⟩, EB.out.trans HX5.out⟩
      · have hd : decide (2 ^ (zs[x.1]?.getD 0).toNat - 1 < vs[x.1]?.getD 0) = true := by
          have := Nat.two_pow_pos (zs[x.1]?.getD 0).toNat
          simp; omega
        rw [hd]
        gi_wp2
        have hB9 := (BM.out.setCell (p := ⟨w.heap.size + 1, 0, none⟩) (by simp) (.int .u64 0)).setCell (p := ⟨w.heap.size + 1 + 1, 0, none⟩) (by show _ ≤ w.heap.size + 1 + 1; omega) (.int .i64 1)
        exact ⟨((KM.out.trans (KeepsOthers.setCell wM _ _)).trans (KeepsOthers.setCell _ _ _)).from _, ⟨⟨⟨rfl, x, by simp, hfv⟩, (M2.out.set (.int .u64 0)).other (by omega) _⟩, (M3.out.other (by omega) _).set _⟩, EB.out.trans hB9⟩
  case done =>
    rintro D ys W hD rfl ⟨⟨⟨⟨⟨hp, e4⟩, e1⟩, e2⟩, e3⟩, eB⟩ hK
    have HP := hid hp
    have HK := hid hK
    have EB := hid eB
    have c4 := e4.cell
    have c2 := e2.cell
    have g2 := e2.frozen
    have c3 := e3.cell
    have g3 := e3.frozen
    have E2 := hid e2
    have E3 := hid e3
    clear hp hK eB e1 e2 e3 e4
    have HF := hid (fwl_firsts zs vs len len (Nat.le_refl _))
    rw [HF.out] at c4
    go_wp2_with fail
    have f1 := (E2.out.set (.int .u64 (fw zs vs len : Nat))).other (B' := w.heap.size + 2) (by omega) (.int .i64 0)
    have f2 := ((E3.out.other (B' := w.heap.size + 1) (by omega) (.int .u64 (fw zs vs len : Nat))).set (.int .i64 0))
    have hK' := (KeepsOthers.setCell (W.setCell ⟨w.heap.size + 1, 0, none⟩ (.int .u64 (fw zs vs len : Nat))) ⟨w.heap.size + 2, 0, none⟩ (.int .i64 0)).same D _ ((KeepsOthers.setCell W ⟨w.heap.size + 1, 0, none⟩ (.int .u64 (fw zs vs len : Nat))).same D _ HK.out rfl) rfl
    have hB9 := (EB.out.setCell (p := ⟨w.heap.size + 1, 0, none⟩) (by simp) (.int .u64 (fw zs vs len : Nat))).setCell (p := ⟨w.heap.size + 2, 0, none⟩) (by simp) (.int .i64 0)
    refine ⟨by simp, .inl ⟨_, _, rfl, run_takeDeferred hK', ?_⟩⟩
    have hc5 := cell_kept f1.cell (grownBy_putObj' _ D (.deferred none)) (fun r e => by cases e; exact ⟨_, hK', rfl⟩)
    have hc6 := cell_kept f2.cell (grownBy_putObj' _ D (.deferred none)) (fun r e => by cases e; exact ⟨_, hK', rfl⟩)
    refine ⟨.tuple #[.int .u64 (fw zs vs len : Nat), .int .i64 0], ?_, .inl ⟨fun j hj => HP.out ⟨j, hj⟩ (mem_firsts len len (Nat.le_refl _) j hj hj), rfl⟩, hB9.trans (belowK_b (w := w) (Nat.le_refl _) _ D _ _ (by omega) hK' rfl rfl)⟩
    simp [results, Try.f45, go_sem, hc5, hc6]
  case stop =>
    rintro D c pre W hD _ ⟨⟨⟨⟨rfl, x, hx, hy⟩, e2⟩, e3⟩, eB⟩ hK
    have HK := hid hK
    have EB := hid eB
    have HY := hid hy
    have E2 := hid e2
    have E3 := hid e3
    clear hK eB hy e2 e3
    refine (wpIn_wide (n := 5)).2 ?_
    go_wp2_with fail
    refine ⟨by simp, .inl ⟨_, _, rfl, run_takeDeferred HK.out, ?_⟩⟩
    have hc5 := cell_kept E2.out.cell (grownBy_putObj' _ D (.deferred none)) (fun r e => by cases e; exact ⟨_, HK.out, rfl⟩)
    have hc6 := cell_kept E3.out.cell (grownBy_putObj' _ D (.deferred none)) (fun r e => by cases e; exact ⟨_, HK.out, rfl⟩)
    refine ⟨.tuple #[.int .u64 0, .int .i64 1], ?_, .inr ⟨fun h => HY.out (h x.1 x.2), rfl⟩, EB.out.trans (belowK_b (w := w) (Nat.le_refl _) _ D _ _ (by omega) HK.out rfl rfl)⟩
    simp [results, Try.f45, go_sem, hc5, hc6]
end Go.Proofs.Ytonjaghkiaaipaa.OldB
namespace Go.Proofs.Ytonjaghkiaaipaa.OldB
open Go.RowKit
set_option linter.unusedVariables false
set_option linter.unusedSimpArgs false

/-- no 'defer' statement -/
def plainOp (o : Oper) : Bool := match o.op with
  | .defer _ => false
  | _ => true
theorem plainOp_spec {o : Oper} (h : plainOp o = true) (c) : o.op ≠ .defer c := by
  intro e
  unfold plainOp at h
  rw [e] at h
  cases h
/-- a wide fence, in a round or not -/
def wideR (ro : Option Nat) : Fence := { Fence.wide with round := ro }

/-- what operation i waits for, with all that those wait for, as a set of bits -/
def maskF (l : List Oper) : Nat → Nat → Nat
  | 0, _ => 0
  | f + 1, i => match l[i]? with
    | none => 0
    | some o => o.after.toList.foldl (fun m e => if Region.binds .any e then (m ||| 2 ^ e.on) ||| maskF l f e.on else m) 0

theorem fold_bit {α : Type} (p : α → Bool) (g h : α → Nat) (j : Nat) : ∀ (es : List α) (m : Nat), (es.foldl (fun m e => if p e then (m ||| 2 ^ g e) ||| h e else m) m).testBit j = true → m.testBit j = true ∨ ∃ e ∈ es, p e = true ∧ (g e = j ∨ (h e).testBit j = true)
  | [], m, H => .inl H
  | e :: es, m, H => by
    rw [List.foldl_cons] at H
    rcases fold_bit p g h j es _ H with h1 | ⟨e', h1, h2⟩
    · by_cases hp : p e = true
      · rw [if_pos hp, Nat.testBit_or, Nat.testBit_or, Nat.testBit_two_pow] at h1
        simp only [Bool.or_eq_true, decide_eq_true_eq] at h1
        rcases h1 with (h1 | h1) | h1
        · exact .inl h1
        · exact .inr ⟨e, List.mem_cons_self .., hp, .inl h1⟩
        · exact .inr ⟨e, List.mem_cons_self .., hp, .inr h1⟩
      · rw [if_neg hp] at h1; exact .inl h1
    · exact .inr ⟨e', List.mem_cons_of_mem _ h1, h2⟩

/-- what is listed has what it waits for listed -/
def Clo (l : List Oper) (L : Array Bool) : Prop := ∀ i o, l[i]? = some o → L.getD i false = true → ∀ e ∈ o.after, Region.binds .any e = true → L.getD e.on false = true
theorem mask_on {l : List Oper} {L : Array Bool} (hc : Clo l L) : ∀ (f i j : Nat), (maskF l f i).testBit j = true → (∀ o, l[i]? = some o → ∀ e ∈ o.after, Region.binds .any e = true → L.getD e.on false = true) → L.getD j false = true
  | 0, i, j, h, _ => by simp [maskF] at h
  | f + 1, i, j, h, hi => by
    unfold maskF at h
    cases ho : l[i]? with
    | none => rw [ho] at h; simp at h
    | some o =>
      rw [ho] at h
      rcases fold_bit _ _ _ j _ _ h with h1 | ⟨e, he, hb, h1⟩
      · simp at h1
      · have hl := hi o ho e (by simpa using he) hb
        rcases h1 with h1 | h1
        · rw [← h1]; exact hl
        · exact mask_on hc f e.on j h1 (fun o' ho' => hc e.on o' ho' hl)
theorem mask_up {l : List Oper} {L : Array Bool} (hc : Clo l L) (f i j : Nat) (h : (maskF l f i).testBit j = true) (hi : L.getD i false = true) : L.getD j false = true :=
  mask_on hc f i j h (fun o ho => hc i o ho hi)

/-- all values put at their places -/
def putAll : List Oper → List Value → Act → Act
  | o :: os, v :: vs, a => putAll os vs (a.put o.dst v)
  | _, _, a => a
theorem put_size (a : Act) (d : Option Tmp) (v : Value) : (a.put d v).tmps.size = a.tmps.size := by cases d <;> simp [Act.put]
theorem put_defers (a : Act) (d : Option Tmp) (v : Value) : (a.put d v).defers = a.defers := by cases d <;> rfl
theorem put_off (a : Act) (d : Option Tmp) (v : Value) (s : Nat) (h : d ≠ some s) : (a.put d v).tmps[s]? = a.tmps[s]? := by
  cases d with
  | none => rfl
  | some d =>
    have : d ≠ s := fun e => h (by rw [e])
    simp [Act.put, Array.getElem?_setIfInBounds, this]
theorem put_at (a : Act) (s : Nat) (v : Value) (h : s < a.tmps.size) : (a.put (some s) v).tmps[s]? = some v := by
  simp [Act.put, Array.getElem?_setIfInBounds, h]
theorem putAll_keeps : ∀ (l : List Oper) (vs : List Value) (a : Act), (putAll l vs a).tmps.size = a.tmps.size ∧ (putAll l vs a).defers = a.defers ∧ ∀ s, (∀ o ∈ l, o.dst ≠ some s) → (putAll l vs a).tmps[s]? = a.tmps[s]?
  | [], _, a => by unfold putAll; exact ⟨rfl, rfl, fun _ _ => rfl⟩
  | o :: os, [], a => by unfold putAll; exact ⟨rfl, rfl, fun _ _ => rfl⟩
  | o :: os, v :: vs, a => by
    unfold putAll
    obtain ⟨h1, h2, h3⟩ := putAll_keeps os vs (a.put o.dst v)
    exact ⟨h1.trans (put_size _ _ _), h2.trans (put_defers _ _ _), fun s hs => (h3 s fun o' ho' => hs o' (List.mem_cons_of_mem _ ho')).trans (put_off _ _ _ _ (hs o (List.mem_cons_self ..)))⟩

/-- the values that a frame has at the places of operations -/
def valsOf (l : List Oper) (aF : Act) : List Value := l.map fun o => match o.dst with
  | some d => aF.tmps.getD d undef
  | none => undef

/-- operation o, at the final frame, leaves that frame, and leads from one world to another -/
def StepP (P : Program) (ops : Array Oper) (aF : Act) (o : Oper) (w w' : World) : Prop :=
  if Region.wanted o (yielded ops aF.tmps) = true then o.wp P aF w (fun a' w'' => a' = aF ∧ w'' = w') (fun _ _ _ => False) else (aF.put o.dst undef = aF ∧ w = w')

/-- operation o, which reads what stood there before the region -/
def StepE (P : Program) (ops : Array Oper) (a0 aF : Act) (o : Oper) (w w' : World) : Prop :=
  Region.wanted o (yielded ops a0.tmps) = true ∧ ∃ v, (execOp a0.eval o).run P w = .ok (.value v) w' ∧ aF.put o.dst v = aF
/-- a step of one of both kinds -/
def StepK (P : Program) (ops : Array Oper) (a0 aF : Act) (early : Bool) (o : Oper) (w w' : World) : Prop :=
  if early then StepE P ops a0 aF o w w' else StepP P ops aF o w w'

/-- how many of the writing operations are listed -/
def phase (sp : List Nat) (L : Array Bool) : Nat := (sp.filter fun i => L.getD i false).length

/-- the check of a plan: the writing operations in their order, and for each operation the worlds in which it may come up -/
def planB (l : List Oper) (size : Nat) (er : List Nat) (sp : List Nat) (ph : List (List (Nat × Nat))) : Bool :=
  (l.all plainOp && Region.noSelect l.toArray) &&
  ((l.all fun o => match o.dst with | some d => decide (d < size) | none => true) &&
  (((List.range l.length).all fun i => match l[i]? with
    | none => true
    | some o => (o.after.toList.all fun e => !Region.binds .any e || decide (e.on < i)) && (o.looksAt l.toArray).all fun s => (List.range l.length).all fun j => (match l[j]? with | some oj => oj.dst != some s | none => true) || (if er.contains i then (maskF l l.length j).testBit i else (maskF l l.length i).testBit j)) &&
  (((List.range (sp.length - 1)).all fun k => (maskF l l.length (sp[k + 1]?.getD 0)).testBit (sp[k]?.getD 0)) &&
  (((List.range sp.length).all fun m => (List.range m).all fun k => sp[k]? != sp[m]?) &&
  ((List.range l.length).all fun i =>
    ((List.range sp.length).all fun k => sp[k]? != some i || (ph[i]?.getD []).contains (k, k + 1)) &&
    (sp.contains i || (List.range (sp.length + 1)).all fun k => decide (k < (sp.filter fun t => (maskF l l.length i).testBit t).length) || decide (sp.length < k + (sp.filter fun t => (maskF l l.length t).testBit i).length) || (ph[i]?.getD []).contains (k, k)))))))

theorem act_ext {a b : Act} (h1 : a.tmps.size = b.tmps.size) (h2 : a.defers = b.defers) (h3 : ∀ s : Nat, a.tmps[s]? = b.tmps[s]?) : a = b := by
  obtain ⟨ta, da⟩ := a
  obtain ⟨tb, db⟩ := b
  simp only at h1 h2 h3
  subst h2
  rw [Array.ext_getElem? h3]

/-- the frame on the way: what is listed has its value -/
structure OnWay (l : List Oper) (a0 aF : Act) (L : Array Bool) (a : Act) : Prop where
  old : ∀ s : Nat, (∀ (j : Nat) (o : Oper), l[j]? = some o → o.dst = some s → L.getD j false = false) → a.tmps[s]? = a0.tmps[s]?
  size : a.tmps.size = aF.tmps.size
  defers : a.defers = aF.defers
  off : ∀ s, (∀ o ∈ l, o.dst ≠ some s) → a.tmps[s]? = aF.tmps[s]?
  on : ∀ s j o, l[j]? = some o → o.dst = some s → L.getD j false = true → a.tmps[s]? = aF.tmps[s]?

theorem getD_set_self {L : Array Bool} {i : Nat} (hi : i < L.size) (b : Bool) : (L.setIfInBounds i true).getD i b = true := by
  simp [Array.getD_eq_getD_getElem?, Array.getElem?_setIfInBounds, hi]
theorem getD_set_other {L : Array Bool} {i j : Nat} (h : i ≠ j) (b : Bool) : (L.setIfInBounds i true).getD j b = L.getD j b := by
  simp [Array.getD_eq_getD_getElem?, Array.getElem?_setIfInBounds, h]

theorem OnWay.step {l : List Oper} {a0 aF : Act} {L : Array Bool} {a : Act} {i : Nat} {o : Oper} {v : Value} (h : OnWay l a0 aF L a) (hL : L.size = l.length) (ho : l[i]? = some o) (hd : ∀ d, o.dst = some d → d < aF.tmps.size) (hv : aF.put o.dst v = aF) : OnWay l a0 aF (L.setIfInBounds i true) (a.put o.dst v) := by
  have hi : i < L.size := by rw [hL]; exact (List.getElem?_eq_some_iff.1 ho).1
  refine ⟨fun s hs => ?_, (put_size _ _ _).trans h.size, (put_defers _ _ _).trans h.defers, fun s hs => ?_, fun s j o' hj hs hl => ?_⟩
  · have e : o.dst ≠ some s := fun e => by
      have := hs i o ho e
      rw [getD_set_self hi] at this
      cases this
    rw [put_off _ _ _ _ e]
    refine h.old s fun j o' hj hd => ?_
    have := hs j o' hj hd
    by_cases e2 : i = j
    · subst e2; rw [getD_set_self hi] at this; cases this
    · rwa [getD_set_other e2] at this
  · rw [put_off _ _ _ _ (hs o (List.mem_of_getElem? ho))]; exact h.off s hs
  · by_cases e : o.dst = some s
    · have h1 := put_at a s v (by rw [h.size]; exact hd s e)
      have h2 := put_at aF s v (hd s e)
      rw [e] at hv ⊢
      rw [h1, ← h2, hv]
    · rw [put_off _ _ _ _ e]
      have hji : i ≠ j := fun hh => by
        subst hh
        rw [ho] at hj
        obtain rfl := Option.some.inj hj
        exact e hs
      rw [getD_set_other hji] at hl
      exact h.on s j o' hj hs hl

theorem tmps_getD {a b : Act} {s : Nat} (h : a.tmps[s]? = b.tmps[s]?) : a.eval (.tmp s) = b.eval (.tmp s) := by
  show a.tmps.getD s undef = b.tmps.getD s undef
  simp only [Array.getD_eq_getD_getElem?, h]
theorem same_exec {P : Program} {ops : Array Oper} {o : Oper} {a aF : Act} (hs : ∀ cs b, o.op ≠ .select cs b) (h : ∀ s ∈ o.looksAt ops, a.tmps[s]? = aF.tmps[s]?) : execOp a.eval o = execOp aF.eval o :=
  execOp_congr o hs fun x hx => by
    cases x with
    | tmp s => exact tmps_getD (h s (List.mem_append_left _ (List.mem_filterMap.2 ⟨.tmp s, by simpa using hx, rfl⟩)))
    | _ => rfl
theorem same_wanted {ops : Array Oper} {o : Oper} {a aF : Act} (h : ∀ s ∈ o.looksAt ops, a.tmps[s]? = aF.tmps[s]?) : Region.wanted o (yielded ops a.tmps) = Region.wanted o (yielded ops aF.tmps) := by
  unfold Region.wanted
  cases hg : o.guard with
  | none => rfl
  | some g =>
    obtain ⟨g, b⟩ := g
    have e : yielded ops a.tmps g = yielded ops aF.tmps g := by
      unfold yielded
      cases hd : (ops[g]?).bind (·.dst) with
      | none => rfl
      | some d =>
        have := h d (List.mem_append_right _ (by rw [hg]; simp [hd]))
        simp only [Option.bind_some, this]
    simp only [e]

theorem step_in {P : Program} {ops : Array Oper} {ro : Option Nat} {n : Nat} {Q : Exit → Act → World → Prop} {i : Nat} {o : Oper} {a aF : Act} {w w' : World} {K : Act → World → Prop} (hd : plainOp o = true) (hs : ∀ cs b, o.op ≠ .select cs b) (ho : ops[i]? = some o) (hl : ∀ s ∈ o.looksAt ops, a.tmps[s]? = aF.tmps[s]?)
    (h : StepP P ops aF o w w') (hK : ∀ v, aF.put o.dst v = aF → K (a.put o.dst v) w') : wpOpIn (wideR ro) n P ops Q i K a w := by
  unfold StepP at h
  unfold wpOpIn
  simp only [ho]
  rw [same_wanted hl]
  split
  · rename_i hw
    rw [if_pos hw] at h
    unfold Oper.wp at h
    refine ⟨fun _ _ => trivial, ?_⟩
    rw [Oper.semAt_eq _ _ _ (plainOp_spec hd), same_exec (P := P) hs hl]
    generalize (execOp aF.eval o).run P w = r at *
    cases r with
    | ok x w1 =>
      cases x <;> simp only [Oper.upon] at h <;> simp only [Oper.uponIn]
      case value v => obtain ⟨h1, rfl⟩ := h; exact hK v h1
      case skip => obtain ⟨h1, rfl⟩ := h; exact hK _ h1
      case defer d =>
        have := congrArg (fun x => x.defers.length) h.1
        simp [put_defers] at this
      case enter f args =>
        refine ⟨fun hh => (by cases hh), ?_⟩
        have hc : CallsIn Fence.wide (n - 1) P f args w1 _ := callsIn_wide.2 h
        refine CallsIn.mono (F := wideR ro) hc fun e w2 he => ?_
        cases e with
        | returned v => obtain ⟨h1, rfl⟩ := he; exact hK v h1
        | panicked c => exact he.elim
        | outgrown => obtain ⟨_, _, hh⟩ := he; exact hh.elim
      case row row args =>
        refine ⟨fun hh => (by cases hh), ?_⟩
        intro c cs _
        obtain ⟨v, w2, ⟨h1, rfl⟩, s⟩ := h c cs
        exact ⟨v, _, hK v h1, stepsIn_wide.2 s⟩
    | halt x w1 => cases x <;> simp only [Oper.upon] at h
  · rename_i hw
    rw [if_neg hw] at h
    obtain ⟨h1, rfl⟩ := h
    exact ⟨fun _ _ => trivial, hK _ h1⟩

/-- the numbers that are not listed -/
def left (L : Array Bool) : Nat := L.toList.count false
theorem count_set (l : List Bool) : ∀ i, l[i]? = some false → (l.set i true).count false + 1 = l.count false := by
  induction l with
  | nil => intro i h; simp at h
  | cons b l ih =>
    intro i h
    cases i with
    | zero => simp at h; subst h; simp
    | succ i =>
      have := ih i (by simpa using h)
      rw [List.set_cons_succ, List.count_cons, List.count_cons]
      omega
theorem left_set {L : Array Bool} {i : Nat} (h : L.getD i true = false) : left (L.setIfInBounds i true) + 1 = left L := by
  unfold left
  have h1 : L.toList[i]? = some false := by
    rw [Array.getD_eq_getD_getElem?] at h
    cases e : L[i]? with
    | none => rw [e] at h; simp at h
    | some b => rw [e] at h; simp at h; subst h; simpa using e
  have := count_set L.toList i h1
  rwa [← Array.toList_setIfInBounds] at this
theorem left_zero {L : Array Bool} (h : left L = 0) (i : Nat) : L.getD i true = true := by
  unfold left at h
  rw [Array.getD_eq_getD_getElem?]
  cases e : L[i]? with
  | none => rfl
  | some b =>
    cases b with
    | true => rfl
    | false =>
      have h1 : L.toList[i]? = some false := by simpa using e
      have := count_set L.toList i h1
      omega

theorem filter_first (p : Nat → Bool) : ∀ (sp : List Nat) (k : Nat), k ≤ sp.length → (∀ m t, sp[m]? = some t → (p t = true ↔ m < k)) → (sp.filter p).length = k
  | [], k, hk, _ => by simp at hk; simp [hk]
  | t :: sp, k, hk, h => by
    cases k with
    | zero =>
      have : (t :: sp).filter p = [] := by
        rw [List.filter_eq_nil_iff]
        intro x hx hp
        obtain ⟨m, hm⟩ := List.getElem?_of_mem hx
        have := (h m x hm).1 hp
        omega
      rw [this]; rfl
    | succ k =>
      have h0 : p t = true := (h 0 t rfl).2 (by omega)
      rw [List.filter_cons_of_pos h0, List.length_cons, filter_first p sp k (by simpa using hk) (fun m t' hm => by rw [h (m + 1) t' (by simpa using hm)]; omega)]
theorem filter_apart (p q : Nat → Bool) : ∀ (sp : List Nat), (∀ t ∈ sp, p t = true → q t = true → False) → (sp.filter p).length + (sp.filter q).length ≤ sp.length
  | [], _ => by simp
  | t :: sp, h => by
    have ih := filter_apart p q sp (fun t' ht' => h t' (List.mem_cons_of_mem _ ht'))
    by_cases hp : p t = true
    · have hq : ¬ q t = true := fun hq => h t (List.mem_cons_self ..) hp hq
      rw [List.filter_cons_of_pos hp, List.filter_cons_of_neg hq, List.length_cons, List.length_cons]; omega
    · rw [List.filter_cons_of_neg hp]
      by_cases hq : q t = true
      · rw [List.filter_cons_of_pos hq, List.length_cons, List.length_cons]; omega
      · rw [List.filter_cons_of_neg hq, List.length_cons]; omega
theorem filter_le (p q : Nat → Bool) : ∀ (sp : List Nat), (∀ t ∈ sp, p t = true → q t = true) → (sp.filter p).length ≤ (sp.filter q).length
  | [], _ => by simp
  | t :: sp, h => by
    have ih := filter_le p q sp (fun t' ht' => h t' (List.mem_cons_of_mem _ ht'))
    by_cases hp : p t = true
    · rw [List.filter_cons_of_pos hp, List.filter_cons_of_pos (h t (List.mem_cons_self ..) hp), List.length_cons, List.length_cons]; omega
    · rw [List.filter_cons_of_neg hp]
      by_cases hq : q t = true
      · rw [List.filter_cons_of_pos hq, List.length_cons]; omega
      · rw [List.filter_cons_of_neg hq]; exact ih

theorem getD_fb {L : Array Bool} {i : Nat} (h : L.getD i true = false) : L.getD i false = false := by
  rw [Array.getD_eq_getD_getElem?] at h ⊢
  cases e : L[i]? with
  | none => rfl
  | some b => rw [e] at h; simpa using h
theorem getD_bf {L : Array Bool} {i : Nat} (hi : i < L.size) (h : L.getD i true = true) : L.getD i false = true := by
  rw [Array.getD_eq_getD_getElem?] at h ⊢
  rw [Array.getElem?_eq_getElem hi] at h ⊢
  simpa using h

/-- what a plan's check says -/
structure PlanOK (l : List Oper) (size : Nat) (er : List Nat) (sp : List Nat) (ph : List (List (Nat × Nat))) : Prop where
  plain : ∀ (i : Nat) (o : Oper), l[i]? = some o → plainOp o = true
  sel : Region.noSelect l.toArray = true
  dst : ∀ (i : Nat) (o : Oper) (d : Nat), l[i]? = some o → o.dst = some d → d < size
  low : ∀ (i : Nat) (o : Oper), l[i]? = some o → ∀ e ∈ o.after, Region.binds .any e = true → e.on < i
  look : ∀ (i : Nat) (o : Oper) (s j : Nat) (oj : Oper), l[i]? = some o → s ∈ o.looksAt l.toArray → l[j]? = some oj → oj.dst = some s → (if er.contains i then (maskF l l.length j).testBit i else (maskF l l.length i).testBit j) = true
  chain : ∀ (k t u : Nat), sp[k]? = some t → sp[k + 1]? = some u → (maskF l l.length u).testBit t = true
  nodup : ∀ (k m t : Nat), k < m → sp[k]? = some t → sp[m]? ≠ some t
  spine : ∀ (i k : Nat), i < l.length → sp[k]? = some i → (k, k + 1) ∈ ph[i]?.getD []
  rest : ∀ (i k : Nat), i < l.length → i ∉ sp → k ≤ sp.length → (sp.filter fun t => (maskF l l.length i).testBit t).length ≤ k → k + (sp.filter fun t => (maskF l l.length t).testBit i).length ≤ sp.length → (k, k) ∈ ph[i]?.getD []
theorem planB_ok {l : List Oper} {size : Nat} {er : List Nat} {sp : List Nat} {ph : List (List (Nat × Nat))} (h : planB l size er sp ph = true) : PlanOK l size er sp ph := by
  unfold planB at h
  simp only [Bool.and_eq_true, List.all_eq_true, List.mem_range] at h
  obtain ⟨⟨h1, h2⟩, h3, h4, h5, h6, h7⟩ := h
  refine ⟨fun i o ho => h1 o (List.mem_of_getElem? ho), h2, fun i o d ho hd => ?_, fun i o ho e he hb => ?_, fun i o s j oj ho hs hj hd => ?_, fun k t u ht hu => ?_, fun k m t hkm hk hm => ?_, fun i k hi hk => ?_, fun i k hi hn hk hlo hhi => ?_⟩
  · have := h3 o (List.mem_of_getElem? ho)
    rw [hd] at this
    simpa using this
  · have := h4 i (List.getElem?_eq_some_iff.1 ho).1
    rw [ho] at this
    simp only [Bool.and_eq_true, List.all_eq_true] at this
    have := this.1 e (by simpa using he)
    simpa [hb] using this
  · have := h4 i (List.getElem?_eq_some_iff.1 ho).1
    rw [ho] at this
    simp only [Bool.and_eq_true, List.all_eq_true, List.mem_range] at this
    have := this.2 s hs j (List.getElem?_eq_some_iff.1 hj).1
    rw [hj] at this
    simpa [hd] using this
  · have hk := (List.getElem?_eq_some_iff.1 hu).1
    have := h5 k (by omega)
    rw [ht, hu] at this
    simpa using this
  · have := h6 m (List.getElem?_eq_some_iff.1 hm).1 k hkm
    rw [hk, hm] at this
    simp at this
  · have := (h7 i hi).1 k (List.getElem?_eq_some_iff.1 hk).1
    rw [hk] at this
    simpa using this
  · have := (h7 i hi).2
    rw [Bool.or_eq_true] at this
    rcases this with h | h
    · exact absurd (by simpa using h) hn
    · rw [List.all_eq_true] at h
      have := h k (List.mem_range.2 (by omega))
      simp only [Bool.or_eq_true, decide_eq_true_eq] at this
      rcases this with (h | h) | h
      · omega
      · omega
      · simpa using h

/-- the steps of a plan, one behind the other -/
def StepsP (P : Program) (ops : Array Oper) (a0 aF : Act) (er : List Nat) (Ws : Nat → World) : Nat → List Oper → List (List (Nat × Nat)) → Prop
  | k, o :: os, p :: ps => (∀ q ∈ p, StepK P ops a0 aF (er.contains k) o (Ws q.1) (Ws q.2)) ∧ StepsP P ops a0 aF er Ws (k + 1) os ps
  | _, _, _ => True
theorem steps_at {P : Program} {ops : Array Oper} {a0 aF : Act} {er : List Nat} {Ws : Nat → World} : ∀ {k : Nat} {l : List Oper} {ph : List (List (Nat × Nat))}, StepsP P ops a0 aF er Ws k l ph → ∀ (i : Nat) (o : Oper) (p : Nat × Nat), l[i]? = some o → p ∈ ph[i]?.getD [] → StepK P ops a0 aF (er.contains (k + i)) o (Ws p.1) (Ws p.2)
  | _, [], _, _, i, o, p, ho, _ => by simp at ho
  | _, _ :: _, [], _, i, o, p, _, hp => by simp at hp
  | k, o' :: os, q :: ps, h, i, o, p, ho, hp => by
    cases i with
    | zero => simp at ho hp; subst ho; exact h.1 p hp
    | succ i =>
      have := steps_at h.2 i o p (by simpa using ho) (by simpa using hp)
      rwa [show k + 1 + i = k + (i + 1) by omega] at this
section main
variable {P : Program} {l : List Oper} {er sp : List Nat} {ph : List (List (Nat × Nat))} {a0 aF : Act} {Ws : Nat → World} {ro : Option Nat} {n : Nat} {Q : Exit → Act → World → Prop}

theorem clo_set {L : Array Bool} {i : Nat} (hL : L.size = l.length) (hc : Clo l L) (hi : i < l.length) (hr : ∀ (o : Oper), l[i]? = some o → ∀ e ∈ o.after, Region.binds .any e = true → L.getD e.on false = true) : Clo l (L.setIfInBounds i true) := by
  have up : ∀ j, L.getD j false = true → (L.setIfInBounds i true).getD j false = true := fun j hj => by
    by_cases e : i = j
    · subst e; exact getD_set_self (by omega) _
    · rw [getD_set_other e]; exact hj
  intro j o hj hl e he hb
  by_cases hij : i = j
  · subst hij; exact up _ (hr o hj e he hb)
  · rw [getD_set_other hij] at hl; exact up _ (hc j o hj hl e he hb)

theorem plan_done (hok : PlanOK l aF.tmps.size er sp ph) (hsp : ∀ t ∈ sp, t < l.length) {L : Array Bool} {a : Act} (hL : L.size = l.length) (hw : OnWay l a0 aF L a) (hall : ∀ i, i < l.length → L.getD i false = true) (hQ : Q .normal aF (Ws sp.length)) : Q .normal a (Ws (phase sp L)) := by
  have e1 : a = aF := act_ext hw.size hw.defers fun s => by
    by_cases h : ∀ o ∈ l, o.dst ≠ some s
    · exact hw.off s h
    · obtain ⟨o, ho, hd⟩ : ∃ o, o ∈ l ∧ o.dst = some s := by
        refine Decidable.byContradiction fun hh => h fun o ho hd => hh ⟨o, ho, hd⟩
      obtain ⟨j, hj⟩ := List.getElem?_of_mem ho
      exact hw.on s j o hj hd (hall j (List.getElem?_eq_some_iff.1 hj).1)
  have e2 : phase sp L = sp.length := by
    unfold phase
    rw [List.filter_eq_self.2 (fun t ht => hall t (hsp t ht))]
  rw [e1, e2]
  exact hQ

theorem plan_any (hok : PlanOK l aF.tmps.size er sp ph) (hsp : ∀ t ∈ sp, t < l.length) (hstep : ∀ (i : Nat) (o : Oper) (p : Nat × Nat), l[i]? = some o → p ∈ ph[i]?.getD [] → StepK P l.toArray a0 aF (er.contains i) o (Ws p.1) (Ws p.2)) (hQ : Q .normal aF (Ws sp.length)) :
    ∀ (fuel : Nat) (L : Array Bool) (a : Act), left L ≤ fuel → L.size = l.length → Clo l L → OnWay l a0 aF L a → wpAnyIn (wideR ro) n P .any l.toArray Q fuel L a (Ws (phase sp L))
  | 0, L, a, hf, hL, hc, hw => by
    have h0 := left_zero (show left L = 0 by omega)
    refine ⟨List.filter_eq_nil_iff.2 fun i hi => ?_, plan_done hok hsp hL hw (fun i hi => getD_bf (by omega) (h0 i)) hQ⟩
    simp [h0 i]
  | fuel + 1, L, a, hf, hL, hc, hw => by
    refine ⟨fun hr => ?_, fun i hi => ?_⟩
    · refine plan_done hok hsp hL hw (fun i => ?_) hQ
      induction i using Nat.strongRecOn with
      | ind i ih =>
        intro hi
        refine Decidable.byContradiction fun hn => ?_
        have hmem : i ∈ Region.ready .any l.toArray L := by
          rw [mem_ready]
          refine ⟨?_, l[i], by simp [hi], fun e he hb => ih e.on (hok.low i l[i] (by simp [hi]) e he hb) (Nat.lt_trans (hok.low i l[i] (by simp [hi]) e he hb) hi)⟩
          cases hg : L.getD i true with
          | true => exact absurd (getD_bf (by omega) hg) hn
          | false => rfl
        rw [hr] at hmem
        cases hmem
    · obtain ⟨hun, o, ho', hdeps⟩ := mem_ready.1 hi
      have ho : l[i]? = some o := by simpa using ho'
      have hi2 : i < l.length := (List.getElem?_eq_some_iff.1 ho).1
      have hunf := getD_fb hun
      have hdep : ∀ o', l[i]? = some o' → ∀ e ∈ o'.after, Region.binds .any e = true → L.getD e.on false = true := fun o' h' => by
        rw [ho] at h'
        obtain rfl := Option.some.inj h'
        exact hdeps
      have hin : ∀ t, (maskF l l.length i).testBit t = true → L.getD t false = true := fun t ht => mask_on hc _ i t ht hdep
      have hph : (phase sp L, phase sp (L.setIfInBounds i true)) ∈ ph[i]?.getD [] := by
        by_cases hs : i ∈ sp
        · obtain ⟨k, hk⟩ := List.getElem?_of_mem hs
          have hkl := (List.getElem?_eq_some_iff.1 hk).1
          -- listed just those before k
          have down : ∀ (m d t u : Nat), sp[m]? = some t → sp[m + d]? = some u → L.getD u false = true → L.getD t false = true := by
            intro m d
            induction d with
            | zero => intro t u h1 h2 h3; rw [Nat.add_zero, h1] at h2; obtain rfl := Option.some.inj h2; exact h3
            | succ d ih =>
              intro t u h1 h2 h3
              have hlt : m + d < sp.length := by have := (List.getElem?_eq_some_iff.1 h2).1; omega
              have h4 : sp[m + d]? = some sp[m + d] := List.getElem?_eq_getElem hlt
              exact ih t _ h1 h4 (mask_up hc _ _ _ (hok.chain (m + d) _ u h4 (by rw [← h2]; rfl)) h3)
          have hiff : ∀ (m t : Nat), sp[m]? = some t → (L.getD t false = true ↔ m < k) := by
            intro m t hm
            constructor
            · intro hl
              refine Decidable.byContradiction fun hge => ?_
              obtain ⟨d, hd⟩ : ∃ d, m = k + d := ⟨m - k, by omega⟩
              subst hd
              have := down k d i t hk hm hl
              rw [hunf] at this
              cases this
            · intro hlt
              have hlt' : k - 1 < sp.length := by omega
              have h4 : sp[k - 1]? = some sp[k - 1] := List.getElem?_eq_getElem hlt'
              have h5 : L.getD sp[k - 1] false = true := hin _ (hok.chain (k - 1) _ i h4 (by rw [show k - 1 + 1 = k by omega]; exact hk))
              obtain ⟨d, hd⟩ : ∃ d, k - 1 = m + d := ⟨k - 1 - m, by omega⟩
              exact down m d t _ hm (by rw [← hd]; exact h4) h5
          have e1 : phase sp L = k := filter_first _ sp k (by omega) hiff
          have e2 : phase sp (L.setIfInBounds i true) = k + 1 := filter_first _ sp (k + 1) (by omega) fun m t hm => by
            by_cases e : i = t
            · subst e
              have hmk : m = k := by
                rcases Nat.lt_trichotomy m k with h | h | h
                · exact absurd hk (hok.nodup m k i h hm)
                · exact h
                · exact absurd hm (hok.nodup k m i h hk)
              simp only [getD_set_self (show i < L.size by omega), true_iff]
              omega
            · rw [getD_set_other e, hiff m t hm]
              have hmk : m ≠ k := fun h => by
                subst h
                rw [hm] at hk
                exact e (Option.some.inj hk).symm
              omega
          rw [e1, e2]
          exact hok.spine i k hi2 hk
        · have e : phase sp (L.setIfInBounds i true) = phase sp L := by
            unfold phase
            congr 1
            refine List.filter_congr fun t ht => ?_
            rw [getD_set_other (fun h => hs (by rw [h]; exact ht))]
          rw [e]
          refine hok.rest i _ hi2 hs (List.length_filter_le _ _) (filter_le _ _ sp fun t _ ht => hin t ht) (filter_apart _ _ sp fun t _ h1 h2 => ?_)
          have := mask_up hc _ t i h2 h1
          rw [hunf] at this
          cases this
      have hgo : ∀ v, aF.put o.dst v = aF → wpAnyIn (wideR ro) n P .any l.toArray Q fuel (L.setIfInBounds i true) (a.put o.dst v) (Ws (phase sp (L.setIfInBounds i true))) := fun v hv =>
        plan_any hok hsp hstep hQ fuel _ _ (by have := left_set hun; omega) (by simpa using hL) (clo_set hL hc hi2 hdep) (hw.step hL ho (fun d hd => hok.dst i o d ho hd) hv)
      have hst := hstep i o _ ho hph
      unfold StepK at hst
      by_cases her : er.contains i = true
      · rw [if_pos her] at hst
        have hlook : ∀ s ∈ o.looksAt l.toArray, a.tmps[s]? = a0.tmps[s]? := fun s hs => hw.old s fun j oj hj hd => by
          have h1 := hok.look i o s j oj ho hs hj hd
          rw [if_pos her] at h1
          cases hg : L.getD j false with
          | false => rfl
          | true =>
            have := mask_up hc _ j i h1 hg
            rw [hunf] at this
            cases this
        obtain ⟨hwant, v, hrun, hput⟩ := hst
        unfold wpOpIn
        simp only [ho']
        rw [same_wanted hlook, if_pos hwant]
        refine ⟨fun _ _ => trivial, ?_⟩
        rw [Oper.semAt_eq _ _ _ (plainOp_spec (hok.plain i o ho)), same_exec (P := P) (Region.noSelect_spec hok.sel i o · · ho') hlook, hrun]
        exact hgo v hput
      · rw [if_neg her] at hst
        have hlook : ∀ s ∈ o.looksAt l.toArray, a.tmps[s]? = aF.tmps[s]? := fun s hs => by
          by_cases h : ∀ o ∈ l, o.dst ≠ some s
          · exact hw.off s h
          · obtain ⟨oj, hoj, hd⟩ : ∃ o, o ∈ l ∧ o.dst = some s := by
              refine Decidable.byContradiction fun hh => h fun o ho hd => hh ⟨o, ho, hd⟩
            obtain ⟨j, hj⟩ := List.getElem?_of_mem hoj
            have h1 := hok.look i o s j oj ho hs hj hd
            rw [if_neg her] at h1
            exact hw.on s j oj hj hd (hin j h1)
        exact step_in (hok.plain i o ho) (Region.noSelect_spec hok.sel i o · · ho') ho' hlook hst hgo

/-- a region by a plan, in a round or not -/
theorem wpIn_region_plan {id : Nat} {a : Act} {w : World} (aF : Act) (er sp : List Nat) (ph : List (List (Nat × Nat))) (Ws : Nat → World) (N : Nat) (hN : a.tmps.size = N) (hm : P.follows .mixedOrders = true) (hB : planB l N er sp ph = true) (hsp : (sp.all fun t => decide (t < l.length)) = true) (haF : putAll l (valsOf l aF) a = aF) (hw0 : Ws 0 = { w with drawn := w.drawn + 1 })
    (hsteps : StepsP P l.toArray a aF er Ws 0 l ph) (hQ : Q .normal aF (Ws sp.length)) : (Code.region id l.toArray true).wpIn (wideR ro) n P Q a w := by
  obtain ⟨k1, k2, k3⟩ := putAll_keeps l (valsOf l aF) a
  rw [haF] at k1 k2 k3
  have hok : PlanOK l aF.tmps.size er sp ph := by rw [k1, hN]; exact planB_ok hB
  have hsp' : ∀ t ∈ sp, t < l.length := fun t ht => by simpa using List.all_eq_true.1 hsp t ht
  refine wpIn_region_any hm ?_
  have hz : ∀ (m i : Nat), (Array.replicate m false).getD i false = false := fun m i => by
    rw [Array.getD_eq_getD_getElem?, Array.getElem?_replicate]; split <;> rfl
  have h0 : phase sp (Array.replicate l.toArray.size false) = 0 := by
    unfold phase
    rw [List.length_eq_zero_iff, List.filter_eq_nil_iff]
    intro t _
    rw [hz]; simp
  have hst := steps_at hsteps
  simp only [Nat.zero_add] at hst
  have := plan_any (Q := Q) (ro := ro) (n := n) (P := P) (a0 := a) hok hsp' hst hQ l.toArray.size (Array.replicate l.toArray.size false) a (by unfold left; simp) (by simp) (fun i o _ hl => by rw [hz] at hl; cases hl)
    ⟨fun _ _ => rfl, k1.symm, k2.symm, fun s hs => (k3 s hs).symm, fun s j o _ _ hl => by rw [hz] at hl; cases hl⟩
  rw [h0, hw0] at this
  exact this
end main

theorem StepP.of {P : Program} {ops : Array Oper} {aF : Act} {o : Oper} {w w' : World} (hg : o.guard = none) (h : o.wp P aF w (fun a' w'' => a' = aF ∧ w'' = w') (fun _ _ _ => False)) : StepP P ops aF o w w' := by
  unfold StepP
  have : Region.wanted o (yielded ops aF.tmps) = true := by simp [Region.wanted, hg]
  rw [if_pos this]
  exact h
theorem StepsP.nil {P : Program} {ops : Array Oper} {a0 aF : Act} {er : List Nat} {Ws : Nat → World} {k : Nat} {ph : List (List (Nat × Nat))} : StepsP P ops a0 aF er Ws k [] ph := trivial
theorem StepsP.cons {P : Program} {ops : Array Oper} {a0 aF : Act} {er : List Nat} {Ws : Nat → World} {k : Nat} {o : Oper} {os : List Oper} {p : List (Nat × Nat)} {ps : List (List (Nat × Nat))} (he : er.contains k = false) (h : ∀ q ∈ p, StepP P ops aF o (Ws q.1) (Ws q.2)) (t : StepsP P ops a0 aF er Ws (k + 1) os ps) : StepsP P ops a0 aF er Ws k (o :: os) (p :: ps) :=
  ⟨fun q hq => by unfold StepK; rw [he]; exact h q hq, t⟩
/-- an operation that only hands on what stood in a slot before the region -/
theorem StepsP.early {P : Program} {ops : Array Oper} {a0 aF : Act} {er : List Nat} {Ws : Nat → World} {k : Nat} {o : Oper} {os : List Oper} {m : Nat} {ps : List (List (Nat × Nat))} (he : er.contains k = true) (hg : o.guard = none) (x : Operand) (ho : o.op = .move x) (hv : aF.put o.dst (a0.eval x) = aF) (t : StepsP P ops a0 aF er Ws (k + 1) os ps) : StepsP P ops a0 aF er Ws k (o :: os) (((List.range m).map fun j => (j, j)) :: ps) :=
  ⟨fun q hq => by
    obtain ⟨j, _, rfl⟩ := List.mem_map.1 hq
    unfold StepK
    rw [he]
    exact ⟨by simp [Region.wanted, hg], a0.eval x, by simp only [execOp, ho]; rfl, hv⟩, t⟩
theorem step1 {P : Program} {ops : Array Oper} {aF : Act} {Ws : Nat → World} {o : Oper} {a b : Nat} (h : StepP P ops aF o (Ws a) (Ws b)) : ∀ q ∈ [(a, b)], StepP P ops aF o (Ws q.1) (Ws q.2) := fun q hq => by
  obtain rfl := List.mem_singleton.1 hq
  exact h
theorem step2 {P : Program} {ops : Array Oper} {aF : Act} {Ws : Nat → World} {o : Oper} {a b c d : Nat} (h : StepP P ops aF o (Ws a) (Ws b)) (k : StepP P ops aF o (Ws c) (Ws d)) : ∀ q ∈ [(a, b), (c, d)], StepP P ops aF o (Ws q.1) (Ws q.2) := fun q hq => by
  rcases List.mem_cons.1 hq with rfl | hq
  · exact h
  · exact step1 k q hq
theorem step3 {P : Program} {ops : Array Oper} {aF : Act} {Ws : Nat → World} {o : Oper} {a b c d e f : Nat} (h : StepP P ops aF o (Ws a) (Ws b)) (k : StepP P ops aF o (Ws c) (Ws d)) (m : StepP P ops aF o (Ws e) (Ws f)) : ∀ q ∈ [(a, b), (c, d), (e, f)], StepP P ops aF o (Ws q.1) (Ws q.2) := fun q hq => by
  rcases List.mem_cons.1 hq with rfl | hq
  · exact h
  · exact step2 k m q hq
theorem StepP.append {P : Program} {ops : Array Oper} {aF : Act} {o : Oper} {w w' : World} {v' : Value} (hg : o.guard = none) (s x : Operand) (t : TypeId) (ho : o.op = .call { callee := .builtin .append, args := #[s, x], argTypes := #[t, t] }) (v vx : Value) (hs : aF.eval s = v) (hx : aF.eval x = vx)
    (hrun : (Builtin.append_ #[t, t] o.type #[v, vx]).run P w = .ok v' w') (hput : aF.put o.dst v' = aF) : StepP P ops aF o w w' := by
  refine StepP.of hg ?_
  unfold Oper.wp
  simp [execOp, ho, resolve, invoke, builtin, hs, hx, hrun, Result.andThen, Oper.upon, hput]
end Go.Proofs.Ytonjaghkiaaipaa.OldB
namespace Go.Proofs.Ytonjaghkiaaipaa.OldB
open Go.ChangeShapes Go.WideShapes Go.ChangeAt Go.RowKit Go.Shelf
set_option linter.unusedVariables false
set_option linter.unusedSimpArgs false
attribute [local go_sem] Oper.semAt_some putAll

/-- the value of a field -/
def fv (zs : List Int) (x j : Nat) : Nat := x / 2 ^ (sw zs j).toNat % 2 ^ (zs[j]?.getD 0).toNat
def fvl {len : Nat} (zs : List Int) (x : Nat) (l : List (Ix len)) : List Nat := l.map fun i => fv zs x i.1
theorem fv_eq (zs : List Int) (x j : Nat) (hx : x < 18446744073709551616) (h1 : 1 ≤ zs[j]?.getD 0) (h2 : zs[j]?.getD 0 ≤ 64) :
    bits .and .u64 ((x : Int) / 2 ^ (sw zs j).toNat) ((2 ^ (zs[j]?.getD 0).toNat - 1 : Nat) : Int) = (fv zs x j : Nat) := by
  have h : ((x : Int) / 2 ^ (sw zs j).toNat) = ((x / 2 ^ (sw zs j).toNat : Nat) : Int) := by rw [Int.natCast_ediv, pw]
  have hlt : x / 2 ^ (sw zs j).toNat < 18446744073709551616 := Nat.lt_of_le_of_lt (Nat.div_le_self _ _) hx
  have hm : 2 ^ (zs[j]?.getD 0).toNat - 1 < 18446744073709551616 := by
    have h3 : 2 ^ (zs[j]?.getD 0).toNat ≤ 2 ^ 64 := Nat.pow_le_pow_right (by omega) (by omega)
    have h4 := Nat.two_pow_pos (zs[j]?.getD 0).toNat
    omega
  rw [h, u64_and_nat _ _ hlt hm, Nat.and_two_pow_sub_one_eq_mod]
  rfl
theorem fv_lt (zs : List Int) (x j : Nat) (hx : x < 18446744073709551616) : fv zs x j < 18446744073709551616 :=
  Nat.lt_of_le_of_lt (Nat.mod_le _ _) (Nat.lt_of_le_of_lt (Nat.div_le_self _ _) hx)

theorem own_slice {w : World} {base e size : Nat} {v : Value} {n : Nat} {xs : List Value} (h : w.ownsRow base e size v n xs) : ∃ a cap, v = .slice a n cap := by
  rcases h.2 with ⟨hv, h0⟩ | ⟨g, cap, cur, hv, _⟩
  · exact ⟨none, 0, by rw [hv, h0]⟩
  · exact ⟨_, cap, hv⟩

set_option maxRecDepth 100000 in
set_option maxHeartbeats 2000000 in
theorem split_ok (x : Nat) (hx : x < 18446744073709551616) (a : Option Addr) (len cap : Nat) (zs : List Int) (hbig : len ≤ 100) (hz : ∀ j, j < len → fit zs j) (w : World) (hI : Wi w.heap.size w a len zs) :
    Calls Try.prog 53 #[.int .u64 (x : Int), .slice a len cap] w fun e w' => ∃ a' cap', e = .returned (.tuple #[.slice a' len cap', .int .i64 0]) ∧ Hid (w'.ownsRow (w.heap.size + 1) 38 1 (.slice a' len cap') len (vs (fvl zs x (firsts len len (Nat.le_refl _))))) ∧ Below w.heap.size w w' := by
  have HI := hid hI
  have HX := hid hx
  have HZ := hid hz
  have hbig2 : len ≤ 9223372036854775807 := by omega
  clear hI hz hx
  obtain ⟨i0, hi, hz0, hz1, hz2⟩ := info_parts Try.info38
  have HI0 := hid hi; have HZ0 := hid hz0; have HZ1 := hid hz1; have HZ2 := hid hz2
  clear hi hz0 hz1 hz2
  refine (callsIn_wide (n := 5)).1 (callsIn_of_wp_marks Try.func53 rfl trivial ?_ rfl)
  simp only [Try.ntmps53, List.size_toArray, List.length_cons, List.length_nil, Nat.reduceAdd, Nat.reduceSub, Array.replicate_succ, Array.replicate_zero, List.push_toArray, List.append_toArray, List.nil_append, List.cons_append]
  refine wpIn_wide.2 ?_
  go_wp2_with fail
  have b1 := hid (Boxed.new w 38 (.int .u64 (x : Int)))
  have hB0 := hid ((Below.refl w.heap.size w).alloc (Nat.le_refl _) (.cells #[.int .u64 (x : Int)] 38))
  have hs0 := hid (show (w.alloc (.cells #[.int .u64 (x : Int)] 38)).heap.size = w.heap.size + 1 by simp)
  generalize w.alloc (.cells #[.int .u64 (x : Int)] 38) = wC at *
  refine (chk_ok a len cap zs w.heap.size wC hbig2 (HI.out.below hB0.out) HZ.out).mono ?_
  rintro e w1 ⟨rfl, rfl⟩
  go_wp2_with fail
  rw [hs0.out]
  have c1 := hid (b1.out.alloc (.cells #[.slice none 0 0] 30))
  have c2 := hid (Boxed.new wC 30 (.slice none 0 0))
  rw [hs0.out] at c2
  have hB1 := hid (hB0.out.alloc (by rw [hs0.out]; omega) (.cells #[.slice none 0 0] 30))
  have hs1 := hid (show (wC.alloc (.cells #[.slice none 0 0] 30)).heap.size = w.heap.size + 2 by rw [World.size_alloc, hs0.out])
  clear b1 hB0 hs0
  generalize wC.alloc (.cells #[.slice none 0 0] 30) = wD at *
  refine ((callsIn_wide (n := 4)).1 (fields_in Fence.wide 4 trivial rfl a len cap _)).mono ?_
  rintro e w' ⟨rfl, rfl⟩
  go_wp2_with fail
  rw [hs1.out]
  have d1 := c1.out.alloc (.cells #[.slice a len cap] 22)
  have d2 := c2.out.alloc (.cells #[.slice a len cap] 22)
  have d5 := Boxed.new wD 22 (.slice a len cap)
  rw [hs1.out] at d5
  have hB2 := hB1.out.alloc (by rw [hs1.out]; omega) (.cells #[.slice a len cap] 22)
  have hs2 : (wD.alloc (.cells #[.slice a len cap] 22)).heap.size = w.heap.size + 3 := by rw [World.size_alloc, hs1.out]
  clear c1 c2 hB1 hs1
  generalize wD.alloc (.cells #[.slice a len cap] 22) = wS at *
  refine (wpIn_wide (n := 5)).1 ?_
  refine wpIn_rangeFunc_ownH (F := Fence.wide) (n := 5) rfl (by omega) (gf := 64) (lb := #[.pointer (some ⟨w.heap.size + 2, 0, none⟩)]) rfl trivial (enters_of Try.func64 (by kernel_rfl) rfl)
    (fields_stops Fence.wide 4 trivial rfl (by omega) (w.heap.size + 2) w.heap.size a len cap zs hbig2 HZ.out wS (by omega) (by omega) d5.cell (HI.out.below hB2)) belowK_t (belowK_b (by omega)) (Below.refl _ _) (fun _ => rfl)
    (fun pre W => (Boxed W w.heap.size 38 (.int .u64 (x : Int)) ∧ (∃ v, Boxed W (w.heap.size + 1) 30 v ∧ W.ownsRow (w.heap.size + 1) 38 1 v pre.length (vs (fvl zs x pre)) ∧ True)) ∧ Below w.heap.size w W)
    (fun _ _ _ => False)
    (OwnFrom.and (OwnFrom.and (Own.from (boxed_own _ _ _) _) (Own.from (holdsRow_own (w.heap.size + 1) (w.heap.size + 1) 30 38 1 (fun pre : List (Ix len) => pre.length) (fun pre => vs (fvl zs x pre)) (fun _ _ => True)) _)) (ownFrom_below (Nat.le_refl _) (by omega)))
    (fun _ _ _ _ _ hs _ _ => hs)
    ⟨⟨d1, _, d2, World.ownsRow_nil _ _ _ _, trivial⟩, hB2⟩
    (fun i a' W => ∃ Bx, w.heap.size + 1 < Bx ∧ Pair W Bx (sw zs i.1) (zs[i.1]?.getD 0) ∧ a' = { tmps := #[.int .u64 (x : Int), .slice a len cap, .pointer (some ⟨w.heap.size, 0, none⟩), undef, .slice none 0 0, .int .i64 0, .int .i64 0, .pointer (some ⟨w.heap.size + 1, 0, none⟩), undef, .pointer (some ⟨Bx, 0, none⟩), .slice a len cap, .int .i64 0, .int .i64 0, .bool false, undef, .slice a len cap, .func (.func 64) #[] #[.pointer (some ⟨w.heap.size + 2, 0, none⟩)], .int .i64 (i.1 : Int), .agg #[.int .i64 (sw zs i.1), .int .i64 (zs[i.1]?.getD 0)], undef, undef, undef, undef, undef, undef, undef, undef, undef, undef, undef], defers := [] })
    (fun i a' _ X Y row hs hg hr => by obtain ⟨Bx, h1, h2, h3⟩ := hs; exact ⟨Bx, h1, pair_own Bx _ _ () X Y row h2 hg (fun r e => (hr r e).2), h3⟩)
    ?assign ?body ?done ?stop
  case assign =>
    rintro l pre i W K ⟨⟨e1, v, e2, e3, _⟩, eB⟩ hK
    have es := e2.lt
    have HN : W.ownsRow (w.heap.size + 1) 38 1 v pre.length (vs (fvl zs x pre)) := e3
    gi_wp2
    refine hK _ _ ((KeepsOthers.alloc _ _).from _) ((Below.refl _ W).alloc eB.size _) ⟨⟨e1.alloc _, v, e2.alloc _, HN.alloc _, trivial⟩, eB.alloc eB.size _⟩ ⟨W.heap.size, es, World.alloc_heap_new W _, rfl⟩
  case body =>
    rintro l pre i a' W hl ⟨r, hr⟩ ⟨⟨e1, v, e2, e3, _⟩, eB⟩ ⟨Bx, hBx, eX, rfl⟩ hlt
    have hx2 := i.2
    have hfit := HZ.out i.1 hx2
    unfold fit at hfit
    obtain ⟨f1, f2⟩ := hfit
    obtain ⟨s1, s2⟩ := sw_bd zs i.1 (fun j hj => HZ.out j (by omega))
    have hmx : Try.prog.follows .mixedOrders = true := by kernel_rfl
    obtain ⟨va, vc, rfl⟩ := own_slice e3
    have HE3 := hid e3
    have HM := hid (mask_is (sw zs i.1) (zs[i.1]?.getD 0) f1 (by omega))
    have HV := hid (fv_eq zs x i.1 HX.out f1 (by omega))
    have hpl : pre.length ≤ 100 := by omega
    clear e3
    -- the worlds of the plan
    obtain ⟨W1, hW1⟩ : ∃ W1, W1 = W.drew.alloc (.cells #[.int .i64 (sw zs i.1), .int .i64 (zs[i.1]?.getD 0)] 87) := ⟨_, rfl⟩
    obtain ⟨W2, hW2⟩ : ∃ W2, W2 = W1.alloc (.cells #[.int .u64 (fv zs x i.1 : Nat)] 38) := ⟨_, rfl⟩
    have r0 : W.drew.ownsRow (w.heap.size + 1) 38 1 (.slice va pre.length vc) pre.length (vs (fvl zs x pre)) := HE3.out.drew
    have r1 : W1.ownsRow (w.heap.size + 1) 38 1 (.slice va pre.length vc) pre.length (vs (fvl zs x pre)) := by rw [hW1]; exact r0.alloc _
    have r2 : W2.ownsRow (w.heap.size + 1) 38 1 (.slice va pre.length vc) pre.length (vs (fvl zs x pre)) := by rw [hW2]; exact r1.alloc _
    have hs1 : W1.heap.size = W.heap.size + 1 := by rw [hW1]; simp
    have hs2 : W2.heap.size = W.heap.size + 2 := by rw [hW2]; simp [hs1]
    have n2 := World.news_of_block (w := W2) (cs := #[.int .u64 (fv zs x i.1 : Nat)]) (t := 38) (fr := (0, 0)) (B := W1.heap.size) (by rw [hW2]; exact heap_alloc_new _ _)
    have hsz := eB.size
    have HW2 := hid hW2
    obtain ⟨g3, cp3, W3, hrun, r3, hg3, _, _⟩ := run_append_lies (P := Try.prog) (w := W2) 30 30 (w.heap.size + 1) 38 i0 (.int .u64 0) 1 8 Try.underlying30 HI0.out HZ0.out HZ1.out HZ2.out rfl (by decide) (.slice va pre.length vc) pre.length (vs (fvl zs x pre)) r2 ⟨W1.heap.size, 0, none⟩ 1 1 [.int .u64 (fv zs x i.1 : Nat)] rfl n2 (by simp [Value.oneCell']) (by omega) (by unfold maxLen; omega) (by omega) (by omega) _ rfl
    have k0 : Boxed W.drew (w.heap.size + 1) 30 (.slice va pre.length vc) := e2
    have k1 : Boxed W1 (w.heap.size + 1) 30 (.slice va pre.length vc) := by rw [hW1]; exact k0.alloc _
    have k2 : Boxed W2 (w.heap.size + 1) 30 (.slice va pre.length vc) := by rw [hW2]; exact k1.alloc _
    obtain ⟨k3, k4, k5, k6, k7⟩ := k1.appended (by decide) r1 (by omega) (by omega) r3 (by rw [← HW2.out]; exact hg3)
    have j0 : Boxed W.drew w.heap.size 38 (.int .u64 (x : Int)) := e1
    have j1 : Boxed W1 w.heap.size 38 (.int .u64 (x : Int)) := by rw [hW1]; exact j0.alloc _
    have j2 : Boxed W2 w.heap.size 38 (.int .u64 (x : Int)) := by rw [hW2]; exact j1.alloc _
    have J3 := hid (j2.kept hg3 (fun e => by have := own_base r2 _ e.symm; omega))
    clear j2
    have p0 : Pair W.drew Bx (sw zs i.1) (zs[i.1]?.getD 0) := eX
    have p1 : Pair W1 Bx (sw zs i.1) (zs[i.1]?.getD 0) := by rw [hW1]; exact p0.alloc _
    have P0 := hid p0; have P1 := hid p1; have J0 := hid j0; have J1 := hid j1; have K0 := hid k0; have K1 := hid k1; have K2 := hid k2; have K3 := hid k3
    have HM1 := hid ((HM.out W.drew).mono (R' := fun e w' => e = .returned (.int .u64 ((2 ^ (zs[i.1]?.getD 0).toNat - 1 : Nat) : Int)) ∧ w' = W1) (fun e w' ⟨h1, h2⟩ => ⟨h1, h2.trans hW1.symm⟩))
    have HRUN := hid hrun
    have HS1 := hid hs1
    have HW1 := hid hW1
    clear hrun hg3 n2 r0 r1 r2 r3 k0 k1 k2 k3 j0 j1 p0 p1 hW1 hW2 hs1 hs2
    have hx3 : (0 : Int) ≤ sw zs i.1 := s1
    gi_wp2
    obtain ⟨Ws, w0, w1, w2, w3, w4⟩ : ∃ Ws : Nat → World, Ws 0 = W.drew ∧ Ws 1 = W1 ∧ Ws 2 = W2 ∧ Ws 3 = W3 ∧ Ws 4 = W3.setCell ⟨w.heap.size + 1, 0, none⟩ (.slice (some ⟨g3, 0, none⟩) (pre.length + 1) cp3) := ⟨fun k => match k with | 0 => W.drew | 1 => W1 | 2 => W2 | 3 => W3 | _ => W3.setCell ⟨w.heap.size + 1, 0, none⟩ (.slice (some ⟨g3, 0, none⟩) (pre.length + 1) cp3), rfl, rfl, rfl, rfl, rfl⟩
    refine wpIn_region_plan (ro := some l) { tmps := #[.int .u64 (x : Int), .slice a len cap, .pointer (some ⟨w.heap.size, 0, none⟩), undef, .slice none 0 0, .int .i64 0, .int .i64 0, .pointer (some ⟨w.heap.size + 1, 0, none⟩), undef, .pointer (some ⟨Bx, 0, none⟩), .slice a len cap, .int .i64 0, .int .i64 0, .bool false, undef, .slice a len cap, .func (.func 64) #[] #[.pointer (some ⟨w.heap.size + 2, 0, none⟩)], .int .i64 (i.1 : Int), .agg #[.int .i64 (sw zs i.1), .int .i64 (zs[i.1]?.getD 0)], .slice va pre.length vc, .int .u64 (x : Int), .pointer (some ⟨Bx, 0, none⟩), .int .i64 (sw zs i.1), .int .u64 ((x : Int) / 2 ^ (sw zs i.1).toNat), .agg #[.int .i64 (sw zs i.1), .int .i64 (zs[i.1]?.getD 0)], .int .u64 ((2 ^ (zs[i.1]?.getD 0).toNat - 1 : Nat) : Int), .int .u64 (fv zs x i.1 : Nat), .slice (some ⟨W1.heap.size, 0, none⟩) 1 1, .slice (some ⟨g3, 0, none⟩) (pre.length + 1) cp3, undef], defers := [] }
      [] [6, 8, 9, 10] [[(0, 0), (1, 1), (2, 2)], [(0, 0), (1, 1)], [(0, 0), (1, 1)], [(0, 0), (1, 1)], [(0, 0), (1, 1)], [(0, 0)], [(0, 1)], [(1, 1)], [(1, 2)], [(2, 3)], [(3, 4)]]
      Ws 30 rfl hmx (by kernel_rfl) (by kernel_rfl) (by kernel_rfl) w0 ?st ?fin
    case st =>
     refine StepsP.cons rfl (step3 ?s00 ?s01 ?s02) (StepsP.cons rfl (step2 ?s10 ?s11) (StepsP.cons rfl (step2 ?s20 ?s21) (StepsP.cons rfl (step2 ?s30 ?s31) (StepsP.cons rfl (step2 ?s40 ?s41) (StepsP.cons rfl (step1 ?s50) (StepsP.cons rfl (step1 ?s60) (StepsP.cons rfl (step1 ?s70) (StepsP.cons rfl (step1 ?s80) (StepsP.cons rfl (step1 ?s90) (StepsP.cons rfl (step1 ?sa0) StepsP.nil))))))))))
     case s00 =>
      rw [w0]
      refine StepP.of rfl ?_
      have c := K0.out.cell
      go_simp
     case s01 =>
      rw [w1]
      refine StepP.of rfl ?_
      have c := K1.out.cell
      go_simp
     case s02 =>
      rw [w2]
      refine StepP.of rfl ?_
      have c := K2.out.cell
      go_simp
     case s10 =>
      rw [w0]
      refine StepP.of rfl ?_
      have c := J0.out.cell
      go_simp
     case s11 =>
      rw [w1]
      refine StepP.of rfl ?_
      have c := J1.out.cell
      go_simp
     case s20 =>
      rw [w0]
      refine StepP.of rfl ?_
      go_simp
     case s21 =>
      rw [w1]
      refine StepP.of rfl ?_
      go_simp
     case s30 =>
      rw [w0]
      refine StepP.of rfl ?_
      have c := P0.out.c0
      go_simp
     case s31 =>
      rw [w1]
      refine StepP.of rfl ?_
      have c := P1.out.c0
      go_simp
     case s40 =>
      rw [w0]
      refine StepP.of rfl ?_
      go_simp
     case s41 =>
      rw [w1]
      refine StepP.of rfl ?_
      go_simp
     case s50 =>
      rw [w0]
      refine StepP.of rfl ?_
      have c := P0.out.c0
      have d := P0.out.c1
      go_simp
     case s60 =>
      rw [w0, w1]
      refine StepP.of rfl ?_
      go_simp
      refine HM1.out.mono ?_
      rintro e w' ⟨rfl, rfl⟩
      exact ⟨rfl, rfl⟩
     case s70 =>
      rw [w1]
      refine StepP.of rfl ?_
      have hv := HV.out
      go_simp
     case s80 =>
      rw [w1, w2, HW2.out]
      refine StepP.of rfl ?_
      go_simp
     case s90 =>
      rw [w2, w3]
      exact StepP.append rfl (.tmp 19) (.tmp 27) 30 rfl _ _ rfl rfl HRUN.out rfl
     case sa0 =>
      rw [w3, w4]
      refine StepP.of rfl ?_
      have c := K3.out.cell
      have d := K3.out.frozen
      go_simp
    case fin =>
      have hsn : fvl zs x (pre ++ [i]) = fvl zs x pre ++ [fv zs x i.1] := by simp [fvl]
      have KW : KeepsFrom wS.heap.size W W1 := by rw [HW1.out]; exact (after_mask1 W _).from _
      have BW : Below w.heap.size W W1 := by rw [HW1.out]; exact after_mask2 _ W _ hsz
      have q1 := J3.out.other (B' := w.heap.size + 1) (by omega) (.slice (some ⟨g3, 0, none⟩) (pre.length + 1) cp3)
      have k8 := k7.mono (Nat.le_succ w.heap.size)
      change Exit.inBlock 1 _ Exit.normal _ (Ws 4)
      rw [w4]
      gi_wp2
      refine ⟨KW.trans (k6.from _), BW.trans k8, ⟨q1, _, k4, ?_, trivial⟩, eB.trans (BW.trans k8)⟩
      rw [hsn]
      simpa [vs] using k5
  case done =>
    rintro D ys W hD rfl ⟨⟨e1, v, e2, e3, _⟩, eB⟩ hK
    obtain ⟨va, vc, rfl⟩ := own_slice e3
    have HE3 := hid e3
    have HK := hid hK
    have c2 := e2.cell
    have HLEN := hid (firsts_length len len (Nat.le_refl _))
    rw [HLEN.out] at c2 HE3
    clear e3 hK
    go_wp2_with fail
    refine ⟨by simp, .inl ⟨_, _, rfl, run_takeDeferred HK.out, ?_⟩⟩
    have hr := ownsRow_putObj HE3.out (.deferred none) HK.out rfl
    refine ⟨.tuple #[.slice va len vc, .int .i64 0], ?_, _, _, rfl, hid hr, eB.trans (belowK_b (w := w) (Nat.le_refl _) _ D _ _ (by omega) HK.out rfl rfl)⟩
    simp [results, Try.f53, go_sem]
  case stop =>
    rintro D c pre W hD _ h hK
    exact h.elim
end Go.Proofs.Ytonjaghkiaaipaa.OldB
