/- Widths of fields: the check of layer 2, and the iterator over fields. No conditions but those of each theorem. -/
import Derived.Test.YtonjaghkiaaipaaOBC
import Derived.RangeFuncBox
import Derived.RangeFuncLeaves
import Derived.RangeFuncFrom
import Derived.RangeFuncWrites
import Derived.Shelf.Abstract
import Derived.Shelf.RegionOpen
import Derived.OwnWalkIn
import Derived.TacticsInMore
import Derived.LoopNIn
import Derived.LoopIn
namespace Go.Proofs.Ytonjaghkiaaipaa.OldB
open Go.ChangeShapes Go.WideShapes Go.ChangeAt Go.RowKit Go.Shelf
set_option linter.unusedVariables false
attribute [local go_sem] Oper.semAt_some

/-- the sum of the first widths -/
def sw (zs : List Int) : Nat → Int
  | 0 => 0
  | k + 1 => sw zs k + zs[k]?.getD 0
/-- width k fits behind those before it -/
def fit (zs : List Int) (k : Nat) : Prop := 1 ≤ zs[k]?.getD 0 ∧ zs[k]?.getD 0 ≤ 64 - sw zs k
theorem sw_bd (zs : List Int) (k : Nat) (h : ∀ j, j < k → fit zs j) : 0 ≤ sw zs k ∧ sw zs k ≤ 64 := by
  induction k with
  | zero => simp [sw]
  | succ k ih =>
    have h1 := ih (fun j hj => h j (by omega))
    have h2 := h k (by omega)
    unfold fit at h2
    unfold sw
    omega

/-- the widths lie in W, below n₀ -/
def Wi (n₀ : Nat) (W : World) (a : Option Addr) (len : Nat) (zs : List Int) : Prop :=
  len = 0 ∨ ∃ b off, a = some ⟨b, off, none⟩ ∧ b < n₀ ∧ ∀ j, j < len → W.cell? ⟨b, off + j, none⟩ = some (.int .i64 (zs[j]?.getD 0))
theorem Wi.below {n₀ : Nat} {A B : World} (h : Below n₀ A B) {a : Option Addr} {len : Nat} {zs : List Int} : Wi n₀ A a len zs → Wi n₀ B a len zs
  | .inl e => .inl e
  | .inr ⟨b, off, e, hb, hc⟩ => .inr ⟨b, off, e, hb, fun j hj => (h.cell (p := ⟨b, off + j, none⟩) hb).trans (hc j hj)⟩

theorem chk_ok (a : Option Addr) (len cap : Nat) (zs : List Int) (n₀ : Nat) (w : World) (hbig : len ≤ 9223372036854775807) (hI : Wi n₀ w a len zs) (hz : ∀ j, j < len → fit zs j) :
    Calls Try.prog 57 #[.slice a len cap] w fun e w' => e = .returned (.int .i64 0) ∧ w = w' := by
  have HI := hid hI
  have HZ := hid hz
  clear hI hz
  go_enter Try.func57, Try.ntmps57
  go_wp2
  go_loop [3, 8] (fun sv iv => ∃ k : Nat, k ≤ len ∧ iv = .int .i64 (k : Int) ∧ sv = .int .i64 (sw zs k)) (fun _ iv => len - (intOf iv).toNat)
  case atStart => exact ⟨0, by omega, rfl, rfl⟩
  case round =>
    obtain ⟨k, hk, rfl, rfl⟩ := hrel
    by_cases hlt : k < len
    · obtain ⟨b, off, rfl, _, hall⟩ := HI.out.resolve_left (by omega)
      have hck := hall k hlt
      clear hall
      have hf := HZ.out k hlt
      obtain ⟨h1, h2⟩ := sw_bd zs k (fun j hj => HZ.out j (by omega))
      unfold fit at hf
      have HS := hid (show sw zs (k + 1) = sw zs k + zs[k]?.getD 0 from rfl)
      generalize zs[k]?.getD 0 = z at *
      generalize sw zs k = s at *
      obtain ⟨f1, f2⟩ := hf
      have h3 : (k : Int) < (len : Int) := by omega
      go_wp2
      go_round
      case rel => exact ⟨k + 1, by omega, by go_num, by rw [HS.out]⟩
      case measure => simp [intOf]; omega
    · obtain rfl : k = len := by omega
      have h3 : ¬ (k : Int) < (k : Int) := by omega
      go_wp2
      go_ret
      exact ⟨rfl, rfl⟩

theorem chk_no (a : Option Addr) (len cap : Nat) (zs : List Int) (n₀ : Nat) (w : World) (hbig : len ≤ 9223372036854775807) (hI : Wi n₀ w a len zs) (k0 : Nat) (hk0 : k0 < len) (hz : ∀ j, j < k0 → fit zs j) (hn : ¬ fit zs k0) :
    Calls Try.prog 57 #[.slice a len cap] w fun e w' => e = .returned (.int .i64 1) ∧ w = w' := by
  have HI := hid hI
  have HZ := hid hz
  have HN := hid hn
  clear hI hz hn
  go_enter Try.func57, Try.ntmps57
  go_wp2
  go_loop [3, 8] (fun sv iv => ∃ k : Nat, k ≤ k0 ∧ iv = .int .i64 (k : Int) ∧ sv = .int .i64 (sw zs k)) (fun _ iv => len - (intOf iv).toNat)
  case atStart => exact ⟨0, by omega, rfl, rfl⟩
  case round =>
    obtain ⟨k, hk, rfl, rfl⟩ := hrel
    obtain ⟨b, off, rfl, _, hall⟩ := HI.out.resolve_left (by omega)
    have hck := hall k (by omega)
    clear hall
    obtain ⟨h1, h2⟩ := sw_bd zs k (fun j hj => HZ.out j (by omega))
    have h3 : (k : Int) < (len : Int) := by omega
    by_cases hlt : k < k0
    · have hf := HZ.out k hlt
      unfold fit at hf
      have HS := hid (show sw zs (k + 1) = sw zs k + zs[k]?.getD 0 from rfl)
      generalize zs[k]?.getD 0 = z at *
      generalize sw zs k = s at *
      obtain ⟨f1, f2⟩ := hf
      go_wp2
      go_round
      case rel => exact ⟨k + 1, by omega, by go_num, by rw [HS.out]⟩
      case measure => simp [intOf]; omega
    · obtain rfl : k = k0 := by omega
      have hf := HN.out
      unfold fit at hf
      generalize zs[k]?.getD 0 = z at *
      generalize sw zs k = s at *
      by_cases f1 : z < 1
      · clear hf
        go_wp2
        go_ret
        exact ⟨rfl, rfl⟩
      · have f2 : 64 - s < z := by omega
        clear hf
        go_wp2
        go_ret
        exact ⟨rfl, rfl⟩

theorem first_not (p : Nat → Prop) (len : Nat) (h : ¬ ∀ j, j < len → p j) : ∃ k0, k0 < len ∧ (∀ j, j < k0 → p j) ∧ ¬ p k0 := by
  induction len with
  | zero => exact absurd (fun j hj => by omega) h
  | succ n ih =>
    by_cases hn : ∀ j, j < n → p j
    · refine ⟨n, by omega, hn, fun hp => h fun j hj => ?_⟩
      by_cases e : j = n
      · rw [e]; exact hp
      · exact hn j (by omega)
    · obtain ⟨k0, h1, h2, h3⟩ := ih hn
      exact ⟨k0, by omega, h2, h3⟩

/-- the arguments of a round: its number, and the field -/
abbrev fenc (zs : List Int) (i : Nat) : Array Value := #[.int .i64 (i : Int), .agg #[.int .i64 (sw zs i), .int .i64 (zs[i]?.getD 0)]]

abbrev Ix (len : Nat) := { i : Nat // i < len }
/-- the first k numbers -/
def firsts (len : Nat) : (k : Nat) → k ≤ len → List (Ix len)
  | 0, _ => []
  | k + 1, h => firsts len k (by omega) ++ [⟨k, h⟩]
theorem firsts_length (len k : Nat) (h : k ≤ len) : (firsts len k h).length = k := by
  induction k with
  | zero => rfl
  | succ k ih => simp [firsts, ih]

set_option maxRecDepth 100000 in
set_option maxHeartbeats 2000000 in
theorem it_in (F : Fence) (n : Nat) (h35 : F.fn 64) (hro : F.round = none) (hn : 1 ≤ n) (l Bs n₀ len cap : Nat) (a : Option Addr) (zs : List Int) (hbig : len ≤ 9223372036854775807) (hz : ∀ j, j < len → fit zs j) (J Jx : List (Ix len) → World → Prop)
    (hY : ∀ pre (x : Ix len) W, J pre W → pre.length < len → YieldAt F (n - 1) Try.prog l (fenc zs x.1) W fun e W' =>
      (e = .returned (.bool true) ∧ J (pre ++ [x]) W' ∧ Below n₀ W W') ∨ (e = .returned (.bool false) ∧ Jx (pre ++ [x]) W'))
    (W : World) (hBs : W.cell? ⟨Bs, 0, none⟩ = some (.slice a len cap)) (hI : Wi n₀ W a len zs) (h0 : J [] W) :
    CallsIn F n Try.prog 64 #[.func (.yield l) #[] #[], .pointer (some ⟨Bs, 0, none⟩)] W fun e W' => (∃ v, e = .returned v) ∧
      ((∃ ys, ys = firsts len len (Nat.le_refl _) ∧ J ys W') ∨ (∃ pre : List (Ix len), Jx pre W')) := by
  refine callsIn_of_wp Try.func64 rfl h35 ?_ hro
  simp only [Try.ntmps64, List.size_toArray, List.length_cons, List.length_nil, Nat.reduceAdd, Nat.reduceSub, Array.replicate_succ, Array.replicate_zero, List.push_toArray, List.append_toArray, List.nil_append, List.cons_append]
  have HY := hid hY
  have HI := hid hI
  have HZ := hid hz
  clear hY hI hz
  gi_wp2
  gi_loopw [3, 8] (fun sv i wr => ∃ (k : Nat) (hk : k ≤ len), i = .int .i64 (k : Int) ∧ sv = .int .i64 (sw zs k) ∧ J (firsts len k hk) wr ∧ Below n₀ W wr) (fun _ i _ => len - (intOf i).toNat)
  case atStart => exact ⟨0, Nat.zero_le _, rfl, rfl, h0, Below.refl _ _⟩
  case round =>
    obtain ⟨k, hk, rfl, rfl, hJs, hnx⟩ := hrel
    have HJ := hid hJs
    clear hJs
    by_cases hlt : k < len
    · obtain ⟨b, off, rfl, hb, hall⟩ := (HI.out.below hnx).resolve_left (by omega)
      have hck := hall k hlt
      clear hall
      obtain ⟨s1, s2⟩ := sw_bd zs k (fun j hj => HZ.out j (by omega))
      have hf := HZ.out k hlt
      unfold fit at hf
      obtain ⟨fn, tmps, assign, body, hy, hR⟩ := HY.out _ (⟨k, hlt⟩ : Ix len) _ HJ.out (by rw [firsts_length]; exact hlt)
      dsimp only [fenc] at hy
      have HR := hid hR
      clear hR
      have hlt2 : (k : Int) < (len : Int) := by omega
      have HS := hid (show sw zs (k + 1) = sw zs k + zs[k]?.getD 0 from rfl)
      have HF := hid (show firsts len (k + 1) hlt = firsts len k hk ++ [⟨k, hlt⟩] from rfl)
      gi_wp2
      refine HR.out.mono ?_
      rintro e W3 (⟨rfl, hJ3, hk3⟩ | ⟨rfl, hJx3⟩)
      · have w1 : wrap64 (sw zs k + zs[k]?.getD 0) = sw zs k + zs[k]?.getD 0 := IntWalk.wrap64_in _ (by omega)
        gi_wp2
        go_roundw
        case rel => exact ⟨k + 1, hlt, by go_num, by rw [HS.out], by rw [HF.out]; exact hJ3, hnx.trans hk3⟩
        case measure => simp [intOf]; omega
      · gi_wp2
        refine bodyPost_ret (results_none rfl _ _ _) rfl ?_
        exact ⟨⟨_, rfl⟩, .inr ⟨_, hJx3⟩⟩
    · obtain rfl : k = len := by omega
      have hlt2 : ¬ (k : Int) < (k : Int) := by omega
      gi_wp2
      go_end0
      exact ⟨⟨_, rfl⟩, by first | exact .inl ⟨_, rfl, HJ.out⟩ | exact .inl HJ.out | exact HJ.out⟩

set_option maxHeartbeats 1000000 in
theorem fields_in (F : Fence) (n : Nat) (h31 : F.fn 58) (hro : F.round = none) (a : Option Addr) (len cap : Nat) (w : World) :
    CallsIn F n Try.prog 58 #[.slice a len cap] w fun e w' => e = .returned (.func (.func 64) #[] #[.pointer (some ⟨w.heap.size, 0, none⟩)]) ∧ w' = w.alloc (.cells #[.slice a len cap] 22) := by
  refine callsIn_of_wp Try.func58 rfl h31 ?_ hro
  simp only [Try.ntmps58, List.size_toArray, List.length_cons, List.length_nil, Nat.reduceAdd, Nat.reduceSub, Array.replicate_succ, Array.replicate_zero, List.push_toArray, List.append_toArray, List.nil_append, List.cons_append]
  gi_wp2
  go_ret
  exact ⟨rfl, rfl⟩

theorem fields_stops (F : Fence) (n : Nat) (h35 : F.fn 64) (hro : F.round = none) (hn : 1 ≤ n) (Bs n₀ : Nat) (a : Option Addr) (len cap : Nat) (zs : List Int) (hbig : len ≤ 9223372036854775807) (hz : ∀ j, j < len → fit zs j) (w : World) (hBs : Bs < w.heap.size) (hn₀ : n₀ ≤ w.heap.size)
    (hc : w.cell? ⟨Bs, 0, none⟩ = some (.slice a len cap)) (hI : Wi n₀ w a len zs) :
    SeqStopsK F n Try.prog 64 #[.pointer (some ⟨Bs, 0, none⟩)] (fun x : Ix len => fenc zs x.1) (Below n₀) (fun ys => ys = firsts len len (Nat.le_refl _)) (fun _ => True) len w := fun l J Jx W hW _ _ hY h0 => by
  have hc' := (hW.cell (p := ⟨Bs, 0, none⟩) hBs).trans hc
  refine (it_in F n h35 hro hn l Bs n₀ len cap a zs hbig hz J Jx hY W hc' (hI.below (hW.mono hn₀)) h0).mono ?_
  rintro e W' ⟨he, ⟨ys, rfl, hj⟩ | ⟨pre, hj⟩⟩
  · exact ⟨he, .inl ⟨_, rfl, hj⟩⟩
  · exact ⟨he, .inr ⟨_, trivial, hj⟩⟩

theorem mask_num : ∀ n, n < 65 → (18446744073709551615 : Int) / 2 ^ (64 - n) = ((2 ^ n - 1 : Nat) : Int) := by decide +kernel
/-- the greatest value of a field of b bits -/
theorem mask_any (lo b : Int) (h1 : 1 ≤ b) (h2 : b ≤ 64) (w : World) :
    Calls Try.prog 59 #[.agg #[.int .i64 lo, .int .i64 b]] w fun e w' => e = .returned (.int .u64 ((2 ^ b.toNat - 1 : Nat) : Int)) ∧ Below w.heap.size w w' := by
  have hm := hid (show (18446744073709551615 : Int) / 2 ^ (64 - b).toNat = ((2 ^ b.toNat - 1 : Nat) : Int) by
    have := mask_num b.toNat (by omega)
    rwa [show 64 - b.toNat = (64 - b).toNat by omega] at this)
  go_enter Try.func59, Try.ntmps59
  go_wp2_with fail
  rw [hm.out]
  go_ret
  exact ⟨rfl, (Below.refl _ _).alloc (Nat.le_refl _) _⟩

/-- the word of the first fields -/
def fw (zs : List Int) (vs : List Nat) : Nat → Nat
  | 0 => 0
  | k + 1 => fw zs vs k ||| ((vs[k]?.getD 0) <<< (sw zs k).toNat)
/-- value k fits its width -/
def vfit (zs : List Int) (vs : List Nat) (k : Nat) : Prop := vs[k]?.getD 0 < 2 ^ (zs[k]?.getD 0).toNat
theorem fw_lt (zs : List Int) (vs : List Nat) (k : Nat) (h : ∀ j, j < k → fit zs j ∧ vfit zs vs j) : fw zs vs k < 2 ^ 64 := by
  induction k with
  | zero => simp [fw]
  | succ k ih =>
    have h1 := ih (fun j hj => h j (by omega))
    obtain ⟨h2, h3⟩ := h k (by omega)
    obtain ⟨s1, s2⟩ := sw_bd zs k (fun j hj => (h j (by omega)).1)
    unfold fit at h2
    unfold vfit at h3
    unfold fw
    refine Nat.or_lt_two_pow h1 ?_
    rw [Nat.shiftLeft_eq]
    have h4 : vs[k]?.getD 0 * 2 ^ (sw zs k).toNat < 2 ^ (zs[k]?.getD 0).toNat * 2 ^ (sw zs k).toNat := Nat.mul_lt_mul_of_pos_right h3 (Nat.two_pow_pos _)
    rw [← Nat.pow_add] at h4
    exact Nat.lt_of_lt_of_le h4 (Nat.pow_le_pow_right (by omega) (by omega))

/-- the values lie in W, below n₀ -/
def Va (n₀ : Nat) (W : World) (a : Option Addr) (len : Nat) (vs : List Nat) : Prop :=
  (∀ j, j < len → vs[j]?.getD 0 < 18446744073709551616) ∧ (len = 0 ∨ ∃ b off, a = some ⟨b, off, none⟩ ∧ b < n₀ ∧ ∀ j, j < len → W.cell? ⟨b, off + j, none⟩ = some (.int .u64 (vs[j]?.getD 0 : Nat)))
theorem Va.below {n₀ : Nat} {A B : World} (h : Below n₀ A B) {a : Option Addr} {len : Nat} {vs : List Nat} : Va n₀ A a len vs → Va n₀ B a len vs
  | ⟨h1, .inl e⟩ => ⟨h1, .inl e⟩
  | ⟨h1, .inr ⟨b, off, e, hb, hc⟩⟩ => ⟨h1, .inr ⟨b, off, e, hb, fun j hj => (h.cell (p := ⟨b, off + j, none⟩) hb).trans (hc j hj)⟩⟩
end Go.Proofs.Ytonjaghkiaaipaa.OldB
