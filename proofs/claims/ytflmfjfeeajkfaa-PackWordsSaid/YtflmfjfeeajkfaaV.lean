/- FromText of layer 2: the text, or its error. No conditions but those of each theorem. -/
import Derived.Test.YtflmfjfeeajkfaaB
import Derived.Laws.IdiomStrings
namespace Go.Proofs.Ytflmfjfeeajkfaa
open Go.ChangeShapes Go.WideShapes Go.ChangeAt Go.RowKit
set_option linter.unusedVariables false
set_option linter.unusedSimpArgs false

theorem Try.info5 : (Try.prog.info? 5).map (fun i => (i.zero, i.size, i.bytes)) = some (some (.int .u8 0), 1, 1) := by kernel_rfl
/-- a row of bytes -/
def rowb (k : Nat) (f : Nat → Nat) : List Value := (List.range k).map fun j => Value.int .u8 (f j : Nat)
theorem rowb_at (k : Nat) (f : Nat → Nat) (j : Nat) (hj : j < k) : (rowb k f)[j]? = some (.int .u8 (f j : Nat)) := by simp [rowb, hj]
theorem rowb_zero (k : Nat) (f : Nat → Nat) (h : ∀ j, j < k → f j = 0) : (madeCells (Value.int .u8 0).cells (k * 1)).toList = rowb k f := by
  rw [show (Value.int .u8 0).cells = #[Value.int .u8 0] from rfl, toList_madeCells_one]
  apply List.ext_getElem?
  intro j
  by_cases hj : j < k
  · rw [rowb_at _ _ _ hj, h j hj]; simp [hj]
  · simp [rowb, hj]
theorem rowb_set (k : Nat) (f g : Nat → Nat) (L x : Nat) (h : ∀ j, j < k → g j = if j = L then x else f j) : (rowb k f).set L (.int .u8 (x : Int)) = rowb k g := by
  apply List.ext_getElem?
  intro j
  rw [List.getElem?_set]
  by_cases hj : j < k
  · rw [rowb_at _ _ _ hj, rowb_at _ _ _ hj, h j hj]
    by_cases e : L = j
    · subst e; simp [hj, rowb]
    · rw [if_neg e, if_neg (fun h => e h.symm)]
  · have e1 : (rowb k f)[j]? = none := by rw [List.getElem?_eq_none_iff]; simp [rowb]; omega
    have e2 : (rowb k g)[j]? = none := by rw [List.getElem?_eq_none_iff]; simp [rowb]; omega
    have e3 : (rowb k f).length = k := by simp [rowb]
    rw [e1, e2]
    split
    · rw [if_neg (by omega)]
    · rfl
theorem ownb_at {w : World} {base g cap n k : Nat} {f : Nat → Nat} (h : w.ownsRow base 5 1 (.slice (some ⟨g, 0, none⟩) n cap) n (rowb k f)) (j : Nat) (hj : j < n) (hn : n = k) : w.cell? ⟨g, j, none⟩ = some (.int .u8 (f j : Nat)) := by
  rw [h.cellAt j (by omega), rowb_at _ _ _ (by omega)]

/-- byte i of the words of a text -/
def fbt (ws : List Nat) (i : Nat) : Nat := (ws[1 + i / 8]?.getD 0 / 2 ^ (8 * (i % 8))) % 256
theorem fbt_lt (ws : List Nat) (i : Nat) : fbt ws i < 256 := Nat.mod_lt _ (by omega)
/-- the text of words -/
def tx (ws : List Nat) (n : Nat) : ByteArray := ⟨((List.range n).map fun i => UInt8.ofNat (fbt ws i)).toArray⟩
theorem tx_size (ws : List Nat) (n : Nat) : (tx ws n).size = n := by simp [tx, ByteArray.size]
theorem tx_back {P : Program} (w : World) (src dst e : TypeId) (g cap n N : Nat) (ws : List Nat) (f : Nat → Nat) (hs : P.underlying src = some (.slice e)) (he : P.underlying e = some (.int .u8)) (hd : P.underlying dst = some .string)
    (h : w.ownsRow 0 5 1 (.slice (some ⟨g, 0, none⟩) N cap) N (rowb N f)) (hn : n ≤ N) (hf : ∀ i, i < n → f i = fbt ws i) : ∀ c, (convert src dst (.slice (some ⟨g, 0, none⟩) n c)).run P w = .ok (.string (tx ws n)) w := by
  intro c
  have h1 := run_convert_bytes_back (P := P) w src dst e ⟨g, 0, none⟩ c ((List.range n).map fun i => UInt8.ofNat (fbt ws i)) hs he hd (fun j hj => by
    have hj' : j < n := by simpa using hj
    have e1 : ((⟨g, 0, none⟩ : Addr).add j) = ⟨g, j, none⟩ := by
      by_cases e : j = 0
      · subst e; simp [Addr.add]
      · simp [Addr.add, e]
    rw [e1, ownb_at h j (by omega) rfl, hf j hj']
    have := fbt_lt ws j
    simp
    omega)
  simp only [List.length_map, List.length_range] at h1
  exact h1
theorem own_zero {w : World} {base : Nat} {e : TypeId} {size : Nat} {v : Value} {n : Nat} {xs : List Value} (h : w.ownsRow base e size v n xs) : w.ownsRow 0 e size v n xs :=
  ⟨h.1, h.2.imp id fun ⟨g, cap, cur, hv, hg, rest⟩ => ⟨g, cap, cur, hv, Nat.zero_le _, rest⟩⟩

theorem u8_byte (x r : Nat) (hx : x < 18446744073709551616) : IntKind.u8.wrap ((x : Int) / 2 ^ r) = ((x / 2 ^ r % 256 : Nat) : Int) := by
  have h : ((x : Int) / 2 ^ r) = ((x / 2 ^ r : Nat) : Int) := by rw [Int.natCast_ediv, Int.natCast_pow]; rfl
  rw [h]
  generalize x / 2 ^ r = y
  simp [IntKind.wrap, IntKind.bits, IntKind.signed]

theorem ft_short (a : Option Addr) (cap : Nat) (w : World) :
    Calls Try.prog 15 #[.slice a 0 cap] w fun e w' => e = .returned (.tuple #[.string { data := #[] }, .int .i64 2]) ∧ w = w' := by
  go_enter Try.func15, Try.ntmps15
  go_wp2_with fail
  go_ret2
  exact ⟨rfl, rfl⟩
theorem ft_big (a : Option Addr) (len cap : Nat) (ws : List Nat) (n₀ : Nat) (hl : 1 ≤ len) (w : World) (hW : Wd n₀ w a len cap ws) (hb : 8192 < ws[0]?.getD 0) :
    Calls Try.prog 15 #[.slice a len cap] w fun e w' => e = .returned (.tuple #[.string { data := #[] }, .int .i64 2]) ∧ w = w' := by
  obtain ⟨b, off, rfl, _, hc⟩ := hW.2.2.2.resolve_left (by omega)
  have hc0 := hc 0 (by omega)
  simp only [Nat.add_zero] at hc0
  have hl2 : ((len : Int) == 0) = false := beq_eq_false_iff_ne.2 (by omega)
  have hl3 : (0 : Int) < (len : Int) := by omega
  clear hW hc
  generalize ws[0]?.getD 0 = x at *
  have hb2 : 8192 < (x : Int) := by omega
  go_enter Try.func15, Try.ntmps15
  go_wp2_with fail
  go_ret2
  exact ⟨rfl, rfl⟩
theorem ft_len (a : Option Addr) (len cap : Nat) (ws : List Nat) (n₀ : Nat) (hl : 1 ≤ len) (w : World) (hW : Wd n₀ w a len cap ws) (hb : ws[0]?.getD 0 ≤ 8192) (hn : len ≠ ln (ws[0]?.getD 0)) :
    Calls Try.prog 15 #[.slice a len cap] w fun e w' => e = .returned (.tuple #[.string { data := #[] }, .int .i64 2]) ∧ w = w' := by
  obtain ⟨b, off, rfl, _, hc⟩ := hW.2.2.2.resolve_left (by omega)
  have hc0 := hc 0 (by omega)
  simp only [Nat.add_zero] at hc0
  have hl2 : ((len : Int) == 0) = false := beq_eq_false_iff_ne.2 (by omega)
  have hl3 : (0 : Int) < (len : Int) := by omega
  clear hW hc
  generalize ws[0]?.getD 0 = x at *
  have hb2 : (x : Int) ≤ 8192 := by omega
  have hw1 : IntKind.i64.wrap (x : Int) = (x : Int) := IntWalk.i64_in _ (by omega)
  have H := hid (length_nat x (by omega) w)
  have hne : ((len : Int) != (ln x : Int)) = true := by rw [bne_iff_ne]; omega
  clear hn
  generalize ln x = m at *
  go_enter Try.func15, Try.ntmps15
  go_wp2_with fail
  refine H.out.mono ?_
  rintro e w' ⟨rfl, rfl⟩
  go_wp2_with fail
  go_ret2
  exact ⟨rfl, rfl⟩

set_option maxHeartbeats 1000000 in
theorem ft_ok (a : Option Addr) (L cap n : Nat) (ws : List Nat) (n₀ : Nat) (w : World) (hn₀ : n₀ ≤ w.heap.size) (hW : Wd n₀ w a (L + 1) cap ws) (h0 : ws[0]?.getD 0 = n) (hb : n ≤ 8192) (hn : L + 1 = ln n) (hp : ∀ i, n ≤ i → i < 8 * L → fbt ws i = 0) :
    Calls Try.prog 15 #[.slice a (L + 1) cap] w fun e w' => e = .returned (.tuple #[.string (tx ws n), .int .i64 0]) ∧ Below w.heap.size w w' := by
  obtain ⟨i0, hi, hz0, hz1, hz2⟩ := info_parts Try.info5
  have HI := hid hi; have HZ0 := hid hz0; have HZ1 := hid hz1; have HZ2 := hid hz2
  have hL : L ≤ 2000 ∧ n ≤ 8 * L := by unfold ln at hn; omega
  obtain ⟨hL1, hL2⟩ := hL
  have M0 := hid (show 8 * (L : Int) = ((8 * L : Nat) : Int) by omega)
  have M1 := hid (show i0.bytes * (8 * L) ≤ 281474976710656 by rw [hz2]; omega)
  have M2 := hid (show 8 * L ≤ maxLen by unfold maxLen; omega)
  have Z1 := hid (rowb_zero (8 * L) (fun j => if j < 0 then fbt ws j else 0) (fun _ _ => if_neg (by omega)))
  clear hi hz0 hz1 hz2
  have HP := hid hp
  have HB := hid hW.2.1
  obtain ⟨b, off, rfl, hbn, hc⟩ := hW.2.2.2.resolve_left (by omega)
  have hc0 := hc 0 (by omega)
  rw [h0] at hc0
  simp only [Nat.add_zero] at hc0
  have HC := hid hc
  have hl3 : (0 : Int) < (L : Int) + 1 := by omega
  have hl2 : ((L : Int) + 1 == 0) = false := beq_eq_false_iff_ne.2 (by omega)
  have hb2 : decide (8192 < (n : Int)) = false := decide_eq_false (by omega)
  have hw1 : IntKind.i64.wrap (n : Int) = (n : Int) := IntWalk.i64_in _ (by omega)
  have H := hid (length_nat n (by omega) w)
  rw [← hn] at H
  clear hW hc h0 hp hn
  go_enter Try.func15, Try.ntmps15
  go_wp2_with fail
  refine H.out.mono ?_
  rintro e w' ⟨rfl, rfl⟩
  go_wp2_with (first | (refine wpList_make_full _ rfl _ _ 51 rfl w.heap.size 5 i0 (.int .u8 0) 1 Try.underlying51 HI.out HZ0.out HZ1.out .i64 .i64 (8 * (L : Int)) (8 * (L : Int)) (8 * L) rfl rfl M0.out M0.out M1.out M2.out (Nat.le_refl _) ?_; intro w3 hown3 hgrow3; rw [Z1.out] at hown3))
  have HD := hid hown3
  have HB3 := hid (((Below.refl w.heap.size w).grown hgrow3 (Nat.le_refl _) (fun k e => by cases e)))
  clear hown3 hgrow3 hc0 hl3 hl2 hb2 hw1 H M1 M2 Z1
  go_loopw [37] (fun iv wr => ∃ k : Nat, k ≤ 8 * L ∧ iv = .int .i64 (k : Int) ∧ Hid (wr.ownsRow w.heap.size 5 1 (.slice (some ⟨w.heap.size, 0, none⟩) (8 * L) (8 * L)) (8 * L) (rowb (8 * L) (fun j => if j < k then fbt ws j else 0))) ∧ Hid (Below w.heap.size w wr)) (fun iv _ => 8 * L - (intOf iv).toNat)
  case atStart => exact ⟨0, by omega, rfl, HD, HB3⟩
  case round =>
    obtain ⟨k, hk, rfl, HD, HB4⟩ := hrel
    by_cases hlt : k < 8 * L
    · have hlt2 : (k : Int) < 8 * (L : Int) := by omega
      obtain ⟨q, hq1⟩ : ∃ q, q = k / 8 := ⟨_, rfl⟩
      obtain ⟨r, hr1⟩ : ∃ r, r = k % 8 := ⟨_, rfl⟩
      have q2 : (k : Int) / 8 = (q : Int) := by omega
      have r2 : (k : Int) % 8 = (r : Int) := by omega
      have r3 : r < 8 := by omega
      have q0 : 1 + q < L + 1 := by omega
      have q3 : 1 + (q : Int) < (L : Int) + 1 := by omega
      have q4 : 0 ≤ 1 + (q : Int) := by omega
      have q5 : (1 + (q : Int)).toNat = 1 + q := by omega
      have r4 : 0 ≤ 8 * (r : Int) := by omega
      have r5 : (8 * (r : Int)).toNat = 8 * r := by omega
      have w5 : (k : Int).tmod 8 = (r : Int) := by rw [Int.tmod_eq_emod_of_nonneg (by omega)]; exact r2
      have hcq := (HB4.out.cell (p := ⟨b, off + (1 + q), none⟩) (Nat.lt_of_lt_of_le hbn hn₀)).trans (HC.out (1 + q) q0)
      have hx := HB.out (1 + q) q0
      have e1 := u8_byte (ws[1 + q]?.getD 0) (8 * r) hx
      have e2 := hid (show fbt ws k = ws[1 + q]?.getD 0 / 2 ^ (8 * r) % 256 by rw [hq1, hr1]; rfl)
      clear hq1 hr1
      have t1 := ownb_at HD.out k hlt rfl
      have t2 := HD.out.frozenAt k
      generalize ws[1 + q]?.getD 0 = x at *
      rw [if_neg (Nat.lt_irrefl k)] at t1
      rw [← e2.out] at e1
      have HN := hid (rowb_set (8 * L) (fun j => if j < k then fbt ws j else 0) (fun j => if j < k + 1 then fbt ws j else 0) k (fbt ws k) (fun j _ => by
        by_cases e : j = k
        · subst e; simp
        · rw [if_neg e]
          by_cases e3 : j < k
          · rw [if_pos e3, if_pos (by omega)]
          · rw [if_neg e3, if_neg (by omega)]))
      have HD2 := hid (HD.out.stored k (.int .u8 (fbt ws k : Int))).1
      rw [HN.out] at HD2
      have HB5 := hid (HB4.out.setCell (p := ⟨w.heap.size, k, none⟩) (Nat.le_refl _) (.int .u8 (fbt ws k : Int)))
      have t3 := ownb_at HD2.out k hlt rfl
      rw [if_pos (Nat.lt_succ_self k)] at t3
      by_cases hkn : k < n
      · have hkn2 : decide ((n : Int) ≤ (k : Int)) = false := decide_eq_false (by omega)
        generalize fbt ws k = y at *
        go_wp2_with fail
        go_roundw
        case rel => exact ⟨k + 1, by omega, by go_num, HD2, HB5⟩
        case measure => simp [intOf]; omega
      · have hkn2 : decide ((n : Int) ≤ (k : Int)) = true := decide_eq_true (by omega)
        have hy := HP.out k (by omega) hlt
        rw [hy] at e1 HD2 HB5 t3
        clear hy HN
        go_wp2_with fail
        go_roundw
        case rel => exact ⟨k + 1, by omega, by go_num, HD2, HB5⟩
        case measure => simp [intOf]; omega
    · obtain rfl : k = 8 * L := by omega
      have hlt2 : ¬ 8 * (L : Int) < 8 * (L : Int) := by omega
      have hn2 : (n : Int) ≤ 8 * (L : Int) := by omega
      have kc := tx_back (P := Try.prog) wr 51 9 5 w.heap.size (8 * L) n (8 * L) ws _ Try.underlying51 Try.underlying5 Try.underlying9 (own_zero HD.out) hL2 (fun i hi => if_pos (by omega))
      go_wp2_with fail
      go_ret2
      exact ⟨rfl, HB4.out⟩
end Go.Proofs.Ytflmfjfeeajkfaa
