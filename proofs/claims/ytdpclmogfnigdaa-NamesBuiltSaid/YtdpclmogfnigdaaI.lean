/- Hex, FromHex and Identity of layer 8. No conditions but those of each theorem. -/
import Derived.Test.YtdpclmogfnigdaaH
namespace Go.Proofs.Ytdpclmogfnigdaa
open Go.ChangeShapes Go.WideShapes Go.ChangeAt Go.RowKit
set_option linter.unusedVariables false
set_option linter.unusedSimpArgs false

/-- the k-th digit's value of a word -/
def dig (x k : Nat) : Nat := x / 2 ^ (60 - 4 * k) % 16
theorem dig_lt (x k : Nat) : dig x k < 16 := Nat.mod_lt _ (by omega)
def hexs : ByteArray := ⟨#[48, 49, 50, 51, 52, 53, 54, 55, 56, 57, 97, 98, 99, 100, 101, 102]⟩
def hexB (d : Nat) : UInt8 := if d < 10 then (48 + d).toUInt8 else (87 + d).toUInt8
theorem hexs_at (d : Nat) (hd : d < 16) : hexs[d]'(by show d < 16; exact hd) = hexB d := by
  revert d; decide
def hexL (x : Nat) : List UInt8 := (List.range 16).map fun k => hexB (dig x k)
theorem hexL_len (x : Nat) : (hexL x).length = 16 := by simp [hexL]
theorem and15 (x k : Nat) (hx : x < 18446744073709551616) : bits BinOp.and IntKind.u64 ((x : Int) / 2 ^ (60 - 4 * k)) 15 = (dig x k : Int) := by
  have h1 : x / 2 ^ (60 - 4 * k) ≤ x := Nat.div_le_self _ _
  have h2 := u64_and_nat (x / 2 ^ (60 - 4 * k)) 15 (by omega) (by omega)
  rw [show (15 : Nat) = 2 ^ 4 - 1 from rfl, Nat.and_two_pow_sub_one_eq_mod] at h2
  have e : ((x / 2 ^ (60 - 4 * k) : Nat) : Int) = (x : Int) / 2 ^ (60 - 4 * k) := by push_cast; rfl
  rw [← e]
  exact h2

def Z16 : Array Value := Array.replicate 16 (.int .u8 0)
theorem zero57 (w : World) : (zeroValue 57).run Try.prog w = .ok (.agg Z16) w := by kernel_rfl
/-- block B holds the first k digits of x -/
def HX (B : Nat) (w : World) (x k : Nat) : Prop :=
  ∃ cs : Array Value, w.heap[B]? = some (.cells cs 57 (0, 0)) ∧ cs.size = 16 ∧ ∀ j, j < 16 → ∃ v : Int, cs[j]? = some (.int .u8 v) ∧ (j < k → v = ((hexB (dig x j)).toNat : Int))
theorem HX.at {B : Nat} {w : World} {x k : Nat} (h : HX B w x k) (j : Nat) (hj : j < 16) : ∃ v : Int, w.cell? ⟨B, j, none⟩ = some (.int .u8 v) ∧ (j < k → v = ((hexB (dig x j)).toNat : Int)) := by
  obtain ⟨cs, h1, h2, h3⟩ := h
  obtain ⟨v, hv, hv2⟩ := h3 j hj
  exact ⟨v, by rw [cell_of_row w B j cs 57 (0, 0) h1, hv], hv2⟩
theorem HX.frozen {B : Nat} {w : World} {x k : Nat} (h : HX B w x k) (j : Nat) : w.frozen? ⟨B, j, none⟩ = false := by
  obtain ⟨cs, h1, _⟩ := h
  exact frozen_of_row w B j cs 57 h1
theorem HX.store {B : Nat} {w : World} {x k : Nat} (h : HX B w x k) (hk : k < 16) (v : Int) (hv : v = ((hexB (dig x k)).toNat : Int)) : HX B (w.setCell ⟨B, k, none⟩ (.int .u8 v)) x (k + 1) := by
  obtain ⟨cs, h1, h2, h3⟩ := h
  refine ⟨cs.setIfInBounds k (.int .u8 v), heap_setCell_same w B k cs 57 _ h1, by simpa using h2, fun j hj => ?_⟩
  rw [Array.getElem?_setIfInBounds]
  by_cases e : k = j
  · rw [if_pos e, if_pos (by omega)]; exact ⟨_, rfl, fun _ => by rw [hv, e]⟩
  · obtain ⟨u, hu, hu2⟩ := h3 j hj
    rw [if_neg e]; exact ⟨u, hu, fun hj2 => hu2 (by omega)⟩
theorem HX.new (w : World) (B x : Nat) (h : w.heap[B]? = .some (.cells Z16 57 (0, 0))) : HX B w x 0 :=
  ⟨Z16, h, by simp [Z16], fun j hj => ⟨0, by simp [Z16, hj], fun h => by omega⟩⟩
theorem HX.back {B : Nat} {w : World} {x : Nat} (h : HX B w x 16) (c : Nat) : (convert 54 9 (.slice (some ⟨B, 0, none⟩) 16 c)).run Try.prog w = .ok (.string (bs (hexL x))) w := by
  have h1 := run_convert_bytes_back (P := Try.prog) w 54 9 5 ⟨B, 0, none⟩ c (hexL x) (by kernel_rfl) (by kernel_rfl) (by kernel_rfl) (fun j hj => by
    have hj' : j < 16 := by simpa [hexL] using hj
    obtain ⟨v, h2, h3⟩ := h.at j hj'
    have e1 : ((⟨B, 0, none⟩ : Addr).add j) = ⟨B, j, none⟩ := by
      by_cases e : j = 0
      · subst e; simp [Addr.add]
      · simp [Addr.add, e]
    rw [e1, h2, h3 hj']
    simp [hexL])
  rw [hexL_len] at h1
  exact h1
set_option maxHeartbeats 4000000 in
theorem hex_any (x : Nat) (hx : x < 18446744073709551616) (w : World) :
    Calls Try.prog 21 #[.int .u64 (x : Int)] w fun e w' => e = .returned (.string (bs (hexL x))) ∧ Below w.heap.size w w' := by
  have z := zero57
  go_enter Try.func21, Try.ntmps21
  go_wp2_with fail
  obtain ⟨w1, hw1⟩ : ∃ w1, w1 = w.alloc (.cells Z16 57) := ⟨_, rfl⟩
  have HB1 := hid (show Below w.heap.size w w1 by rw [hw1]; exact (Below.refl _ _).alloc (Nat.le_refl _) _)
  have HN := hid (show HX w.heap.size w1 x 0 by rw [hw1]; exact HX.new _ _ _ (heap_alloc_new w _))
  have HS1 := hid (show w.heap.size < w1.heap.size by rw [hw1]; simp)
  rw [← hw1]
  clear hw1
  generalize hB : w.heap.size = B at *
  go_loopw [5] (fun iv wr => ∃ k : Nat, k ≤ 16 ∧ iv = .int .i64 (k : Int) ∧ Hid (Below B w wr) ∧ Hid (HX B wr x k)) (fun iv _ => 16 - (intOf iv).toNat)
  case atStart => exact ⟨0, by omega, rfl, HB1, HN⟩
  case round =>
    obtain ⟨k, hk, rfl, HB, HK⟩ := hrel
    by_cases h16 : k < 16
    · have h16' : (k : Int) < 16 := by omega
      have hr : (60 : Int) - 4 * (k : Int) = ((60 - 4 * k : Nat) : Int) := by omega
      have hd := and15 x k hx
      have hdl := dig_lt x k
      have hi := hexs_at (dig x k) hdl
      unfold hexs at hi
      obtain ⟨v, c1, _⟩ := HK.out.at k h16
      have c2 := HK.out.frozen k
      have HF := hid (fun v hv => HK.out.store h16 v hv)
      have HB2 := hid (fun v => HB.out.setCell (p := ⟨B, k, none⟩) (Nat.le_refl _) v)
      generalize dig x k = d at *
      have hdl' : (d : Int) < 16 := by omega
      go_wp2_with fail
      go_roundw
      case rel => exact ⟨k + 1, by omega, by go_num, HB2.out _, HF.out _ rfl⟩
      case measure => simp [intOf]; omega
    · obtain rfl : k = 16 := by omega
      have hb := HK.out.back
      go_wp2_with fail
      go_ret
      exact ⟨rfl, by rw [hB]; exact HB.out⟩

/-- a digit's value, or less than 0 -/
def digV (c : UInt8) : Int := Lib.indexByte hexs.data.toList c
theorem digV_le : ∀ c : UInt8, digV c < 16 ∧ (0 ≤ digV c → c = hexB (digV c).toNat) := by
  intro c
  have h : ∀ n : Fin 256, digV (UInt8.ofNat n.val) < 16 ∧ (0 ≤ digV (UInt8.ofNat n.val) → (UInt8.ofNat n.val) = hexB (digV (UInt8.ofNat n.val)).toNat) := by decide +kernel
  have := h ⟨c.toNat, c.toNat_lt⟩
  simpa using this
theorem digV_hex (d : Nat) (hd : d < 16) : digV (hexB d) = d := by
  revert d
  decide +kernel
/-- the number that the digits of a text write behind x -/
def hv : List UInt8 → Nat → Option Nat
  | [], x => some x
  | c :: t, x => if digV c < 0 then none else hv t (x * 16 + (digV c).toNat)
/-- FromHex's answer -/
def fhL (l : List UInt8) : Nat × Int := if l.length = 16 then (match hv l 0 with | none => (0, 2) | some x => (x, 0)) else (0, 2)
theorem hv_drop {s : ByteArray} {k : Nat} (hk : k < s.size) (x : Nat) : hv (s.data.toList.drop k) x = if digV s[k] < 0 then none else hv (s.data.toList.drop (k + 1)) (x * 16 + (digV s[k]).toNat) := by
  have hl : k < s.data.toList.length := by rw [data_size]; exact hk
  rw [List.drop_eq_getElem_cons hl, show s.data.toList[k] = s[k] by simp [ByteArray.getElem_eq_getElem_data]]
  rfl
theorem or_dig (x d : Nat) (hx : x < 1152921504606846976) (hd : d < 16) : bits BinOp.or IntKind.u64 ((x : Int) * 16) (d : Int) = ((x * 16 + d : Nat) : Int) := by
  have h := u64_or_nat (x * 16) d (by omega) (by omega)
  have e : x * 16 ||| d = x * 16 + d := by
    rw [show x * 16 = 2 ^ 4 * x by omega]
    exact (Nat.two_pow_add_eq_or_of_lt (i := 4) (by simpa using hd) x).symm
  rw [e] at h
  simpa using h
set_option maxHeartbeats 4000000 in
theorem fromhex_any (s : ByteArray) (w : World) :
    Calls Try.prog 22 #[.string s] w fun e w' => e = .returned (.tuple #[.int .u64 ((fhL s.data.toList).1 : Int), .int .i64 (fhL s.data.toList).2]) ∧ Below w.heap.size w w' := by
  have hl := data_size s
  by_cases h16 : s.size = 16
  · have HE := hid (show fhL s.data.toList = (match hv s.data.toList 0 with | none => (0, 2) | some x => (x, 0)) by unfold fhL; rw [if_pos (by omega)])
    clear hl
    have h16' : (s.size : Int) = 16 := by omega
    go_enter Try.func22, Try.ntmps22
    go_wp2_with fail
    go_loopw [4, 12] (fun xv iv wr => ∃ k x : Nat, k ≤ 16 ∧ x < 16 ^ k ∧ xv = .int .u64 (x : Int) ∧ iv = .int .i64 (k : Int) ∧ Hid (hv s.data.toList 0 = hv (s.data.toList.drop k) x) ∧ Hid (Below w.heap.size w wr)) (fun _ iv _ => 16 - (intOf iv).toNat)
    case atStart => exact ⟨0, 0, by omega, by omega, rfl, rfl, hid rfl, hid (Below.refl _ _)⟩
    case round =>
      obtain ⟨k, x, hk, hx, rfl, rfl, HV, HB⟩ := hrel
      by_cases hlt : k < 16
      · have hlt' : (k : Int) < 16 := by omega
        have hks : k < s.size := by omega
        have hx2 : x < 1152921504606846976 := Nat.lt_of_lt_of_le hx (Nat.le_trans (Nat.pow_le_pow_right (by omega) (show k ≤ 15 by omega)) (by decide))
        have hx3 := HV.out.trans (hv_drop hks x)
        have HC := hid (at_any hexs (s[k].toNat : Int))
        rw [show ((s[k].toNat : Int).toNat.toUInt8) = s[k] by simp] at HC
        unfold digV at hx3
        have hd0 := (digV_le s[k]).1
        unfold digV at hd0
        generalize Lib.indexByte hexs.data.toList s[k] = v at *
        have HBd := hid HB.out.drew
        have HXX := hid hx
        unfold hexs at HC
        by_cases hv0 : v < 0
        · rw [if_pos hv0] at hx3
          have H3 := hid hx3
          clear hx3 hx HV
          go_wp2_with fail
          refine (HC.out _).mono ?_
          rintro e w1 ⟨rfl, rfl⟩
          go_wp2_with fail
          go_ret2
          exact ⟨by rw [HE.out, H3.out]; rfl, by first | exact HBd.out | exact HB.out⟩
        · rw [if_neg hv0] at hx3
          obtain ⟨d, rfl⟩ : ∃ d : Nat, v = d := ⟨v.toNat, by omega⟩
          have H3 := hid hx3
          have hd1 : d < 16 := by omega
          have ho := or_dig x d hx2 hd1
          clear hx3 hx HV
          go_wp2_with fail
          refine (HC.out _).mono ?_
          rintro e w1 ⟨rfl, rfl⟩
          go_wp2_with fail
          go_roundw
          case rel => exact ⟨k + 1, x * 16 + d, by omega, by rw [Nat.pow_succ]; have := HXX.out; omega, by go_num, by go_num, hid (by rw [H3.out]; simp), by first | exact HBd | exact HB⟩
          case measure => simp [intOf]; omega
      · obtain rfl : k = 16 := by omega
        have H3 := hid (show hv s.data.toList 0 = some x by rw [HV.out, List.drop_eq_nil_of_le (by rw [data_size]; omega)]; rfl)
        clear HV hx
        go_wp2_with fail
        go_ret2
        exact ⟨by rw [HE.out, H3.out]; rfl, HB.out⟩
  · have HE := hid (show fhL s.data.toList = (0, 2) by unfold fhL; rw [if_neg (by omega)])
    clear hl
    have h16' : ¬ (s.size : Int) = 16 := by omega
    go_enter Try.func22, Try.ntmps22
    go_wp2_with fail
    go_ret2
    exact ⟨by rw [HE.out]; rfl, Below.refl _ _⟩

/-- the formula's identity -/
def idN (g n : Int) : Int := IntKind.u64.wrap (IntKind.u64.wrap (g * 2862933555777941757) + IntKind.u64.wrap (IntKind.u64.wrap n * 3037000493))
set_option maxHeartbeats 4000000 in
theorem ident_any (g n : Int) (w : World) : Calls Try.prog 23 #[.int .u64 g, .int .i64 n] w fun e w' => e = .returned (.int .u64 (idN g n)) ∧ w' = w := by
  go_enter Try.func23, Try.ntmps23
  go_wp2_with fail
  go_ret
  exact ⟨rfl, rfl⟩
set_option maxHeartbeats 4000000 in
theorem rident_any (g n : Int) (w : World) : Calls Try.prog 24 #[.int .u64 g, .int .i64 n] w fun e w' => e = .returned (.int .u64 (idN g n)) ∧ w' = w := by
  go_enter Try.func24, Try.ntmps24
  go_wp2_with fail
  go_ret
  exact ⟨rfl, rfl⟩

/-- the reference's Hex -/
def hexT (x k : Nat) : List UInt8 := (List.range k).map fun k => hexB (dig x k)
theorem hexT_succ (x k : Nat) : hexT x (k + 1) = hexT x k ++ [hexB (dig x k)] := by
  unfold hexT
  rw [List.range_succ, List.map_append]
  rfl
theorem one_dig (d : Nat) (hd : d < 16) : hexs.extract d (d + 1) = bs [hexB d] := by
  revert d
  decide +kernel
set_option maxHeartbeats 4000000 in
theorem rhex_any (x : Nat) (hx : x < 18446744073709551616) (w : World) :
    Calls Try.prog 25 #[.int .u64 (x : Int)] w fun e w' => e = .returned (.string (bs (hexL x))) ∧ Below w.heap.size w w' := by
  go_enter Try.func25, Try.ntmps25
  go_wp2_with fail
  go_loopw [3, 4] (fun sv iv wr => ∃ k : Nat, k ≤ 16 ∧ sv = .string (bs (hexT x k)) ∧ iv = .int .i64 (60 - 4 * (k : Int)) ∧ Hid (Below w.heap.size w wr)) (fun _ iv _ => (intOf iv + 4).toNat)
  case atStart => exact ⟨0, by omega, rfl, by go_num, hid (Below.refl _ _)⟩
  case round =>
    obtain ⟨k, hk, rfl, rfl, HB⟩ := hrel
    by_cases h16 : k < 16
    · have h16' : (0 : Int) ≤ 60 - 4 * (k : Int) := by omega
      have hr : (60 : Int) - 4 * (k : Int) = ((60 - 4 * k : Nat) : Int) := by omega
      have hd := and15 x k hx
      have hdl := dig_lt x k
      have hi := one_dig (dig x k) hdl
      have hA := bs_app (bs (hexT x k)) (bs [hexB (dig x k)])
      rw [bs_data, bs_data, ← hexT_succ] at hA
      have hsz : (bs (hexT x k)).size = k := by rw [bs_size]; simp [hexT]
      have hsz1 : (bs [hexB (dig x k)]).size = 1 := rfl
      generalize bs (hexT x k) = t at *
      obtain ⟨t2, ht2⟩ : ∃ t2, t2 = bs (hexT x (k + 1)) := ⟨_, rfl⟩
      rw [← ht2] at hA
      have HT2 := hid ht2
      clear ht2
      generalize dig x k = d at *
      generalize bs [hexB d] = u at *
      unfold hexs at hi
      have hdl' : (d : Int) < 16 := by omega
      go_wp2_with fail
      go_roundw
      case rel => exact ⟨k + 1, by omega, by rw [HT2.out], by go_num, HB⟩
      case measure => simp [intOf]; omega
    · obtain rfl : k = 16 := by omega
      have h16' : ¬ (0 : Int) ≤ 60 - 4 * ((16 : Nat) : Int) := by omega
      go_wp2_with fail
      go_ret
      exact ⟨rfl, HB.out⟩
end Go.Proofs.Ytdpclmogfnigdaa
