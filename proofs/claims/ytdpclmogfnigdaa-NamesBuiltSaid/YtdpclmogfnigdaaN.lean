/- The reference's names and tags. No conditions but those of each theorem. -/
import Derived.Test.YtdpclmogfnigdaaM
namespace Go.Proofs.Ytdpclmogfnigdaa
open Go.ChangeShapes Go.WideShapes Go.ChangeAt Go.RowKit
set_option linter.unusedVariables false
set_option linter.unusedSimpArgs false

/-- a byte is in a text -/
def isIn (c : Nat) (l : List UInt8) : Bool := l.any (fun x => x.toNat == c)
theorem isIn_drop {s : ByteArray} {k : Nat} (hk : k < s.size) (c : Nat) : isIn c (s.data.toList.drop k) = (s[k].toNat == c || isIn c (s.data.toList.drop (k + 1))) := by
  have hl : k < s.data.toList.length := by rw [data_size]; exact hk
  rw [List.drop_eq_getElem_cons hl, show s.data.toList[k] = s[k] by simp [ByteArray.getElem_eq_getElem_data]]
  rfl
set_option maxHeartbeats 4000000 in
theorem within_any (c : Nat) (s : ByteArray) (hs : s.size ≤ 9223372036854775806) (w : World) :
    Calls Try.prog 52 #[.int .u8 (c : Int), .string s] w fun e w' => e = .returned (.bool (isIn c s.data.toList)) ∧ w' = w := by
  go_enter Try.func52, Try.ntmps52
  go_wp2_with fail
  go_loopw [5] (fun iv wr => ∃ k : Nat, k ≤ s.size ∧ iv = .int .i64 (k : Int) ∧ wr = w ∧ Hid (isIn c s.data.toList = isIn c (s.data.toList.drop k))) (fun iv _ => s.size - (intOf iv).toNat)
  case atStart => exact ⟨0, by omega, rfl, rfl, hid rfl⟩
  case round =>
    obtain ⟨k, hk, rfl, rfl, HE⟩ := hrel
    by_cases hlt : k < s.size
    · have hlt' : (k : Int) < (s.size : Int) := by omega
      have h2 := HE.out.trans (isIn_drop hlt c)
      by_cases he : s[k].toNat = c
      · have he' : (s[k].toNat : Int) = (c : Int) := by omega
        rw [show (s[k].toNat == c) = true by simp [he], Bool.true_or] at h2
        have H2 := hid h2
        clear h2 he HE
        go_wp2_with fail
        go_ret
        exact ⟨by rw [H2.out]; rfl, rfl⟩
      · have he' : ¬ (s[k].toNat : Int) = (c : Int) := by omega
        rw [show (s[k].toNat == c) = false by simp [he], Bool.false_or] at h2
        have H2 := hid h2
        clear h2 he HE
        go_wp2_with fail
        go_roundw
        case rel => exact ⟨k + 1, by omega, by go_num, by first | rfl | exact True.intro, H2⟩
        case measure => simp [intOf]; omega
    · obtain rfl : k = s.size := by omega
      have hlt' : ¬ (s.size : Int) < (s.size : Int) := by omega
      have h2 := HE.out
      rw [List.drop_eq_nil_of_le (by rw [data_size]; omega)] at h2
      have H2 := hid (show isIn c s.data.toList = false from h2)
      clear h2 HE
      go_wp2_with fail
      go_ret
      exact ⟨by rw [H2.out]; rfl, rfl⟩

def an (c : Nat) : Bool := (decide (97 ≤ c) && decide (c ≤ 122)) || (decide (65 ≤ c) && decide (c ≤ 90)) || (decide (48 ≤ c) && decide (c ≤ 57))
/-- the first of the bytes behind k that are not good -/
def gd (o b : List UInt8) (k c : Nat) : Bool := (an c || isIn c o) && !(k == 0 && isIn c b)
def gdL (o b : List UInt8) : Nat → List UInt8 → Bool
  | _, [] => true
  | k, c :: t => gd o b k c.toNat && gdL o b (k + 1) t
def consL (l o b : List UInt8) (m : Nat) : Bool := decide (1 ≤ l.length) && (decide (l.length ≤ m) && gdL o b 0 l)
theorem gdL_drop {s : ByteArray} {k : Nat} (hk : k < s.size) (o b : List UInt8) : gdL o b k (s.data.toList.drop k) = (gd o b k s[k].toNat && gdL o b (k + 1) (s.data.toList.drop (k + 1))) := by
  have hl : k < s.data.toList.length := by rw [data_size]; exact hk
  rw [List.drop_eq_getElem_cons hl, show s.data.toList[k] = s[k] by simp [ByteArray.getElem_eq_getElem_data]]
  rfl
set_option maxHeartbeats 20000000 in
theorem consists_any (s o b : ByteArray) (m : Nat) (hm : m ≤ 1000) (hs : s.size ≤ 9223372036854775806) (ho : o.size ≤ 1000) (hb : b.size ≤ 1000) (w : World) :
    Calls Try.prog 47 #[.string s, .string o, .string b, .int .i64 (m : Int)] w fun e w' => e = .returned (.bool (consL s.data.toList o.data.toList b.data.toList m)) ∧ w' = w := by
  have hl := data_size s
  have hE : consL s.data.toList o.data.toList b.data.toList m = (decide (1 ≤ s.size) && (decide (s.size ≤ m) && gdL o.data.toList b.data.toList 0 s.data.toList)) := by unfold consL; rw [hl]
  have HWo := hid (fun c w => within_any c o (by omega) w)
  have HWb := hid (fun c w => within_any c b (by omega) w)
  by_cases h1 : s.size < 1
  · rw [decide_eq_false (by omega), Bool.false_and] at hE
    have HE := hid hE
    have h1' : (s.size : Int) < 1 := by omega
    clear hE hl
    go_enter Try.func47, Try.ntmps47
    go_wp2_with fail
    go_ret
    exact ⟨by rw [HE.out]; rfl, rfl⟩
  have h1' : ¬ (s.size : Int) < 1 := by omega
  rw [decide_eq_true (by omega), Bool.true_and] at hE
  by_cases h2 : m < s.size
  · rw [decide_eq_false (by omega), Bool.false_and] at hE
    have HE := hid hE
    have h2' : (m : Int) < (s.size : Int) := by omega
    clear hE hl
    go_enter Try.func47, Try.ntmps47
    go_wp2_with fail
    go_ret
    exact ⟨by rw [HE.out]; rfl, rfl⟩
  have h2' : ¬ (m : Int) < (s.size : Int) := by omega
  rw [decide_eq_true (by omega), Bool.true_and] at hE
  have HE := hid hE
  clear hE hl
  generalize consL s.data.toList o.data.toList b.data.toList m = res at *
  go_enter Try.func47, Try.ntmps47
  go_wp2_with fail
  go_loopw [9] (fun iv wr => ∃ k : Nat, k ≤ s.size ∧ iv = .int .i64 (k : Int) ∧ wr = w ∧ Hid (res = gdL o.data.toList b.data.toList k (s.data.toList.drop k))) (fun iv _ => s.size - (intOf iv).toNat)
  case atStart => exact ⟨0, by omega, rfl, rfl, HE⟩
  case round =>
    clear HE
    obtain ⟨k, hk, rfl, rfl, HE⟩ := hrel
    by_cases hlt : k < s.size
    · have hlt' : (k : Int) < (s.size : Int) := by omega
      have h3 := HE.out.trans (gdL_drop hlt o.data.toList b.data.toList)
      have HO := hid (HWo.out s[k].toNat)
      have HBd := hid (HWb.out s[k].toNat)
      obtain ⟨c, hc⟩ : ∃ c, c = s[k].toNat := ⟨_, rfl⟩
      have hc2 := hc.symm
      have hg : gd o.data.toList b.data.toList k s[k].toNat = ((an c || isIn c o.data.toList) && !(k == 0 && isIn c b.data.toList)) := by rw [hc2]; rfl
      rw [hg] at h3
      rw [hc2] at HO HBd
      clear hg HE HWo HWb hc
      generalize isIn c o.data.toList = io at *
      generalize isIn c b.data.toList = ib at *
      have hcase : c < 48 ∨ (48 ≤ c ∧ c ≤ 57) ∨ (58 ≤ c ∧ c ≤ 64) ∨ (65 ≤ c ∧ c ≤ 90) ∨ (91 ≤ c ∧ c ≤ 96) ∨ (97 ≤ c ∧ c ≤ 122) ∨ 122 < c := by omega
      have hk0 : k = 0 ∨ 0 < k := by omega
      rcases hcase with hcc | hcc | hcc | hcc | hcc | hcc | hcc
      · have e97 : ¬ (97 : Int) ≤ (c : Int) := by omega
        have e122 : (c : Int) ≤ 122 := by omega
        have e65 : ¬ (65 : Int) ≤ (c : Int) := by omega
        have e90 : (c : Int) ≤ 90 := by omega
        have e48 : ¬ (48 : Int) ≤ (c : Int) := by omega
        have e57 : (c : Int) ≤ 57 := by omega
        have ha : an c = false := by unfold an; simp; omega
        rw [ha] at h3
        cases io with
        | true =>
          rcases hk0 with rfl | hk0
          · cases ib with
            | true =>
              rw [show ((false || true) && !((0 : Nat) == 0 && true)) = false from rfl, Bool.false_and] at h3
              have H3 := hid h3
              clear h3
              go_wp2_with fail
              refine (HO.out _).mono ?_
              rintro e w1 ⟨rfl, rfl⟩
              go_wp2_with fail
              refine (HBd.out _).mono ?_
              rintro e w1 ⟨rfl, rfl⟩
              go_wp2_with fail
              go_ret
              exact ⟨by rw [H3.out]; rfl, rfl⟩
            | false =>
              rw [show ((false || true) && !((0 : Nat) == 0 && false)) = true from rfl, Bool.true_and] at h3
              have H3 := hid h3
              clear h3
              go_wp2_with fail
              refine (HO.out _).mono ?_
              rintro e w1 ⟨rfl, rfl⟩
              go_wp2_with fail
              refine (HBd.out _).mono ?_
              rintro e w1 ⟨rfl, rfl⟩
              go_wp2_with fail
              go_roundw
              case rel => exact ⟨0 + 1, by omega, by go_num, by first | rfl | exact True.intro, H3⟩
              case measure => simp [intOf]; omega
          · have hk1 : ¬ (k : Int) = 0 := by omega
            rw [show (k == 0) = false by simp; omega, Bool.false_and, Bool.not_false, Bool.and_true, Bool.or_true, Bool.true_and] at h3
            have H3 := hid h3
            clear h3
            go_wp2_with fail
            refine (HO.out _).mono ?_
            rintro e w1 ⟨rfl, rfl⟩
            go_wp2_with fail
            go_roundw
            case rel => exact ⟨k + 1, by omega, by go_num, by first | rfl | exact True.intro, H3⟩
            case measure => simp [intOf]; omega
        | false =>
          rw [Bool.or_false, Bool.false_and, Bool.false_and] at h3
          have H3 := hid h3
          clear h3
          go_wp2_with fail
          refine (HO.out _).mono ?_
          rintro e w1 ⟨rfl, rfl⟩
          go_wp2_with fail
          go_ret
          exact ⟨by rw [H3.out]; rfl, rfl⟩
      · have e97 : ¬ (97 : Int) ≤ (c : Int) := by omega
        have e122 : (c : Int) ≤ 122 := by omega
        have e65 : ¬ (65 : Int) ≤ (c : Int) := by omega
        have e90 : (c : Int) ≤ 90 := by omega
        have e48 : (48 : Int) ≤ (c : Int) := by omega
        have e57 : (c : Int) ≤ 57 := by omega
        have ha : an c = true := by unfold an; simp; omega
        rw [ha] at h3
        rcases hk0 with rfl | hk0
        · cases ib with
          | true =>
            rw [show ((true || io) && !((0 : Nat) == 0 && true)) = false from rfl, Bool.false_and] at h3
            have H3 := hid h3
            clear h3
            go_wp2_with fail
            refine (HBd.out _).mono ?_
            rintro e w1 ⟨rfl, rfl⟩
            go_wp2_with fail
            go_ret
            exact ⟨by rw [H3.out]; rfl, rfl⟩
          | false =>
            rw [show ((true || io) && !((0 : Nat) == 0 && false)) = true from rfl, Bool.true_and] at h3
            have H3 := hid h3
            clear h3
            go_wp2_with fail
            refine (HBd.out _).mono ?_
            rintro e w1 ⟨rfl, rfl⟩
            go_wp2_with fail
            go_roundw
            case rel => exact ⟨0 + 1, by omega, by go_num, by first | rfl | exact True.intro, H3⟩
            case measure => simp [intOf]; omega
        · have hk1 : ¬ (k : Int) = 0 := by omega
          rw [show (k == 0) = false by simp; omega, Bool.false_and, Bool.not_false, Bool.and_true, Bool.true_or, Bool.true_and] at h3
          have H3 := hid h3
          clear h3
          go_wp2_with fail
          go_roundw
          case rel => exact ⟨k + 1, by omega, by go_num, by first | rfl | exact True.intro, H3⟩
          case measure => simp [intOf]; omega
      · have e97 : ¬ (97 : Int) ≤ (c : Int) := by omega
        have e122 : (c : Int) ≤ 122 := by omega
        have e65 : ¬ (65 : Int) ≤ (c : Int) := by omega
        have e90 : (c : Int) ≤ 90 := by omega
        have e48 : (48 : Int) ≤ (c : Int) := by omega
        have e57 : ¬ (c : Int) ≤ 57 := by omega
        have ha : an c = false := by unfold an; simp; omega
        rw [ha] at h3
        cases io with
        | true =>
          rcases hk0 with rfl | hk0
          · cases ib with
            | true =>
              rw [show ((false || true) && !((0 : Nat) == 0 && true)) = false from rfl, Bool.false_and] at h3
              have H3 := hid h3
              clear h3
              go_wp2_with fail
              refine (HO.out _).mono ?_
              rintro e w1 ⟨rfl, rfl⟩
              go_wp2_with fail
              refine (HBd.out _).mono ?_
              rintro e w1 ⟨rfl, rfl⟩
              go_wp2_with fail
              go_ret
              exact ⟨by rw [H3.out]; rfl, rfl⟩
            | false =>
              rw [show ((false || true) && !((0 : Nat) == 0 && false)) = true from rfl, Bool.true_and] at h3
              have H3 := hid h3
              clear h3
              go_wp2_with fail
              refine (HO.out _).mono ?_
              rintro e w1 ⟨rfl, rfl⟩
              go_wp2_with fail
              refine (HBd.out _).mono ?_
              rintro e w1 ⟨rfl, rfl⟩
              go_wp2_with fail
              go_roundw
              case rel => exact ⟨0 + 1, by omega, by go_num, by first | rfl | exact True.intro, H3⟩
              case measure => simp [intOf]; omega
          · have hk1 : ¬ (k : Int) = 0 := by omega
            rw [show (k == 0) = false by simp; omega, Bool.false_and, Bool.not_false, Bool.and_true, Bool.or_true, Bool.true_and] at h3
            have H3 := hid h3
            clear h3
            go_wp2_with fail
            refine (HO.out _).mono ?_
            rintro e w1 ⟨rfl, rfl⟩
            go_wp2_with fail
            go_roundw
            case rel => exact ⟨k + 1, by omega, by go_num, by first | rfl | exact True.intro, H3⟩
            case measure => simp [intOf]; omega
        | false =>
          rw [Bool.or_false, Bool.false_and, Bool.false_and] at h3
          have H3 := hid h3
          clear h3
          go_wp2_with fail
          refine (HO.out _).mono ?_
          rintro e w1 ⟨rfl, rfl⟩
          go_wp2_with fail
          go_ret
          exact ⟨by rw [H3.out]; rfl, rfl⟩
      · have e97 : ¬ (97 : Int) ≤ (c : Int) := by omega
        have e122 : (c : Int) ≤ 122 := by omega
        have e65 : (65 : Int) ≤ (c : Int) := by omega
        have e90 : (c : Int) ≤ 90 := by omega
        have e48 : (48 : Int) ≤ (c : Int) := by omega
        have e57 : ¬ (c : Int) ≤ 57 := by omega
        have ha : an c = true := by unfold an; simp; omega
        rw [ha] at h3
        rcases hk0 with rfl | hk0
        · cases ib with
          | true =>
            rw [show ((true || io) && !((0 : Nat) == 0 && true)) = false from rfl, Bool.false_and] at h3
            have H3 := hid h3
            clear h3
            go_wp2_with fail
            refine (HBd.out _).mono ?_
            rintro e w1 ⟨rfl, rfl⟩
            go_wp2_with fail
            go_ret
            exact ⟨by rw [H3.out]; rfl, rfl⟩
          | false =>
            rw [show ((true || io) && !((0 : Nat) == 0 && false)) = true from rfl, Bool.true_and] at h3
            have H3 := hid h3
            clear h3
            go_wp2_with fail
            refine (HBd.out _).mono ?_
            rintro e w1 ⟨rfl, rfl⟩
            go_wp2_with fail
            go_roundw
            case rel => exact ⟨0 + 1, by omega, by go_num, by first | rfl | exact True.intro, H3⟩
            case measure => simp [intOf]; omega
        · have hk1 : ¬ (k : Int) = 0 := by omega
          rw [show (k == 0) = false by simp; omega, Bool.false_and, Bool.not_false, Bool.and_true, Bool.true_or, Bool.true_and] at h3
          have H3 := hid h3
          clear h3
          go_wp2_with fail
          go_roundw
          case rel => exact ⟨k + 1, by omega, by go_num, by first | rfl | exact True.intro, H3⟩
          case measure => simp [intOf]; omega
      · have e97 : ¬ (97 : Int) ≤ (c : Int) := by omega
        have e122 : (c : Int) ≤ 122 := by omega
        have e65 : (65 : Int) ≤ (c : Int) := by omega
        have e90 : ¬ (c : Int) ≤ 90 := by omega
        have e48 : (48 : Int) ≤ (c : Int) := by omega
        have e57 : ¬ (c : Int) ≤ 57 := by omega
        have ha : an c = false := by unfold an; simp; omega
        rw [ha] at h3
        cases io with
        | true =>
          rcases hk0 with rfl | hk0
          · cases ib with
            | true =>
              rw [show ((false || true) && !((0 : Nat) == 0 && true)) = false from rfl, Bool.false_and] at h3
              have H3 := hid h3
              clear h3
              go_wp2_with fail
              refine (HO.out _).mono ?_
              rintro e w1 ⟨rfl, rfl⟩
              go_wp2_with fail
              refine (HBd.out _).mono ?_
              rintro e w1 ⟨rfl, rfl⟩
              go_wp2_with fail
              go_ret
              exact ⟨by rw [H3.out]; rfl, rfl⟩
            | false =>
              rw [show ((false || true) && !((0 : Nat) == 0 && false)) = true from rfl, Bool.true_and] at h3
              have H3 := hid h3
              clear h3
              go_wp2_with fail
              refine (HO.out _).mono ?_
              rintro e w1 ⟨rfl, rfl⟩
              go_wp2_with fail
              refine (HBd.out _).mono ?_
              rintro e w1 ⟨rfl, rfl⟩
              go_wp2_with fail
              go_roundw
              case rel => exact ⟨0 + 1, by omega, by go_num, by first | rfl | exact True.intro, H3⟩
              case measure => simp [intOf]; omega
          · have hk1 : ¬ (k : Int) = 0 := by omega
            rw [show (k == 0) = false by simp; omega, Bool.false_and, Bool.not_false, Bool.and_true, Bool.or_true, Bool.true_and] at h3
            have H3 := hid h3
            clear h3
            go_wp2_with fail
            refine (HO.out _).mono ?_
            rintro e w1 ⟨rfl, rfl⟩
            go_wp2_with fail
            go_roundw
            case rel => exact ⟨k + 1, by omega, by go_num, by first | rfl | exact True.intro, H3⟩
            case measure => simp [intOf]; omega
        | false =>
          rw [Bool.or_false, Bool.false_and, Bool.false_and] at h3
          have H3 := hid h3
          clear h3
          go_wp2_with fail
          refine (HO.out _).mono ?_
          rintro e w1 ⟨rfl, rfl⟩
          go_wp2_with fail
          go_ret
          exact ⟨by rw [H3.out]; rfl, rfl⟩
      · have e97 : (97 : Int) ≤ (c : Int) := by omega
        have e122 : (c : Int) ≤ 122 := by omega
        have e65 : (65 : Int) ≤ (c : Int) := by omega
        have e90 : ¬ (c : Int) ≤ 90 := by omega
        have e48 : (48 : Int) ≤ (c : Int) := by omega
        have e57 : ¬ (c : Int) ≤ 57 := by omega
        have ha : an c = true := by unfold an; simp; omega
        rw [ha] at h3
        rcases hk0 with rfl | hk0
        · cases ib with
          | true =>
            rw [show ((true || io) && !((0 : Nat) == 0 && true)) = false from rfl, Bool.false_and] at h3
            have H3 := hid h3
            clear h3
            go_wp2_with fail
            refine (HBd.out _).mono ?_
            rintro e w1 ⟨rfl, rfl⟩
            go_wp2_with fail
            go_ret
            exact ⟨by rw [H3.out]; rfl, rfl⟩
          | false =>
            rw [show ((true || io) && !((0 : Nat) == 0 && false)) = true from rfl, Bool.true_and] at h3
            have H3 := hid h3
            clear h3
            go_wp2_with fail
            refine (HBd.out _).mono ?_
            rintro e w1 ⟨rfl, rfl⟩
            go_wp2_with fail
            go_roundw
            case rel => exact ⟨0 + 1, by omega, by go_num, by first | rfl | exact True.intro, H3⟩
            case measure => simp [intOf]; omega
        · have hk1 : ¬ (k : Int) = 0 := by omega
          rw [show (k == 0) = false by simp; omega, Bool.false_and, Bool.not_false, Bool.and_true, Bool.true_or, Bool.true_and] at h3
          have H3 := hid h3
          clear h3
          go_wp2_with fail
          go_roundw
          case rel => exact ⟨k + 1, by omega, by go_num, by first | rfl | exact True.intro, H3⟩
          case measure => simp [intOf]; omega
      · have e97 : (97 : Int) ≤ (c : Int) := by omega
        have e122 : ¬ (c : Int) ≤ 122 := by omega
        have e65 : (65 : Int) ≤ (c : Int) := by omega
        have e90 : ¬ (c : Int) ≤ 90 := by omega
        have e48 : (48 : Int) ≤ (c : Int) := by omega
        have e57 : ¬ (c : Int) ≤ 57 := by omega
        have ha : an c = false := by unfold an; simp; omega
        rw [ha] at h3
        cases io with
        | true =>
          rcases hk0 with rfl | hk0
          · cases ib with
            | true =>
              rw [show ((false || true) && !((0 : Nat) == 0 && true)) = false from rfl, Bool.false_and] at h3
              have H3 := hid h3
              clear h3
              go_wp2_with fail
              refine (HO.out _).mono ?_
              rintro e w1 ⟨rfl, rfl⟩
              go_wp2_with fail
              refine (HBd.out _).mono ?_
              rintro e w1 ⟨rfl, rfl⟩
              go_wp2_with fail
              go_ret
              exact ⟨by rw [H3.out]; rfl, rfl⟩
            | false =>
              rw [show ((false || true) && !((0 : Nat) == 0 && false)) = true from rfl, Bool.true_and] at h3
              have H3 := hid h3
              clear h3
              go_wp2_with fail
              refine (HO.out _).mono ?_
              rintro e w1 ⟨rfl, rfl⟩
              go_wp2_with fail
              refine (HBd.out _).mono ?_
              rintro e w1 ⟨rfl, rfl⟩
              go_wp2_with fail
              go_roundw
              case rel => exact ⟨0 + 1, by omega, by go_num, by first | rfl | exact True.intro, H3⟩
              case measure => simp [intOf]; omega
          · have hk1 : ¬ (k : Int) = 0 := by omega
            rw [show (k == 0) = false by simp; omega, Bool.false_and, Bool.not_false, Bool.and_true, Bool.or_true, Bool.true_and] at h3
            have H3 := hid h3
            clear h3
            go_wp2_with fail
            refine (HO.out _).mono ?_
            rintro e w1 ⟨rfl, rfl⟩
            go_wp2_with fail
            go_roundw
            case rel => exact ⟨k + 1, by omega, by go_num, by first | rfl | exact True.intro, H3⟩
            case measure => simp [intOf]; omega
        | false =>
          rw [Bool.or_false, Bool.false_and, Bool.false_and] at h3
          have H3 := hid h3
          clear h3
          go_wp2_with fail
          refine (HO.out _).mono ?_
          rintro e w1 ⟨rfl, rfl⟩
          go_wp2_with fail
          go_ret
          exact ⟨by rw [H3.out]; rfl, rfl⟩
    · obtain rfl : k = s.size := by omega
      have hlt' : ¬ (s.size : Int) < (s.size : Int) := by omega
      have h3 := HE.out
      rw [List.drop_eq_nil_of_le (by rw [data_size]; omega)] at h3
      have H3 := hid (show res = true from h3)
      clear h3 HE
      go_wp2_with fail
      go_ret
      exact ⟨by rw [H3.out]; rfl, rfl⟩
end Go.Proofs.Ytdpclmogfnigdaa
