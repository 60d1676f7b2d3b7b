/- Merge: the program's and the reference's. -/
import Derived.Test.YtcomimabihbfgaaSyU
import Derived.KernelRfl
import Derived.Test.YtcomimabihbfgaaTj
namespace Go.Proofs.Ytcomimabihbfgaa
open Go.RowKit
set_option linter.unusedVariables false
set_option maxRecDepth 10000 in
set_option maxHeartbeats 4000000 in
theorem follows_any (a b d a2 b2 d2 : Int) (c c2 : ByteArray) (e e2 : Bool) (h1 : -1000000000000 ≤ b ∧ b ≤ 1000000000000) (h2 : -1000000000000 ≤ b2 ∧ b2 ≤ 1000000000000) (h3 : -1000000000000 ≤ d ∧ d ≤ 1000000000000) (h4 : -1000000000000 ≤ d2 ∧ d2 ≤ 1000000000000) :
    CallOK Try.prog 43 [.agg [I a, I b, S c, I d, B e], .agg [I a2, I b2, S c2, I d2, B e2]] [] (B (goesF ⟨a, b, c, d, e⟩ ⟨a2, b2, c2, d2, e2⟩)) [] := by
  refine CallOK.intro Try.call43 Try.func43 rfl rfl trivial ?_
  have hcm : decide (d2 = d + b) = decide (d + b = d2) := decide_eq_decide.2 eq_comm
  refine (Classical.em ((e == e2) = true)).elim (fun hc1 => ?ga0) (fun hc1 => ?gb0)
  case' gb0 =>
    refine Safe.ends mixed Go.Proofs.Try.func43 4 [⟨100, []⟩, ⟨200, [(4, .tt false)]⟩] (r := B (false)) (hp := []) (ob := [(e == e2) = false]) rfl (by kernel_rfl) ⟨(by simpa using hc1), trivial⟩ ?_ trivial trivial rfl
  case' ga0 =>
    refine (Classical.em (c = c2)).elim (fun hc2 => ?ga1) (fun hc2 => ?gb1)
    case' gb1 =>
      refine Safe.ends mixed Go.Proofs.Try.func43 4 [⟨100, []⟩, ⟨200, [(4, .tt true), (10, .tt false)]⟩] (r := B (false)) (hp := []) (ob := [(e == e2) = true, decide (c = c2) = false]) rfl (by kernel_rfl) ⟨hc1, (decide_eq_false hc2), trivial⟩ ?_ trivial trivial rfl
    case' ga1 =>
      refine (Classical.em (c = { data := #[] })).elim (fun hc3 => ?ga2) (fun hc3 => ?gb2)
      case' gb2 =>
        refine (Classical.em (d + b = d2)).elim (fun hc4 => ?ga3) (fun hc4 => ?gb3)
        case' gb3 =>
          refine Safe.ends mixed Go.Proofs.Try.func43 4 [⟨100, []⟩, ⟨200, [(4, .tt true), (10, .tt true), (15, .tt false), (24, .tt false)]⟩] (r := B (false)) (hp := []) (ob := [(e == e2) = true, decide (c = c2) = true, decide (c = { data := #[] }) = false, inK IntKind.i64 (d + b), decide (d + b = d2) = false]) rfl (by kernel_rfl) ⟨hc1, (decide_eq_true hc2), (decide_eq_false hc3), (by simp only [inK]; omega), (decide_eq_false hc4), trivial⟩ ?_ trivial trivial rfl
        case' ga3 =>
          refine Safe.ends mixed Go.Proofs.Try.func43 4 [⟨100, []⟩, ⟨200, [(4, .tt true), (10, .tt true), (15, .tt false), (24, .tt true)]⟩] (r := B (decide (b + b2 ≤ (16777216 : Int)))) (hp := []) (ob := [(e == e2) = true, decide (c = c2) = true, decide (c = { data := #[] }) = false, inK IntKind.i64 (d + b), decide (d + b = d2) = true, inK IntKind.i64 (b + b2)]) rfl (by kernel_rfl) ⟨hc1, (decide_eq_true hc2), (decide_eq_false hc3), (by simp only [inK]; omega), (decide_eq_true hc4), (by simp only [inK]; omega), trivial⟩ ?_ trivial trivial rfl
      case' ga2 =>
        refine Safe.ends mixed Go.Proofs.Try.func43 4 [⟨100, []⟩, ⟨200, [(4, .tt true), (10, .tt true), (15, .tt true)]⟩] (r := B (decide (b + b2 ≤ (16777216 : Int)))) (hp := []) (ob := [(e == e2) = true, decide (c = c2) = true, decide (c = { data := #[] }) = true, inK IntKind.i64 (b + b2)]) rfl (by kernel_rfl) ⟨hc1, (decide_eq_true hc2), (decide_eq_true hc3), (by simp only [inK]; omega), trivial⟩ ?_ trivial trivial rfl
  all_goals (show B _ = B _; unfold goesF; dsimp only; rw [hcm]; simp_all)
def mrgT (t u : Tg) : Tg := ⟨t.start, t.length + u.length, t.on, t.offset, t.fail⟩
def mrgS (M : List Tg) (t : Tg) : List Tg := if 0 < M.length ∧ goesF (getT M (M.length - 1)) t = true then M.set (M.length - 1) (mrgT (getT M (M.length - 1)) t) else M ++ [t]
def mrgR (L : List Tg) : Nat → List Tg
  | 0 => []
  | k + 1 => mrgS (mrgR L k) (getT L k)
def mergeF (L : List Tg) : List Tg := if checkF L ≠ 0 then [] else mrgR L L.length
theorem goesF_len {a b : Tg} (h : goesF a b = true) : a.length + b.length ≤ 16777216 := by
  unfold goesF at h
  simp only [Bool.and_eq_true, decide_eq_true_eq] at h
  exact h.2.2.2
theorem mrgR_bd {L : List Tg} (hv : checkF L = 0) : ∀ k, k ≤ L.length → (mrgR L k).length ≤ k ∧ ∀ t ∈ mrgR L k, 1 ≤ t.length ∧ t.length ≤ 16777216 ∧ 0 ≤ t.offset ∧ t.offset ≤ 16777216
  | 0, _ => ⟨Nat.le_refl _, fun t ht => by simp [mrgR] at ht⟩
  | k + 1, hk => by
    obtain ⟨h1, h2⟩ := mrgR_bd hv k (by omega)
    have h3 := ck1_len ((tok_bd hv).2.1 k (by omega))
    have h4 := off_bd hv k (by omega)
    simp only [mrgR, mrgS]
    split
    · rename_i hg
      have h5 := goesF_len hg.2
      have h6 := h2 _ (getT_mem (mrgR L k) ((mrgR L k).length - 1) (by omega))
      refine ⟨by rw [List.length_set]; omega, fun t ht => ?_⟩
      rcases List.mem_or_eq_of_mem_set ht with ht | rfl
      · exact h2 t ht
      · dsimp only [mrgT]
        omega
    · refine ⟨by simp; omega, fun t ht => ?_⟩
      simp only [List.mem_append, List.mem_singleton] at ht
      rcases ht with ht | rfl
      · exact h2 t ht
      · omega
set_option maxRecDepth 10000 in
set_option maxHeartbeats 4000000 in
theorem rmerge_any (L : List Tg) (hl : L.length ≤ 1000000) : CallOK Try.prog 33 [.sl 0 0 5 L.length none] [(0, .ro 5 L.length (rowT L))] (.sl 10 0 5 (mergeF L).length none) [(10, some (.vec 45 5 (mergeF L).length (rowT (mergeF L))))] := by
  refine CallOK.intro Try.call33 Try.func33 rfl rfl ⟨rfl, fun _ => rfl, trivial⟩ ?_
  refine Safe.withLoop (loopAt Try.f33 0) [0, 10] 53 (fun k : Nat => [(0, .sl 0 0 5 L.length none), (3, .sl 10 0 5 (mrgR L k).length none), (4, I k)]) (fun k => [(0, .ro 5 L.length (rowT L)), (10, .vec 45 5 (mrgR L k).length (rowT (mrgR L k)))]) (fun k => checkF L = 0 ∧ k ≤ L.length) (fun k => L.length - k) ?_ ?_
  · rintro k ⟨hv, hk⟩ ih
    obtain ⟨hb, hm⟩ := mrgR_bd hv k hk
    have h3 := fun h : k < L.length => ck1_len ((tok_bd hv).2.1 k h)
    have h4 := fun h : k < L.length => off_bd hv k h
    have h5 : 0 < (mrgR L k).length → _ := fun h => hm _ (getT_mem (mrgR L k) (((mrgR L k).length : Int) - 1).toNat (by omega))
    have e0 : (((mrgR L k).length : Int) - 1).toNat = (mrgR L k).length - 1 := by omega
    have h6 : goesF (getT (mrgR L k) (((mrgR L k).length : Int) - 1).toNat) (getT L k) = true → _ := goesF_len
    have hF : mergeF L = mrgR L L.length := by rw [mergeF, if_neg (by omega)]
    have t1 := (tok_bd hv).1
    refine (Classical.em ((↑k : Int) < (↑L.length : Int))).elim (fun hc1 => ?ga4) (fun hc1 => ?gb4)
    case' gb4 =>
      refine Safe.ends mixed Go.Proofs.Try.func33 7 [⟨1100, [(3, .tt false)]⟩, ⟨1200, []⟩] (r := .sl ((10 : Nat)) ((0 : Nat)) ((5 : Nat)) ((mrgR L k).length) (none)) (hp := [(0, .ro ((5 : Nat)) (L.length) (rowT L)), (10, .vec ((45 : Nat)) ((5 : Nat)) ((mrgR L k).length) (rowT (mrgR L k)))]) (ob := [decide ((↑k : Int) < (↑L.length : Int)) = false]) rfl (by kernel_rfl) ⟨(decide_eq_false hc1), trivial⟩ ?_ ⟨ObLe.refl _, ?_, trivial⟩ ⟨rfl, fun _ => rfl, rfl, fun _ => rfl, trivial⟩ rfl
    case' ga4 =>
      refine (Classical.em ((↑(mrgR L k).length : Int) > (0 : Int))).elim (fun hc2 => ?ga5) (fun hc2 => ?gb5)
      case' gb5 =>
        refine Safe.goto mixed 16 [⟨1100, [(3, .tt true)]⟩, ⟨1200, []⟩, ⟨1300, [(1, .tt false)]⟩, ⟨1400, []⟩, ⟨1500, []⟩] [0, 3, 4] [0, 1406] (todo' := loopAt Go.Proofs.Try.f33 0) (sl := slotsOf 53 [(0, .sl ((0 : Nat)) ((0 : Nat)) ((5 : Nat)) (L.length) (none)), (3, .sl ((1406 : Nat)) ((0 : Nat)) ((5 : Nat)) (addN (mrgR L k).length (1 : Nat)) (none)), (4, I ((↑k : Int) + (1 : Int)))]) (hp := [(0, .ro ((5 : Nat)) (L.length) (rowT L)), (1406, .vec ((45 : Nat)) ((5 : Nat)) (addN (mrgR L k).length (1 : Nat)) (catR (mrgR L k).length (rowT (mrgR L k)) (rowsOf [AV.val (Value.int IntKind.i64 (getT L k).start), AV.val (Value.int IntKind.i64 (getT L k).length), AV.val (Value.string (getT L k).on), AV.val (Value.int IntKind.i64 (getT L k).offset), AV.val (Value.bool (getT L k).fail)] (5 : Nat))))]) (ob := [decide ((↑k : Int) < (↑L.length : Int)) = true, decide ((↑(mrgR L k).length : Int) > (0 : Int)) = false, (0 : Int) ≤ (↑k : Int) ∧ (↑k : Int) < (↑L.length : Int), k < L.length, (0 : Nat) + (1 : Nat) ≤ (1 : Nat), (mrgR L k).length = (mrgR L k).length, (mrgR L k).length + (1 : Nat) ≤ (1099511627776 : Nat), inK IntKind.i64 ((↑k : Int) + (1 : Int))]) rfl rfl (by kernel_rfl) ⟨(decide_eq_true hc1), (decide_eq_false hc2), (by omega), (by omega), (by omega), (by omega), (by omega), (by simp only [inK]; omega), trivial⟩ rfl ⟨rfl, fun _ => rfl, rfl, closed_cat (fun _ => rfl) (closed_rows rfl), trivial⟩ ?_
        refine Safe.ren [(1406, 10)] rfl rfl rfl rfl ⟨rfl, fun _ => rfl, rfl, closed_cat (fun _ => rfl) (closed_rows rfl), trivial⟩ ?_
      case' ga5 =>
        refine (Classical.em ((goesF { start := (getT (mrgR L k) ((↑(mrgR L k).length : Int) - (1 : Int)).toNat).start, length := (getT (mrgR L k) ((↑(mrgR L k).length : Int) - (1 : Int)).toNat).length, on := (getT (mrgR L k) ((↑(mrgR L k).length : Int) - (1 : Int)).toNat).on, offset := (getT (mrgR L k) ((↑(mrgR L k).length : Int) - (1 : Int)).toNat).offset, fail := (getT (mrgR L k) ((↑(mrgR L k).length : Int) - (1 : Int)).toNat).fail } { start := (getT L k).start, length := (getT L k).length, on := (getT L k).on, offset := (getT L k).offset, fail := (getT L k).fail }) = true)).elim (fun hc3 => ?ga6) (fun hc3 => ?gb6)
        case' gb6 =>
          refine Safe.goto mixed 16 [⟨1100, [(3, .tt true)]⟩, ⟨1200, []⟩, ⟨1300, [(1, .tt true), (12, .call [] (B false) [])]⟩, ⟨1400, []⟩, ⟨1500, []⟩] [0, 3, 4] [0, 1406] (todo' := loopAt Go.Proofs.Try.f33 0) (sl := slotsOf 53 [(0, .sl ((0 : Nat)) ((0 : Nat)) ((5 : Nat)) (L.length) (none)), (3, .sl ((1406 : Nat)) ((0 : Nat)) ((5 : Nat)) (addN (mrgR L k).length (1 : Nat)) (none)), (4, I ((↑k : Int) + (1 : Int)))]) (hp := [(0, .ro ((5 : Nat)) (L.length) (rowT L)), (1406, .vec ((45 : Nat)) ((5 : Nat)) (addN (mrgR L k).length (1 : Nat)) (catR (mrgR L k).length (rowT (mrgR L k)) (rowsOf [AV.val (Value.int IntKind.i64 (getT L k).start), AV.val (Value.int IntKind.i64 (getT L k).length), AV.val (Value.string (getT L k).on), AV.val (Value.int IntKind.i64 (getT L k).offset), AV.val (Value.bool (getT L k).fail)] (5 : Nat))))]) (ob := [decide ((↑k : Int) < (↑L.length : Int)) = true, decide ((↑(mrgR L k).length : Int) > (0 : Int)) = true, inK IntKind.i64 ((↑(mrgR L k).length : Int) - (1 : Int)), (0 : Int) ≤ (↑(mrgR L k).length : Int) - (1 : Int) ∧ (↑(mrgR L k).length : Int) - (1 : Int) < (↑(mrgR L k).length : Int), ((↑(mrgR L k).length : Int) - (1 : Int)).toNat < (mrgR L k).length, (0 : Int) ≤ (↑k : Int) ∧ (↑k : Int) < (↑L.length : Int), k < L.length, CallOK Try.prog (43 : Nat) ([] ++ [AV.agg [AV.val (Value.int IntKind.i64 (getT (mrgR L k) ((↑(mrgR L k).length : Int) - (1 : Int)).toNat).start), AV.val (Value.int IntKind.i64 (getT (mrgR L k) ((↑(mrgR L k).length : Int) - (1 : Int)).toNat).length), AV.val (Value.string (getT (mrgR L k) ((↑(mrgR L k).length : Int) - (1 : Int)).toNat).on), AV.val (Value.int IntKind.i64 (getT (mrgR L k) ((↑(mrgR L k).length : Int) - (1 : Int)).toNat).offset), AV.val (Value.bool (getT (mrgR L k) ((↑(mrgR L k).length : Int) - (1 : Int)).toNat).fail)], AV.agg [AV.val (Value.int IntKind.i64 (getT L k).start), AV.val (Value.int IntKind.i64 (getT L k).length), AV.val (Value.string (getT L k).on), AV.val (Value.int IntKind.i64 (getT L k).offset), AV.val (Value.bool (getT L k).fail)]] ++ []) [] (AV.val (Value.bool false)) [], (0 : Int) ≤ (↑k : Int) ∧ (↑k : Int) < (↑L.length : Int), k < L.length, (0 : Nat) + (1 : Nat) ≤ (1 : Nat), (mrgR L k).length = (mrgR L k).length, (mrgR L k).length + (1 : Nat) ≤ (1099511627776 : Nat), inK IntKind.i64 ((↑k : Int) + (1 : Int))]) rfl rfl (by kernel_rfl) ⟨(decide_eq_true hc1), (decide_eq_true hc2), (by simp only [inK]; omega), (by omega), (by omega), (by omega), (by omega), (CallOK.isB (CallOK.ren (follows_any ((getT (mrgR L k) ((↑(mrgR L k).length : Int) - (1 : Int)).toNat).start) ((getT (mrgR L k) ((↑(mrgR L k).length : Int) - (1 : Int)).toNat).length) ((getT (mrgR L k) ((↑(mrgR L k).length : Int) - (1 : Int)).toNat).offset) ((getT L k).start) ((getT L k).length) ((getT L k).offset) ((getT (mrgR L k) ((↑(mrgR L k).length : Int) - (1 : Int)).toNat).on) ((getT L k).on) ((getT (mrgR L k) ((↑(mrgR L k).length : Int) - (1 : Int)).toNat).fail) ((getT L k).fail) (by omega) (by omega) (by omega) (by omega)) [] [] rfl rfl rfl rfl trivial rfl trivial) (eq_false_of_ne_true hc3)), (by omega), (by omega), (by omega), (by omega), (by omega), (by simp only [inK]; omega), trivial⟩ rfl ⟨rfl, fun _ => rfl, rfl, closed_cat (fun _ => rfl) (closed_rows rfl), trivial⟩ ?_
          refine Safe.ren [(1406, 10)] rfl rfl rfl rfl ⟨rfl, fun _ => rfl, rfl, closed_cat (fun _ => rfl) (closed_rows rfl), trivial⟩ ?_
        case' ga6 =>
          refine Safe.goto mixed 16 [⟨1100, [(3, .tt true)]⟩, ⟨1200, []⟩, ⟨1300, [(1, .tt true), (12, .call [] (B true) [])]⟩, ⟨1400, []⟩, ⟨1500, []⟩] [0, 3, 4] [0, 10] (todo' := loopAt Go.Proofs.Try.f33 0) (sl := slotsOf 53 [(0, .sl ((0 : Nat)) ((0 : Nat)) ((5 : Nat)) (L.length) (none)), (3, .sl ((10 : Nat)) ((0 : Nat)) ((5 : Nat)) ((mrgR L k).length) (none)), (4, I ((↑k : Int) + (1 : Int)))]) (hp := [(0, .ro ((5 : Nat)) (L.length) (rowT L)), (10, .vec ((45 : Nat)) ((5 : Nat)) ((mrgR L k).length) (setRow (rowT (mrgR L k)) ((↑(mrgR L k).length : Int) - (1 : Int)).toNat [AV.val (Value.int IntKind.i64 (getT (mrgR L k) ((↑(mrgR L k).length : Int) - (1 : Int)).toNat).start), AV.val (Value.int IntKind.i64 ((getT (mrgR L k) ((↑(mrgR L k).length : Int) - (1 : Int)).toNat).length + (getT L k).length)), AV.val (Value.string (getT (mrgR L k) ((↑(mrgR L k).length : Int) - (1 : Int)).toNat).on), AV.val (Value.int IntKind.i64 (getT (mrgR L k) ((↑(mrgR L k).length : Int) - (1 : Int)).toNat).offset), AV.val (Value.bool (getT (mrgR L k) ((↑(mrgR L k).length : Int) - (1 : Int)).toNat).fail)]))]) (ob := [decide ((↑k : Int) < (↑L.length : Int)) = true, decide ((↑(mrgR L k).length : Int) > (0 : Int)) = true, inK IntKind.i64 ((↑(mrgR L k).length : Int) - (1 : Int)), (0 : Int) ≤ (↑(mrgR L k).length : Int) - (1 : Int) ∧ (↑(mrgR L k).length : Int) - (1 : Int) < (↑(mrgR L k).length : Int), ((↑(mrgR L k).length : Int) - (1 : Int)).toNat < (mrgR L k).length, (0 : Int) ≤ (↑k : Int) ∧ (↑k : Int) < (↑L.length : Int), k < L.length, CallOK Try.prog (43 : Nat) ([] ++ [AV.agg [AV.val (Value.int IntKind.i64 (getT (mrgR L k) ((↑(mrgR L k).length : Int) - (1 : Int)).toNat).start), AV.val (Value.int IntKind.i64 (getT (mrgR L k) ((↑(mrgR L k).length : Int) - (1 : Int)).toNat).length), AV.val (Value.string (getT (mrgR L k) ((↑(mrgR L k).length : Int) - (1 : Int)).toNat).on), AV.val (Value.int IntKind.i64 (getT (mrgR L k) ((↑(mrgR L k).length : Int) - (1 : Int)).toNat).offset), AV.val (Value.bool (getT (mrgR L k) ((↑(mrgR L k).length : Int) - (1 : Int)).toNat).fail)], AV.agg [AV.val (Value.int IntKind.i64 (getT L k).start), AV.val (Value.int IntKind.i64 (getT L k).length), AV.val (Value.string (getT L k).on), AV.val (Value.int IntKind.i64 (getT L k).offset), AV.val (Value.bool (getT L k).fail)]] ++ []) [] (AV.val (Value.bool true)) [], inK IntKind.i64 ((↑(mrgR L k).length : Int) - (1 : Int)), (0 : Int) ≤ (↑(mrgR L k).length : Int) - (1 : Int) ∧ (↑(mrgR L k).length : Int) - (1 : Int) < (↑(mrgR L k).length : Int), ((↑(mrgR L k).length : Int) - (1 : Int)).toNat < (mrgR L k).length, (0 : Int) ≤ (↑k : Int) ∧ (↑k : Int) < (↑L.length : Int), k < L.length, inK IntKind.i64 ((getT (mrgR L k) ((↑(mrgR L k).length : Int) - (1 : Int)).toNat).length + (getT L k).length), (0 : Int) ≤ (↑(mrgR L k).length : Int) - (1 : Int) ∧ (↑(mrgR L k).length : Int) - (1 : Int) < (↑(mrgR L k).length : Int), ((↑(mrgR L k).length : Int) - (1 : Int)).toNat < (mrgR L k).length, inK IntKind.i64 ((↑k : Int) + (1 : Int))]) rfl rfl (by kernel_rfl) ⟨(decide_eq_true hc1), (decide_eq_true hc2), (by simp only [inK]; omega), (by omega), (by omega), (by omega), (by omega), (CallOK.isB (CallOK.ren (follows_any ((getT (mrgR L k) ((↑(mrgR L k).length : Int) - (1 : Int)).toNat).start) ((getT (mrgR L k) ((↑(mrgR L k).length : Int) - (1 : Int)).toNat).length) ((getT (mrgR L k) ((↑(mrgR L k).length : Int) - (1 : Int)).toNat).offset) ((getT L k).start) ((getT L k).length) ((getT L k).offset) ((getT (mrgR L k) ((↑(mrgR L k).length : Int) - (1 : Int)).toNat).on) ((getT L k).on) ((getT (mrgR L k) ((↑(mrgR L k).length : Int) - (1 : Int)).toNat).fail) ((getT L k).fail) (by omega) (by omega) (by omega) (by omega)) [] [] rfl rfl rfl rfl trivial rfl trivial) hc3), (by simp only [inK]; omega), (by omega), (by omega), (by omega), (by omega), (by simp only [inK]; omega), (by omega), (by omega), (by simp only [inK]; omega), trivial⟩ rfl ⟨rfl, fun _ => rfl, rfl, closed_set (fun _ => rfl) rfl, trivial⟩ ?_
    · have e1 : mrgR L (k + 1) = (mrgR L k).set ((mrgR L k).length - 1) (mrgT (getT (mrgR L k) ((mrgR L k).length - 1)) (getT L k)) := by
        rw [e0] at hc3
        rw [mrgR, mrgS, if_pos ⟨by omega, hc3⟩]
      have hh := ih (k + 1) ⟨hv, by omega⟩ (by omega)
      have e2 : (mrgR L (k + 1)).length = (mrgR L k).length := by rw [e1, List.length_set]
      rw [e2] at hh
      refine Safe.leH hh rfl (SlLe.refl _) ⟨ObLe.refl _, ?_, trivial⟩ rfl ⟨rfl, fun _ => rfl, rfl, fun _ => rfl, trivial⟩
      have key := ob_set (ty := 45) (es := 5) (i := (mrgR L k).length - 1) encT (mrgR L k) (mrgT (getT (mrgR L k) ((mrgR L k).length - 1)) (getT L k)) _ rfl rfl
      rw [← e1, e2] at key
      show ObLe _ _
      rw [e0]
      exact key
    · have e1 : mrgR L (k + 1) = mrgR L k ++ [getT L k] := by
        rw [e0] at hc3
        rw [mrgR, mrgS, if_neg (fun h => hc3 h.2)]
      have e2 : addN (mrgR L k).length 1 = (mrgR L (k + 1)).length := by rw [addN_eq, e1, List.length_append]; rfl
      rw [e2]
      refine Safe.leH (ih (k + 1) ⟨hv, by omega⟩ (by omega)) rfl (SlLe.refl _) ⟨ObLe.refl _, ?_, trivial⟩ rfl ⟨rfl, fun _ => rfl, rfl, fun _ => rfl, trivial⟩
      show ObLe _ _
      rw [e1]
      exact ob_ren_one encT _ _ _ (by rw [List.length_append]; rfl) (fun _ => rfl) rfl
    · have e1 : mrgR L (k + 1) = mrgR L k ++ [getT L k] := by
        rw [mrgR, mrgS, if_neg (fun h => hc2 (by omega))]
      have e2 : addN (mrgR L k).length 1 = (mrgR L (k + 1)).length := by rw [addN_eq, e1, List.length_append]; rfl
      rw [e2]
      refine Safe.leH (ih (k + 1) ⟨hv, by omega⟩ (by omega)) rfl (SlLe.refl _) ⟨ObLe.refl _, ?_, trivial⟩ rfl ⟨rfl, fun _ => rfl, rfl, fun _ => rfl, trivial⟩
      show ObLe _ _
      rw [e1]
      exact ob_ren_one encT _ _ _ (by rw [List.length_append]; rfl) (fun _ => rfl) rfl
    · rw [hF, show k = L.length by omega]; rfl
    · rw [hF, show k = L.length by omega]; exact ObLe.refl _
  · intro H
    have r1 : checkF L ≠ 0 → mergeF L = [] := fun h => by rw [mergeF, if_pos h]
    refine (Classical.em (¬checkF L = (0 : Int))).elim (fun hc1 => ?ga7) (fun hc1 => ?gb7)
    case' gb7 =>
      refine Safe.goto mixed 14 [⟨1100, []⟩, ⟨1200, [(1, .call [0] (I (checkF L)) []), (2, .tt false)]⟩, ⟨1300, []⟩, ⟨1400, []⟩] [0, 3, 4] [0] (todo' := loopAt Go.Proofs.Try.f33 0) (sl := slotsOf 53 [(0, .sl ((0 : Nat)) ((0 : Nat)) ((5 : Nat)) (L.length) (none)), (3, .val (Value.slice none (0 : Nat) (0 : Nat))), (4, I ((0 : Int)))]) (hp := [(0, .ro ((5 : Nat)) (L.length) (rowT L))]) (ob := [CallOK Try.prog (13 : Nat) ([] ++ [AV.sl (0 : Nat) (0 : Nat) (5 : Nat) L.length none] ++ []) [((0 : Nat), Ob.ro (5 : Nat) L.length (rowT L))] (AV.val (Value.int IntKind.i64 (checkF L))) [], (decide ¬checkF L = (0 : Int)) = false]) rfl rfl (by kernel_rfl) ⟨(CallOK.ren (rcheck_any (L) (by omega)) [(0, 0)] [0] rfl rfl rfl rfl ⟨rfl, fun _ => rfl, trivial⟩ rfl ⟨rfl, fun _ => rfl, trivial⟩), (decide_eq_false hc1), trivial⟩ rfl ⟨rfl, fun _ => rfl, trivial⟩ ?_
    case' ga7 =>
      refine Safe.gotoE mixed 8 [⟨1100, []⟩, ⟨1200, [(1, .call [0] (I (checkF L)) []), (2, .tt true)]⟩, ⟨1300, []⟩] [2] [0] (sl := slotsOf 53 [(2, .val (Value.slice none (0 : Nat) (0 : Nat)))]) (hp := [(0, .ro ((5 : Nat)) (L.length) (rowT L))]) (ob := [CallOK Try.prog (13 : Nat) ([] ++ [AV.sl (0 : Nat) (0 : Nat) (5 : Nat) L.length none] ++ []) [((0 : Nat), Ob.ro (5 : Nat) L.length (rowT L))] (AV.val (Value.int IntKind.i64 (checkF L))) [], (decide ¬checkF L = (0 : Int)) = true]) rfl rfl (by kernel_rfl) ⟨(CallOK.ren (rcheck_any (L) (by omega)) [(0, 0)] [0] rfl rfl rfl rfl ⟨rfl, fun _ => rfl, trivial⟩ rfl ⟨rfl, fun _ => rfl, trivial⟩), (decide_eq_true hc1), trivial⟩ rfl ⟨rfl, fun _ => rfl, trivial⟩ fun td htd => ?_
      refine Safe.nil 2 10 45 5 (fun _ => []) rfl rfl ⟨rfl, fun _ => rfl, trivial⟩ ?_ rfl
      refine Safe.endsT Go.Proofs.Try.func33 htd (r := .sl ((10 : Nat)) ((0 : Nat)) ((5 : Nat)) ((0 : Nat)) (none)) (hp := [(0, .ro ((5 : Nat)) (L.length) (rowT L)), (10, .vec ((45 : Nat)) ((5 : Nat)) ((0 : Nat)) (fun q => []))]) (ob := []) rfl (by kernel_rfl) trivial ?_ ⟨ObLe.refl _, ?_, trivial⟩ ⟨rfl, fun _ => rfl, rfl, fun _ => rfl, trivial⟩ rfl
    · rw [r1 (by omega)]; rfl
    · rw [r1 (by omega)]; exact ⟨rfl, rfl, rfl, fun q hq => by simp at hq⟩
    · refine Safe.nil 3 10 45 5 (rowT []) rfl rfl ⟨rfl, fun _ => rfl, trivial⟩ ?_ rfl
      exact Safe.leH (H 0 ⟨by omega, Nat.zero_le _⟩) rfl (SlLe.refl _) ⟨ObLe.refl _, ObLe.refl _, trivial⟩ rfl ⟨rfl, fun _ => rfl, rfl, fun _ => rfl, trivial⟩
set_option maxRecDepth 10000 in
set_option maxHeartbeats 4000000 in
theorem merge_any (L : List Tg) (hl : L.length ≤ 1000000) : CallOK Try.prog 17 [.sl 0 0 5 L.length none] [(0, .ro 5 L.length (rowT L))] (.sl 10 0 5 (mergeF L).length none) [(10, some (.vec 45 5 (mergeF L).length (rowT (mergeF L))))] := by
  refine CallOK.intro Try.call17 Try.func17 rfl rfl ⟨rfl, fun _ => rfl, trivial⟩ ?_
  refine Safe.withLoop (loopAt Try.f17 0) [0, 10] 45 (fun k : Nat => [(3, .sl 10 0 5 (mrgR L k).length none), (10, .sl 0 0 5 L.length none), (11, I L.length), (12, I k)]) (fun k => [(0, .ro 5 L.length (rowT L)), (10, .vec 45 5 (mrgR L k).length (rowT (mrgR L k)))]) (fun k => checkF L = 0 ∧ k ≤ L.length) (fun k => L.length - k) ?_ ?_
  · rintro k ⟨hv, hk⟩ ih
    obtain ⟨hb, hm⟩ := mrgR_bd hv k hk
    have h3 := fun h : k < L.length => ck1_len ((tok_bd hv).2.1 k h)
    have h4 := fun h : k < L.length => off_bd hv k h
    have h5 : 0 < (mrgR L k).length → _ := fun h => hm _ (getT_mem (mrgR L k) (((mrgR L k).length : Int) - 1).toNat (by omega))
    have e0 : (((mrgR L k).length : Int) - 1).toNat = (mrgR L k).length - 1 := by omega
    have h6 : goesF (getT (mrgR L k) (((mrgR L k).length : Int) - 1).toNat) (getT L k) = true → _ := goesF_len
    have hF : mergeF L = mrgR L L.length := by rw [mergeF, if_neg (by omega)]
    have t1 := (tok_bd hv).1
    refine (Classical.em ((↑k : Int) < (↑L.length : Int))).elim (fun hc1 => ?ga8) (fun hc1 => ?gb8)
    case' gb8 =>
      refine Safe.ends mixed Go.Proofs.Try.func17 7 [⟨1100, [(0, .tt false)]⟩, ⟨1200, []⟩] (r := .sl ((10 : Nat)) ((0 : Nat)) ((5 : Nat)) ((mrgR L k).length) (none)) (hp := [(0, .ro ((5 : Nat)) (L.length) (rowT L)), (10, .vec ((45 : Nat)) ((5 : Nat)) ((mrgR L k).length) (rowT (mrgR L k)))]) (ob := [decide ((↑k : Int) < (↑L.length : Int)) = false]) rfl (by kernel_rfl) ⟨(decide_eq_false hc1), trivial⟩ ?_ ⟨ObLe.refl _, ?_, trivial⟩ ⟨rfl, fun _ => rfl, rfl, fun _ => rfl, trivial⟩ rfl
    case' ga8 =>
      refine (Classical.em ((↑(mrgR L k).length : Int) - (1 : Int) ≥ (0 : Int))).elim (fun hc2 => ?ga9) (fun hc2 => ?gb9)
      case' gb9 =>
        refine Safe.goto mixed 20 [⟨1100, [(0, .tt true)]⟩, ⟨1200, []⟩, ⟨1300, []⟩, ⟨1400, [(1, .tt false)]⟩, ⟨1500, []⟩, ⟨1600, []⟩] [3, 10, 11, 12] [0, 1503] (todo' := loopAt Go.Proofs.Try.f17 0) (sl := slotsOf 45 [(3, .sl ((1503 : Nat)) ((0 : Nat)) ((5 : Nat)) (addN (mrgR L k).length (1 : Nat)) (none)), (10, .sl ((0 : Nat)) ((0 : Nat)) ((5 : Nat)) (L.length) (none)), (11, I ((↑L.length : Int))), (12, I ((↑k : Int) + (1 : Int)))]) (hp := [(0, .ro ((5 : Nat)) (L.length) (rowT L)), (1503, .vec ((45 : Nat)) ((5 : Nat)) (addN (mrgR L k).length (1 : Nat)) (catR (mrgR L k).length (rowT (mrgR L k)) (rowsOf [AV.val (Value.int IntKind.i64 (getT L k).start), AV.val (Value.int IntKind.i64 (getT L k).length), AV.val (Value.string (getT L k).on), AV.val (Value.int IntKind.i64 (getT L k).offset), AV.val (Value.bool (getT L k).fail)] (5 : Nat))))]) (ob := [decide ((↑k : Int) < (↑L.length : Int)) = true, (0 : Int) ≤ (↑k : Int) ∧ (↑k : Int) < (↑L.length : Int), k < L.length, inK IntKind.i64 ((↑(mrgR L k).length : Int) - (1 : Int)), decide ((↑(mrgR L k).length : Int) - (1 : Int) ≥ (0 : Int)) = false, (0 : Nat) + (1 : Nat) ≤ (1 : Nat), (mrgR L k).length = (mrgR L k).length, (mrgR L k).length + (1 : Nat) ≤ (1099511627776 : Nat), inK IntKind.i64 ((↑k : Int) + (1 : Int))]) rfl rfl (by kernel_rfl) ⟨(decide_eq_true hc1), (by omega), (by omega), (by simp only [inK]; omega), (decide_eq_false hc2), (by omega), (by omega), (by omega), (by simp only [inK]; omega), trivial⟩ rfl ⟨rfl, fun _ => rfl, rfl, closed_cat (fun _ => rfl) (closed_rows rfl), trivial⟩ ?_
        refine Safe.ren [(1503, 10)] rfl rfl rfl rfl ⟨rfl, fun _ => rfl, rfl, closed_cat (fun _ => rfl) (closed_rows rfl), trivial⟩ ?_
      case' ga9 =>
        refine (Classical.em ((goesF { start := (getT (mrgR L k) ((↑(mrgR L k).length : Int) - (1 : Int)).toNat).start, length := (getT (mrgR L k) ((↑(mrgR L k).length : Int) - (1 : Int)).toNat).length, on := (getT (mrgR L k) ((↑(mrgR L k).length : Int) - (1 : Int)).toNat).on, offset := (getT (mrgR L k) ((↑(mrgR L k).length : Int) - (1 : Int)).toNat).offset, fail := (getT (mrgR L k) ((↑(mrgR L k).length : Int) - (1 : Int)).toNat).fail } { start := (getT L k).start, length := (getT L k).length, on := (getT L k).on, offset := (getT L k).offset, fail := (getT L k).fail }) = true)).elim (fun hc3 => ?ga10) (fun hc3 => ?gb10)
        case' gb10 =>
          refine Safe.goto mixed 20 [⟨1100, [(0, .tt true)]⟩, ⟨1200, []⟩, ⟨1300, []⟩, ⟨1400, [(1, .tt true), (8, .call [] (B false) [])]⟩, ⟨1500, []⟩, ⟨1600, []⟩] [3, 10, 11, 12] [0, 1503] (todo' := loopAt Go.Proofs.Try.f17 0) (sl := slotsOf 45 [(3, .sl ((1503 : Nat)) ((0 : Nat)) ((5 : Nat)) (addN (mrgR L k).length (1 : Nat)) (none)), (10, .sl ((0 : Nat)) ((0 : Nat)) ((5 : Nat)) (L.length) (none)), (11, I ((↑L.length : Int))), (12, I ((↑k : Int) + (1 : Int)))]) (hp := [(0, .ro ((5 : Nat)) (L.length) (rowT L)), (1503, .vec ((45 : Nat)) ((5 : Nat)) (addN (mrgR L k).length (1 : Nat)) (catR (mrgR L k).length (rowT (mrgR L k)) (rowsOf [AV.val (Value.int IntKind.i64 (getT L k).start), AV.val (Value.int IntKind.i64 (getT L k).length), AV.val (Value.string (getT L k).on), AV.val (Value.int IntKind.i64 (getT L k).offset), AV.val (Value.bool (getT L k).fail)] (5 : Nat))))]) (ob := [decide ((↑k : Int) < (↑L.length : Int)) = true, (0 : Int) ≤ (↑k : Int) ∧ (↑k : Int) < (↑L.length : Int), k < L.length, inK IntKind.i64 ((↑(mrgR L k).length : Int) - (1 : Int)), decide ((↑(mrgR L k).length : Int) - (1 : Int) ≥ (0 : Int)) = true, (0 : Int) ≤ (↑(mrgR L k).length : Int) - (1 : Int) ∧ (↑(mrgR L k).length : Int) - (1 : Int) < (↑(mrgR L k).length : Int), ((↑(mrgR L k).length : Int) - (1 : Int)).toNat < (mrgR L k).length, CallOK Try.prog (38 : Nat) ([] ++ [AV.agg [AV.val (Value.int IntKind.i64 (getT (mrgR L k) ((↑(mrgR L k).length : Int) - (1 : Int)).toNat).start), AV.val (Value.int IntKind.i64 (getT (mrgR L k) ((↑(mrgR L k).length : Int) - (1 : Int)).toNat).length), AV.val (Value.string (getT (mrgR L k) ((↑(mrgR L k).length : Int) - (1 : Int)).toNat).on), AV.val (Value.int IntKind.i64 (getT (mrgR L k) ((↑(mrgR L k).length : Int) - (1 : Int)).toNat).offset), AV.val (Value.bool (getT (mrgR L k) ((↑(mrgR L k).length : Int) - (1 : Int)).toNat).fail)], AV.agg [AV.val (Value.int IntKind.i64 (getT L k).start), AV.val (Value.int IntKind.i64 (getT L k).length), AV.val (Value.string (getT L k).on), AV.val (Value.int IntKind.i64 (getT L k).offset), AV.val (Value.bool (getT L k).fail)]] ++ []) [] (AV.val (Value.bool false)) [], (0 : Nat) + (1 : Nat) ≤ (1 : Nat), (mrgR L k).length = (mrgR L k).length, (mrgR L k).length + (1 : Nat) ≤ (1099511627776 : Nat), inK IntKind.i64 ((↑k : Int) + (1 : Int))]) rfl rfl (by kernel_rfl) ⟨(decide_eq_true hc1), (by omega), (by omega), (by simp only [inK]; omega), (decide_eq_true hc2), (by omega), (by omega), (CallOK.isB (CallOK.ren (goes_any ((getT (mrgR L k) ((↑(mrgR L k).length : Int) - (1 : Int)).toNat).start) ((getT (mrgR L k) ((↑(mrgR L k).length : Int) - (1 : Int)).toNat).length) ((getT (mrgR L k) ((↑(mrgR L k).length : Int) - (1 : Int)).toNat).offset) ((getT L k).start) ((getT L k).length) ((getT L k).offset) ((getT (mrgR L k) ((↑(mrgR L k).length : Int) - (1 : Int)).toNat).on) ((getT L k).on) ((getT (mrgR L k) ((↑(mrgR L k).length : Int) - (1 : Int)).toNat).fail) ((getT L k).fail) (by omega) (by omega) (by omega) (by omega)) [] [] rfl rfl rfl rfl trivial rfl trivial) (eq_false_of_ne_true hc3)), (by omega), (by omega), (by omega), (by simp only [inK]; omega), trivial⟩ rfl ⟨rfl, fun _ => rfl, rfl, closed_cat (fun _ => rfl) (closed_rows rfl), trivial⟩ ?_
          refine Safe.ren [(1503, 10)] rfl rfl rfl rfl ⟨rfl, fun _ => rfl, rfl, closed_cat (fun _ => rfl) (closed_rows rfl), trivial⟩ ?_
        case' ga10 =>
          refine Safe.goto mixed 20 [⟨1100, [(0, .tt true)]⟩, ⟨1200, []⟩, ⟨1300, []⟩, ⟨1400, [(1, .tt true), (8, .call [] (B true) [])]⟩, ⟨1500, []⟩, ⟨1600, []⟩] [3, 10, 11, 12] [0, 10] (todo' := loopAt Go.Proofs.Try.f17 0) (sl := slotsOf 45 [(3, .sl ((10 : Nat)) ((0 : Nat)) ((5 : Nat)) ((mrgR L k).length) (none)), (10, .sl ((0 : Nat)) ((0 : Nat)) ((5 : Nat)) (L.length) (none)), (11, I ((↑L.length : Int))), (12, I ((↑k : Int) + (1 : Int)))]) (hp := [(0, .ro ((5 : Nat)) (L.length) (rowT L)), (10, .vec ((45 : Nat)) ((5 : Nat)) ((mrgR L k).length) (setRow (rowT (mrgR L k)) ((↑(mrgR L k).length : Int) - (1 : Int)).toNat [AV.val (Value.int IntKind.i64 (getT (mrgR L k) ((↑(mrgR L k).length : Int) - (1 : Int)).toNat).start), AV.val (Value.int IntKind.i64 ((getT (mrgR L k) ((↑(mrgR L k).length : Int) - (1 : Int)).toNat).length + (getT L k).length)), AV.val (Value.string (getT (mrgR L k) ((↑(mrgR L k).length : Int) - (1 : Int)).toNat).on), AV.val (Value.int IntKind.i64 (getT (mrgR L k) ((↑(mrgR L k).length : Int) - (1 : Int)).toNat).offset), AV.val (Value.bool (getT (mrgR L k) ((↑(mrgR L k).length : Int) - (1 : Int)).toNat).fail)]))]) (ob := [decide ((↑k : Int) < (↑L.length : Int)) = true, (0 : Int) ≤ (↑k : Int) ∧ (↑k : Int) < (↑L.length : Int), k < L.length, inK IntKind.i64 ((↑(mrgR L k).length : Int) - (1 : Int)), decide ((↑(mrgR L k).length : Int) - (1 : Int) ≥ (0 : Int)) = true, (0 : Int) ≤ (↑(mrgR L k).length : Int) - (1 : Int) ∧ (↑(mrgR L k).length : Int) - (1 : Int) < (↑(mrgR L k).length : Int), ((↑(mrgR L k).length : Int) - (1 : Int)).toNat < (mrgR L k).length, CallOK Try.prog (38 : Nat) ([] ++ [AV.agg [AV.val (Value.int IntKind.i64 (getT (mrgR L k) ((↑(mrgR L k).length : Int) - (1 : Int)).toNat).start), AV.val (Value.int IntKind.i64 (getT (mrgR L k) ((↑(mrgR L k).length : Int) - (1 : Int)).toNat).length), AV.val (Value.string (getT (mrgR L k) ((↑(mrgR L k).length : Int) - (1 : Int)).toNat).on), AV.val (Value.int IntKind.i64 (getT (mrgR L k) ((↑(mrgR L k).length : Int) - (1 : Int)).toNat).offset), AV.val (Value.bool (getT (mrgR L k) ((↑(mrgR L k).length : Int) - (1 : Int)).toNat).fail)], AV.agg [AV.val (Value.int IntKind.i64 (getT L k).start), AV.val (Value.int IntKind.i64 (getT L k).length), AV.val (Value.string (getT L k).on), AV.val (Value.int IntKind.i64 (getT L k).offset), AV.val (Value.bool (getT L k).fail)]] ++ []) [] (AV.val (Value.bool true)) [], (0 : Int) ≤ (↑(mrgR L k).length : Int) - (1 : Int) ∧ (↑(mrgR L k).length : Int) - (1 : Int) < (↑(mrgR L k).length : Int), ((↑(mrgR L k).length : Int) - (1 : Int)).toNat < (mrgR L k).length, inK IntKind.i64 ((getT (mrgR L k) ((↑(mrgR L k).length : Int) - (1 : Int)).toNat).length + (getT L k).length), (0 : Int) ≤ (↑(mrgR L k).length : Int) - (1 : Int) ∧ (↑(mrgR L k).length : Int) - (1 : Int) < (↑(mrgR L k).length : Int), ((↑(mrgR L k).length : Int) - (1 : Int)).toNat < (mrgR L k).length, inK IntKind.i64 ((↑k : Int) + (1 : Int))]) rfl rfl (by kernel_rfl) ⟨(decide_eq_true hc1), (by omega), (by omega), (by simp only [inK]; omega), (decide_eq_true hc2), (by omega), (by omega), (CallOK.isB (CallOK.ren (goes_any ((getT (mrgR L k) ((↑(mrgR L k).length : Int) - (1 : Int)).toNat).start) ((getT (mrgR L k) ((↑(mrgR L k).length : Int) - (1 : Int)).toNat).length) ((getT (mrgR L k) ((↑(mrgR L k).length : Int) - (1 : Int)).toNat).offset) ((getT L k).start) ((getT L k).length) ((getT L k).offset) ((getT (mrgR L k) ((↑(mrgR L k).length : Int) - (1 : Int)).toNat).on) ((getT L k).on) ((getT (mrgR L k) ((↑(mrgR L k).length : Int) - (1 : Int)).toNat).fail) ((getT L k).fail) (by omega) (by omega) (by omega) (by omega)) [] [] rfl rfl rfl rfl trivial rfl trivial) hc3), (by omega), (by omega), (by simp only [inK]; omega), (by omega), (by omega), (by simp only [inK]; omega), trivial⟩ rfl ⟨rfl, fun _ => rfl, rfl, closed_set (fun _ => rfl) rfl, trivial⟩ ?_
    · have e1 : mrgR L (k + 1) = (mrgR L k).set ((mrgR L k).length - 1) (mrgT (getT (mrgR L k) ((mrgR L k).length - 1)) (getT L k)) := by
        rw [e0] at hc3
        rw [mrgR, mrgS, if_pos ⟨by omega, hc3⟩]
      have hh := ih (k + 1) ⟨hv, by omega⟩ (by omega)
      have e2 : (mrgR L (k + 1)).length = (mrgR L k).length := by rw [e1, List.length_set]
      rw [e2] at hh
      refine Safe.leH hh rfl (SlLe.refl _) ⟨ObLe.refl _, ?_, trivial⟩ rfl ⟨rfl, fun _ => rfl, rfl, fun _ => rfl, trivial⟩
      have key := ob_set (ty := 45) (es := 5) (i := (mrgR L k).length - 1) encT (mrgR L k) (mrgT (getT (mrgR L k) ((mrgR L k).length - 1)) (getT L k)) _ rfl rfl
      rw [← e1, e2] at key
      show ObLe _ _
      rw [e0]
      exact key
    · have e1 : mrgR L (k + 1) = mrgR L k ++ [getT L k] := by
        rw [e0] at hc3
        rw [mrgR, mrgS, if_neg (fun h => hc3 h.2)]
      have e2 : addN (mrgR L k).length 1 = (mrgR L (k + 1)).length := by rw [addN_eq, e1, List.length_append]; rfl
      rw [e2]
      refine Safe.leH (ih (k + 1) ⟨hv, by omega⟩ (by omega)) rfl (SlLe.refl _) ⟨ObLe.refl _, ?_, trivial⟩ rfl ⟨rfl, fun _ => rfl, rfl, fun _ => rfl, trivial⟩
      show ObLe _ _
      rw [e1]
      exact ob_ren_one encT _ _ _ (by rw [List.length_append]; rfl) (fun _ => rfl) rfl
    · have e1 : mrgR L (k + 1) = mrgR L k ++ [getT L k] := by
        rw [mrgR, mrgS, if_neg (fun h => hc2 (by omega))]
      have e2 : addN (mrgR L k).length 1 = (mrgR L (k + 1)).length := by rw [addN_eq, e1, List.length_append]; rfl
      rw [e2]
      refine Safe.leH (ih (k + 1) ⟨hv, by omega⟩ (by omega)) rfl (SlLe.refl _) ⟨ObLe.refl _, ?_, trivial⟩ rfl ⟨rfl, fun _ => rfl, rfl, fun _ => rfl, trivial⟩
      show ObLe _ _
      rw [e1]
      exact ob_ren_one encT _ _ _ (by rw [List.length_append]; rfl) (fun _ => rfl) rfl
    · rw [hF, show k = L.length by omega]; rfl
    · rw [hF, show k = L.length by omega]; exact ObLe.refl _
  · intro H
    have r1 : checkF L ≠ 0 → mergeF L = [] := fun h => by rw [mergeF, if_pos h]
    refine (Classical.em (¬checkF L = (0 : Int))).elim (fun hc1 => ?ga11) (fun hc1 => ?gb11)
    case' gb11 =>
      refine Safe.goto mixed 17 [⟨1100, []⟩, ⟨1200, [(1, .call [0] (I (checkF L)) []), (2, .tt false)]⟩, ⟨1300, []⟩, ⟨1400, []⟩] [3, 10, 11, 12] [0] (todo' := loopAt Go.Proofs.Try.f17 0) (sl := slotsOf 45 [(3, .val (Value.slice none (0 : Nat) (0 : Nat))), (10, .sl ((0 : Nat)) ((0 : Nat)) ((5 : Nat)) (L.length) (none)), (11, I ((↑L.length : Int))), (12, I ((0 : Int)))]) (hp := [(0, .ro ((5 : Nat)) (L.length) (rowT L))]) (ob := [CallOK Try.prog (30 : Nat) ([] ++ [AV.sl (0 : Nat) (0 : Nat) (5 : Nat) L.length none] ++ []) [((0 : Nat), Ob.ro (5 : Nat) L.length (rowT L))] (AV.val (Value.int IntKind.i64 (checkF L))) [], (decide ¬checkF L = (0 : Int)) = false]) rfl rfl (by kernel_rfl) ⟨(CallOK.ren (check_any (L) (by omega)) [(0, 0)] [0] rfl rfl rfl rfl ⟨rfl, fun _ => rfl, trivial⟩ rfl ⟨rfl, fun _ => rfl, trivial⟩), (decide_eq_false hc1), trivial⟩ rfl ⟨rfl, fun _ => rfl, trivial⟩ ?_
    case' ga11 =>
      refine Safe.gotoE mixed 9 [⟨1100, []⟩, ⟨1200, [(1, .call [0] (I (checkF L)) []), (2, .tt true)]⟩, ⟨1300, []⟩] [2] [0] (sl := slotsOf 45 [(2, .val (Value.slice none (0 : Nat) (0 : Nat)))]) (hp := [(0, .ro ((5 : Nat)) (L.length) (rowT L))]) (ob := [CallOK Try.prog (30 : Nat) ([] ++ [AV.sl (0 : Nat) (0 : Nat) (5 : Nat) L.length none] ++ []) [((0 : Nat), Ob.ro (5 : Nat) L.length (rowT L))] (AV.val (Value.int IntKind.i64 (checkF L))) [], (decide ¬checkF L = (0 : Int)) = true]) rfl rfl (by kernel_rfl) ⟨(CallOK.ren (check_any (L) (by omega)) [(0, 0)] [0] rfl rfl rfl rfl ⟨rfl, fun _ => rfl, trivial⟩ rfl ⟨rfl, fun _ => rfl, trivial⟩), (decide_eq_true hc1), trivial⟩ rfl ⟨rfl, fun _ => rfl, trivial⟩ fun td htd => ?_
      refine Safe.nil 2 10 45 5 (fun _ => []) rfl rfl ⟨rfl, fun _ => rfl, trivial⟩ ?_ rfl
      refine Safe.endsT Go.Proofs.Try.func17 htd (r := .sl ((10 : Nat)) ((0 : Nat)) ((5 : Nat)) ((0 : Nat)) (none)) (hp := [(0, .ro ((5 : Nat)) (L.length) (rowT L)), (10, .vec ((45 : Nat)) ((5 : Nat)) ((0 : Nat)) (fun q => []))]) (ob := []) rfl (by kernel_rfl) trivial ?_ ⟨ObLe.refl _, ?_, trivial⟩ ⟨rfl, fun _ => rfl, rfl, fun _ => rfl, trivial⟩ rfl
    · rw [r1 (by omega)]; rfl
    · rw [r1 (by omega)]; exact ⟨rfl, rfl, rfl, fun q hq => by simp at hq⟩
    · refine Safe.nil 3 10 45 5 (rowT []) rfl rfl ⟨rfl, fun _ => rfl, trivial⟩ ?_ rfl
      exact Safe.leH (H 0 ⟨by omega, Nat.zero_le _⟩) rfl (SlLe.refl _) ⟨ObLe.refl _, ObLe.refl _, trivial⟩ rfl ⟨rfl, fun _ => rfl, rfl, fun _ => rfl, trivial⟩
end Go.Proofs.Ytcomimabihbfgaa
