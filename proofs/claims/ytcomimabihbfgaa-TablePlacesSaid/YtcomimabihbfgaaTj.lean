/- Cut: the program's and the reference's. -/
import Derived.Test.YtcomimabihbfgaaSyU
import Derived.KernelRfl
import Derived.Test.YtcomimabihbfgaaTi
namespace Go.Proofs.Ytcomimabihbfgaa
open Go.RowKit
set_option linter.unusedVariables false
def cutT (t : Tg) (p : Pc) (s : Int) : Tg := ⟨s, p.length, t.on, if t.on = { data := #[] } then t.offset else t.offset + p.at', t.fail⟩
def cutR (L : List Tg) (ps : List Pc) : Nat → List Tg
  | 0 => []
  | k + 1 => cutR L ps k ++ [cutT (getT L (ps.getD k default).target.toNat) (ps.getD k default) (endF (cutR L ps k))]
def cutF (L : List Tg) (a n : Int) : List Tg × Int := if (splitF L a n).2 ≠ 0 then ([], (splitF L a n).2) else (cutR L (splitF L a n).1 (splitF L a n).1.length, 0)
theorem cutR_len (L : List Tg) (ps : List Pc) : ∀ k, (cutR L ps k).length = k
  | 0 => rfl
  | k + 1 => by simp [cutR, cutR_len L ps k]
theorem getT_last (M : List Tg) (t : Tg) : getT (M ++ [t]) M.length = t := by
  unfold getT
  rw [List.getD_eq_getElem?_getD, List.getElem?_append_right (Nat.le_refl _), Nat.sub_self]
  rfl
theorem endF_cat (M : List Tg) (t : Tg) : endF (M ++ [t]) = t.start + t.length := by
  unfold endF
  rw [if_neg (by simp)]
  have : (M ++ [t]).length - 1 = M.length := by simp
  rw [this, getT_last]
theorem cutR_end (L : List Tg) (ps : List Pc) (k : Nat) : endF (cutR L ps (k + 1)) = endF (cutR L ps k) + (ps.getD k default).length := by
  rw [cutR, endF_cat]; rfl
theorem splR_mem {L : List Tg} {a n : Int} {p : Pc} : ∀ k, p ∈ splR L a n k → ∃ i, i < k ∧ p ∈ pc (getT L i) i a n
  | 0, h => by simp [splR] at h
  | k + 1, h => by
    simp only [splR, List.mem_append] at h
    rcases h with h | h
    · obtain ⟨i, h1, h2⟩ := splR_mem k h
      exact ⟨i, by omega, h2⟩
    · exact ⟨k, by omega, h⟩
theorem splitF_bd {L : List Tg} {a n : Int} (h0 : (splitF L a n).2 = 0) : checkF L = 0 ∧ (splitF L a n).1.length ≤ 64 ∧ ∀ k, k < (splitF L a n).1.length → 0 ≤ ((splitF L a n).1.getD k default).target ∧ ((splitF L a n).1.getD k default).target < L.length ∧ 0 ≤ ((splitF L a n).1.getD k default).at' ∧ ((splitF L a n).1.getD k default).at' ≤ 16777216 ∧ 1 ≤ ((splitF L a n).1.getD k default).length ∧ ((splitF L a n).1.getD k default).length ≤ 16777216 := by
  have hv : checkF L = 0 := by
    refine Classical.not_not.1 fun h => ?_
    unfold splitF at h0
    rw [if_pos h] at h0
    exact h h0
  obtain ⟨t1, t2, t3, t4, t5, t6, t7⟩ := tok_bd hv
  have e : splitF L a n = (splR L a n L.length, 0) := by
    unfold splitF at h0 ⊢
    rw [if_neg (by omega)] at h0 ⊢
    split
    · rename_i hh
      rw [if_pos hh] at h0
      exact absurd h0 (by decide)
    · rfl
  rw [e]
  have hl := splR_len L a n L.length
  refine ⟨hv, by dsimp only; omega, fun k hk => ?_⟩
  dsimp only at hk ⊢
  have hm : (splR L a n L.length).getD k default ∈ splR L a n L.length := by
    rw [List.getD_eq_getElem?_getD, List.getElem?_eq_getElem hk]
    exact List.getElem_mem hk
  obtain ⟨i, hi, hp⟩ := splR_mem _ hm
  generalize (splR L a n L.length).getD k default = p at hp
  have ht := ck1_len (t2 i hi)
  unfold pc at hp
  split at hp
  · simp only [List.mem_singleton] at hp
    subst hp
    dsimp only
    omega
  · simp at hp
theorem cutR_bd {L : List Tg} {ps : List Pc} {m : Nat} (h : ∀ k, k < m → 1 ≤ (ps.getD k default).length ∧ (ps.getD k default).length ≤ 16777216) : ∀ k, k ≤ m → 0 ≤ endF (cutR L ps k) ∧ endF (cutR L ps k) ≤ 16777216 * k ∧ ∀ t ∈ cutR L ps k, 0 ≤ t.start ∧ t.start ≤ 16777216 * k ∧ 0 ≤ t.length ∧ t.length ≤ 16777216
  | 0, _ => ⟨by simp [cutR, endF], by simp [cutR, endF], fun t ht => by simp [cutR] at ht⟩
  | k + 1, hk => by
    obtain ⟨h1, h2, h3⟩ := cutR_bd (L := L) h k (by omega)
    have h4 := h k (by omega)
    rw [cutR_end]
    refine ⟨by omega, by omega, fun t ht => ?_⟩
    simp only [cutR, List.mem_append, List.mem_singleton] at ht
    rcases ht with ht | ht
    · have := h3 t ht; omega
    · subst ht
      dsimp only [cutT]
      omega
theorem off_bd {L : List Tg} (hv : checkF L = 0) (i : Nat) (hi : i < L.length) : 0 ≤ (getT L i).offset ∧ (getT L i).offset ≤ 16777216 := by
  have h := (tok_bd hv).2.1 i hi
  unfold ck1 at h
  split at h
  · omega
  · split at h
    · omega
    · split at h
      · omega
      · split at h <;> omega
set_option maxRecDepth 10000 in
set_option maxHeartbeats 4000000 in
theorem cut_any (L : List Tg) (a n : Int) (hl : L.length ≤ 1000000) (ha : -9223372036854775808 ≤ a ∧ a ≤ 9223372036854775807) (hn : -9223372036854775808 ≤ n ∧ n ≤ 9223372036854775807) : CallOK Try.prog 18 [.sl 0 0 5 L.length none, I a, I n] [(0, .ro 5 L.length (rowT L))] (.tup [.sl 10 0 5 (cutF L a n).1.length none, I (cutF L a n).2]) [(10, some (.vec 45 5 (cutF L a n).1.length (rowT (cutF L a n).1)))] := by
  refine CallOK.intro Try.call18 Try.func18 rfl rfl ⟨rfl, fun _ => rfl, trivial⟩ ?_
  refine Safe.withLoop (loopAt Try.f18 0) [0, 10, 20] 56 (fun k : Nat => [(0, .sl 0 0 5 L.length none), (10, .sl 10 0 5 (cutR L (splitF L a n).1 k).length none), (24, .sl 20 0 3 (splitF L a n).1.length none), (25, I (splitF L a n).1.length), (26, I k)]) (fun k => [(0, .ro 5 L.length (rowT L)), (10, .vec 45 5 (cutR L (splitF L a n).1 k).length (rowT (cutR L (splitF L a n).1 k))), (20, .vec 43 3 (splitF L a n).1.length (rowG encP (splitF L a n).1))]) (fun k => (splitF L a n).2 = 0 ∧ k ≤ (splitF L a n).1.length) (fun k => (splitF L a n).1.length - k) ?_ ?_
  · rintro k ⟨hv, hk⟩ ih
    obtain ⟨t1, t2, t3⟩ := splitF_bd hv
    have hb := cutR_bd (L := L) (ps := (splitF L a n).1) (m := (splitF L a n).1.length) (fun k hk => by have := t3 k hk; omega) k hk
    have ho := fun h : k < (splitF L a n).1.length => off_bd t1 ((splitF L a n).1.getD k default).target.toNat (by have := t3 k h; omega)
    have hp := t3 k
    have hcl := cutR_len L (splitF L a n).1 k
    have hF : cutF L a n = (cutR L (splitF L a n).1 (splitF L a n).1.length, 0) := by rw [cutF, if_neg (by omega)]
    refine (Classical.em ((↑k : Int) < (↑(splitF L a n).fst.length : Int))).elim (fun hc1 => ?ga0) (fun hc1 => ?gb0)
    case' gb0 =>
      refine Safe.ends mixed Go.Proofs.Try.func18 7 [⟨1100, [(0, .tt false)]⟩, ⟨1200, []⟩] (r := .tup [.sl ((10 : Nat)) ((0 : Nat)) ((5 : Nat)) ((cutR L (splitF L a n).fst k).length) (none), I ((0 : Int))]) (hp := [(0, .ro ((5 : Nat)) (L.length) (rowT L)), (10, .vec ((45 : Nat)) ((5 : Nat)) ((cutR L (splitF L a n).fst k).length) (rowT (cutR L (splitF L a n).fst k)))]) (ob := [decide ((↑k : Int) < (↑(splitF L a n).fst.length : Int)) = false]) rfl (by kernel_rfl) ⟨(decide_eq_false hc1), trivial⟩ ?_ ⟨ObLe.refl _, ?_, trivial⟩ ⟨rfl, fun _ => rfl, rfl, fun _ => rfl, trivial⟩ rfl
    case' ga0 =>
      refine (Classical.em (¬(getT L ((splitF L a n).fst.getD k default).target.toNat).on = { data := #[] })).elim (fun hc2 => ?ga1) (fun hc2 => ?gb1)
      case' gb1 =>
        refine Safe.goto mixed 22 [⟨1100, [(0, .tt true)]⟩, ⟨1200, []⟩, ⟨1300, []⟩, ⟨1400, [(1, .call [10] (I (endF (cutR L (splitF L a n).fst k))) [])]⟩, ⟨1500, [(2, .tt false)]⟩, ⟨1600, []⟩, ⟨1700, []⟩] [0, 10, 24, 25, 26] [0, 1603, 20] (todo' := loopAt Go.Proofs.Try.f18 0) (sl := slotsOf 56 [(0, .sl ((0 : Nat)) ((0 : Nat)) ((5 : Nat)) (L.length) (none)), (10, .sl ((1603 : Nat)) ((0 : Nat)) ((5 : Nat)) (addN (cutR L (splitF L a n).fst k).length (1 : Nat)) (none)), (24, .sl ((20 : Nat)) ((0 : Nat)) ((3 : Nat)) ((splitF L a n).fst.length) (none)), (25, I ((↑(splitF L a n).fst.length : Int))), (26, I ((↑k : Int) + (1 : Int)))]) (hp := [(0, .ro ((5 : Nat)) (L.length) (rowT L)), (1603, .vec ((45 : Nat)) ((5 : Nat)) (addN (cutR L (splitF L a n).fst k).length (1 : Nat)) (catR (cutR L (splitF L a n).fst k).length (rowT (cutR L (splitF L a n).fst k)) (rowsOf [AV.val (Value.int IntKind.i64 (endF (cutR L (splitF L a n).fst k))), AV.val (Value.int IntKind.i64 ((splitF L a n).fst.getD k default).length), AV.val (Value.string (getT L ((splitF L a n).fst.getD k default).target.toNat).on), AV.val (Value.int IntKind.i64 (getT L ((splitF L a n).fst.getD k default).target.toNat).offset), AV.val (Value.bool (getT L ((splitF L a n).fst.getD k default).target.toNat).fail)] (5 : Nat)))), (20, .vec ((43 : Nat)) ((3 : Nat)) ((splitF L a n).fst.length) (rowG encP (splitF L a n).fst))]) (ob := [decide ((↑k : Int) < (↑(splitF L a n).fst.length : Int)) = true, (0 : Int) ≤ (↑k : Int) ∧ (↑k : Int) < (↑(splitF L a n).fst.length : Int), k < (splitF L a n).fst.length, (0 : Int) ≤ ((splitF L a n).fst.getD k default).target ∧ ((splitF L a n).fst.getD k default).target < (↑L.length : Int), ((splitF L a n).fst.getD k default).target.toNat < L.length, CallOK Try.prog (36 : Nat) ([] ++ [AV.sl (10 : Nat) (0 : Nat) (5 : Nat) (cutR L (splitF L a n).fst k).length none] ++ []) [((10 : Nat), Ob.vec (45 : Nat) (5 : Nat) (cutR L (splitF L a n).fst k).length (rowT (cutR L (splitF L a n).fst k)))] (AV.val (Value.int IntKind.i64 (endF (cutR L (splitF L a n).fst k)))) [], (decide ¬(getT L ((splitF L a n).fst.getD k default).target.toNat).on = { data := #[] }) = false, (0 : Nat) + (1 : Nat) ≤ (1 : Nat), (cutR L (splitF L a n).fst k).length = (cutR L (splitF L a n).fst k).length, (cutR L (splitF L a n).fst k).length + (1 : Nat) ≤ (1099511627776 : Nat), inK IntKind.i64 ((↑k : Int) + (1 : Int))]) rfl rfl (by kernel_rfl) ⟨(decide_eq_true hc1), (by first | omega | exact fun t ht => by have := hb.2.2 t ht; omega), (by first | omega | exact fun t ht => by have := hb.2.2 t ht; omega), (by first | omega | exact fun t ht => by have := hb.2.2 t ht; omega), (by first | omega | exact fun t ht => by have := hb.2.2 t ht; omega), (CallOK.ren (CallOK.own 45 0 rfl rfl rfl (end_any (cutR L (splitF L a n).fst k) (by first | omega | exact fun t ht => by have := hb.2.2 t ht; omega) (by first | omega | exact fun t ht => by have := hb.2.2 t ht; omega))) [(0, 10)] [0] rfl rfl rfl rfl ⟨rfl, fun _ => rfl, trivial⟩ rfl ⟨rfl, fun _ => rfl, trivial⟩), (decide_eq_false hc2), (by first | omega | exact fun t ht => by have := hb.2.2 t ht; omega), (by first | omega | exact fun t ht => by have := hb.2.2 t ht; omega), (by first | omega | exact fun t ht => by have := hb.2.2 t ht; omega), (by simp only [inK]; first | omega | exact fun t ht => by have := hb.2.2 t ht; omega), trivial⟩ rfl ⟨rfl, fun _ => rfl, rfl, closed_cat (fun _ => rfl) (closed_rows rfl), rfl, fun _ => rfl, trivial⟩ ?_
        refine Safe.ren [(1603, 10)] rfl rfl rfl rfl ⟨rfl, fun _ => rfl, rfl, closed_cat (fun _ => rfl) (closed_rows rfl), rfl, fun _ => rfl, trivial⟩ ?_
      case' ga1 =>
        refine Safe.goto mixed 22 [⟨1100, [(0, .tt true)]⟩, ⟨1200, []⟩, ⟨1300, []⟩, ⟨1400, [(1, .call [10] (I (endF (cutR L (splitF L a n).fst k))) [])]⟩, ⟨1500, [(2, .tt true)]⟩, ⟨1600, []⟩, ⟨1700, []⟩, ⟨1800, []⟩] [0, 10, 24, 25, 26] [0, 1703, 20] (todo' := loopAt Go.Proofs.Try.f18 0) (sl := slotsOf 56 [(0, .sl ((0 : Nat)) ((0 : Nat)) ((5 : Nat)) (L.length) (none)), (10, .sl ((1703 : Nat)) ((0 : Nat)) ((5 : Nat)) (addN (cutR L (splitF L a n).fst k).length (1 : Nat)) (none)), (24, .sl ((20 : Nat)) ((0 : Nat)) ((3 : Nat)) ((splitF L a n).fst.length) (none)), (25, I ((↑(splitF L a n).fst.length : Int))), (26, I ((↑k : Int) + (1 : Int)))]) (hp := [(0, .ro ((5 : Nat)) (L.length) (rowT L)), (1703, .vec ((45 : Nat)) ((5 : Nat)) (addN (cutR L (splitF L a n).fst k).length (1 : Nat)) (catR (cutR L (splitF L a n).fst k).length (rowT (cutR L (splitF L a n).fst k)) (rowsOf [AV.val (Value.int IntKind.i64 (endF (cutR L (splitF L a n).fst k))), AV.val (Value.int IntKind.i64 ((splitF L a n).fst.getD k default).length), AV.val (Value.string (getT L ((splitF L a n).fst.getD k default).target.toNat).on), AV.val (Value.int IntKind.i64 ((getT L ((splitF L a n).fst.getD k default).target.toNat).offset + ((splitF L a n).fst.getD k default).at')), AV.val (Value.bool (getT L ((splitF L a n).fst.getD k default).target.toNat).fail)] (5 : Nat)))), (20, .vec ((43 : Nat)) ((3 : Nat)) ((splitF L a n).fst.length) (rowG encP (splitF L a n).fst))]) (ob := [decide ((↑k : Int) < (↑(splitF L a n).fst.length : Int)) = true, (0 : Int) ≤ (↑k : Int) ∧ (↑k : Int) < (↑(splitF L a n).fst.length : Int), k < (splitF L a n).fst.length, (0 : Int) ≤ ((splitF L a n).fst.getD k default).target ∧ ((splitF L a n).fst.getD k default).target < (↑L.length : Int), ((splitF L a n).fst.getD k default).target.toNat < L.length, CallOK Try.prog (36 : Nat) ([] ++ [AV.sl (10 : Nat) (0 : Nat) (5 : Nat) (cutR L (splitF L a n).fst k).length none] ++ []) [((10 : Nat), Ob.vec (45 : Nat) (5 : Nat) (cutR L (splitF L a n).fst k).length (rowT (cutR L (splitF L a n).fst k)))] (AV.val (Value.int IntKind.i64 (endF (cutR L (splitF L a n).fst k)))) [], (decide ¬(getT L ((splitF L a n).fst.getD k default).target.toNat).on = { data := #[] }) = true, inK IntKind.i64 ((getT L ((splitF L a n).fst.getD k default).target.toNat).offset + ((splitF L a n).fst.getD k default).at'), (0 : Nat) + (1 : Nat) ≤ (1 : Nat), (cutR L (splitF L a n).fst k).length = (cutR L (splitF L a n).fst k).length, (cutR L (splitF L a n).fst k).length + (1 : Nat) ≤ (1099511627776 : Nat), inK IntKind.i64 ((↑k : Int) + (1 : Int))]) rfl rfl (by kernel_rfl) ⟨(decide_eq_true hc1), (by first | omega | exact fun t ht => by have := hb.2.2 t ht; omega), (by first | omega | exact fun t ht => by have := hb.2.2 t ht; omega), (by first | omega | exact fun t ht => by have := hb.2.2 t ht; omega), (by first | omega | exact fun t ht => by have := hb.2.2 t ht; omega), (CallOK.ren (CallOK.own 45 0 rfl rfl rfl (end_any (cutR L (splitF L a n).fst k) (by first | omega | exact fun t ht => by have := hb.2.2 t ht; omega) (by first | omega | exact fun t ht => by have := hb.2.2 t ht; omega))) [(0, 10)] [0] rfl rfl rfl rfl ⟨rfl, fun _ => rfl, trivial⟩ rfl ⟨rfl, fun _ => rfl, trivial⟩), (decide_eq_true hc2), (by simp only [inK]; first | omega | exact fun t ht => by have := hb.2.2 t ht; omega), (by first | omega | exact fun t ht => by have := hb.2.2 t ht; omega), (by first | omega | exact fun t ht => by have := hb.2.2 t ht; omega), (by first | omega | exact fun t ht => by have := hb.2.2 t ht; omega), (by simp only [inK]; first | omega | exact fun t ht => by have := hb.2.2 t ht; omega), trivial⟩ rfl ⟨rfl, fun _ => rfl, rfl, closed_cat (fun _ => rfl) (closed_rows rfl), rfl, fun _ => rfl, trivial⟩ ?_
        refine Safe.ren [(1703, 10)] rfl rfl rfl rfl ⟨rfl, fun _ => rfl, rfl, closed_cat (fun _ => rfl) (closed_rows rfl), rfl, fun _ => rfl, trivial⟩ ?_
    · skip
      have e2 : addN (cutR L (splitF L a n).1 k).length 1 = (cutR L (splitF L a n).1 (k + 1)).length := by rw [addN_eq, cutR_len, cutR_len]
      rw [e2]
      refine Safe.leH (ih (k + 1) ⟨hv, by omega⟩ (by omega)) rfl (SlLe.refl _) ⟨ObLe.refl _, ?_, ?_, trivial⟩ rfl ⟨rfl, fun _ => rfl, rfl, fun _ => rfl, rfl, fun _ => rfl, trivial⟩
      · exact ob_ren_one encT (cutR L (splitF L a n).1 k) (cutT (getT L ((splitF L a n).1.getD k default).target.toNat) ((splitF L a n).1.getD k default) (endF (cutR L (splitF L a n).1 k))) _ (by rw [cutR_len, cutR_len]) (fun _ => rfl) (by unfold cutT; rw [if_neg hc2]; rfl)
      · exact ⟨rfl, rfl, rfl, fun _ _ => rfl⟩
    · skip
      have e2 : addN (cutR L (splitF L a n).1 k).length 1 = (cutR L (splitF L a n).1 (k + 1)).length := by rw [addN_eq, cutR_len, cutR_len]
      rw [e2]
      refine Safe.leH (ih (k + 1) ⟨hv, by omega⟩ (by omega)) rfl (SlLe.refl _) ⟨ObLe.refl _, ?_, ?_, trivial⟩ rfl ⟨rfl, fun _ => rfl, rfl, fun _ => rfl, rfl, fun _ => rfl, trivial⟩
      · exact ob_ren_one encT (cutR L (splitF L a n).1 k) (cutT (getT L ((splitF L a n).1.getD k default).target.toNat) ((splitF L a n).1.getD k default) (endF (cutR L (splitF L a n).1 k))) _ (by rw [cutR_len, cutR_len]) (fun _ => rfl) (by unfold cutT; rw [if_pos (Classical.not_not.1 hc2)]; rfl)
      · exact ⟨rfl, rfl, rfl, fun _ _ => rfl⟩
    · rw [hF, show k = (splitF L a n).1.length by omega]; rfl
    · rw [hF, show k = (splitF L a n).1.length by omega]; exact ObLe.refl _
  · intro H
    have r1 : (splitF L a n).2 ≠ 0 → cutF L a n = ([], (splitF L a n).2) := fun h => by rw [cutF, if_pos h]
    refine (Classical.em (¬(splitF L a n).snd = (0 : Int))).elim (fun hc1 => ?ga2) (fun hc1 => ?gb2)
    case' gb2 =>
      refine Safe.goto mixed 16 [⟨1100, []⟩, ⟨1200, [(3, .call [0] (.tup [.sl ((1265 : Nat)) ((0 : Nat)) ((3 : Nat)) ((splitF L a n).fst.length) (none), I ((splitF L a n).snd)]) [(1265, some (.vec ((43 : Nat)) ((3 : Nat)) ((splitF L a n).fst.length) (fun q => renL [((0 : Nat), (0 : Nat)), ((10 : Nat), (1265 : Nat))] (rowG encP (splitF L a n).fst q))))])]⟩, ⟨1300, [(1, .tt false)]⟩, ⟨1400, []⟩, ⟨1500, []⟩] [0, 10, 24, 25, 26] [0, 1265] (todo' := loopAt Go.Proofs.Try.f18 0) (sl := slotsOf 56 [(0, .sl ((0 : Nat)) ((0 : Nat)) ((5 : Nat)) (L.length) (none)), (10, .val (Value.slice none (0 : Nat) (0 : Nat))), (24, .sl ((1265 : Nat)) ((0 : Nat)) ((3 : Nat)) ((splitF L a n).fst.length) (none)), (25, I ((↑(splitF L a n).fst.length : Int))), (26, I ((0 : Int)))]) (hp := [(0, .ro ((5 : Nat)) (L.length) (rowT L)), (1265, .vec ((43 : Nat)) ((3 : Nat)) ((splitF L a n).fst.length) (fun q => renL [((0 : Nat), (0 : Nat)), ((10 : Nat), (1265 : Nat))] (rowG encP (splitF L a n).fst q)))]) (ob := [CallOK Try.prog (20 : Nat) ([] ++ [AV.sl (0 : Nat) (0 : Nat) (5 : Nat) L.length none, AV.val (Value.int IntKind.i64 a), AV.val (Value.int IntKind.i64 n)] ++ []) [((0 : Nat), Ob.ro (5 : Nat) L.length (rowT L))] (AV.tup [AV.sl (1265 : Nat) (0 : Nat) (3 : Nat) (splitF L a n).fst.length none, AV.val (Value.int IntKind.i64 (splitF L a n).snd)]) [((1265 : Nat), some (Ob.vec (43 : Nat) (3 : Nat) (splitF L a n).fst.length fun q => renL [((0 : Nat), (0 : Nat)), ((10 : Nat), (1265 : Nat))] (rowG encP (splitF L a n).fst q)))], (decide ¬(splitF L a n).snd = (0 : Int)) = false]) rfl rfl (by kernel_rfl) ⟨(CallOK.ren (split_any (L) (a) (n) (by omega) (by omega) (by omega)) [(0, 0), (10, 1265)] [0, 10] rfl rfl rfl rfl ⟨rfl, fun _ => rfl, trivial⟩ rfl ⟨rfl, fun _ => rfl, rfl, fun _ => rfl, trivial⟩), (decide_eq_false hc1), trivial⟩ rfl ⟨rfl, fun _ => rfl, rfl, fun _ => rfl, trivial⟩ ?_
      refine Safe.ren [(1265, 20)] rfl rfl rfl rfl ⟨rfl, fun _ => rfl, rfl, fun _ => rfl, trivial⟩ ?_
    case' ga2 =>
      refine Safe.gotoE mixed 10 [⟨1100, []⟩, ⟨1200, [(3, .call [0] (.tup [.sl ((1265 : Nat)) ((0 : Nat)) ((3 : Nat)) ((splitF L a n).fst.length) (none), I ((splitF L a n).snd)]) [(1265, some (.vec ((43 : Nat)) ((3 : Nat)) ((splitF L a n).fst.length) (fun q => renL [((0 : Nat), (0 : Nat)), ((10 : Nat), (1265 : Nat))] (rowG encP (splitF L a n).fst q))))])]⟩, ⟨1300, [(1, .tt true)]⟩, ⟨1400, []⟩] [6, 7] [0] (sl := slotsOf 56 [(6, .val (Value.slice none (0 : Nat) (0 : Nat))), (7, I ((splitF L a n).snd))]) (hp := [(0, .ro ((5 : Nat)) (L.length) (rowT L))]) (ob := [CallOK Try.prog (20 : Nat) ([] ++ [AV.sl (0 : Nat) (0 : Nat) (5 : Nat) L.length none, AV.val (Value.int IntKind.i64 a), AV.val (Value.int IntKind.i64 n)] ++ []) [((0 : Nat), Ob.ro (5 : Nat) L.length (rowT L))] (AV.tup [AV.sl (1265 : Nat) (0 : Nat) (3 : Nat) (splitF L a n).fst.length none, AV.val (Value.int IntKind.i64 (splitF L a n).snd)]) [((1265 : Nat), some (Ob.vec (43 : Nat) (3 : Nat) (splitF L a n).fst.length fun q => renL [((0 : Nat), (0 : Nat)), ((10 : Nat), (1265 : Nat))] (rowG encP (splitF L a n).fst q)))], (decide ¬(splitF L a n).snd = (0 : Int)) = true]) rfl rfl (by kernel_rfl) ⟨(CallOK.ren (split_any (L) (a) (n) (by omega) (by omega) (by omega)) [(0, 0), (10, 1265)] [0, 10] rfl rfl rfl rfl ⟨rfl, fun _ => rfl, trivial⟩ rfl ⟨rfl, fun _ => rfl, rfl, fun _ => rfl, trivial⟩), (decide_eq_true hc1), trivial⟩ rfl ⟨rfl, fun _ => rfl, trivial⟩ fun td htd => ?_
      refine Safe.nil 6 10 45 5 (fun _ => []) rfl rfl ⟨rfl, fun _ => rfl, trivial⟩ ?_ rfl
      refine Safe.endsT Go.Proofs.Try.func18 htd (r := .tup [.sl ((10 : Nat)) ((0 : Nat)) ((5 : Nat)) ((0 : Nat)) (none), I ((splitF L a n).snd)]) (hp := [(0, .ro ((5 : Nat)) (L.length) (rowT L)), (10, .vec ((45 : Nat)) ((5 : Nat)) ((0 : Nat)) (fun q => []))]) (ob := []) rfl (by kernel_rfl) trivial ?_ ⟨ObLe.refl _, ?_, trivial⟩ ⟨rfl, fun _ => rfl, rfl, fun _ => rfl, trivial⟩ rfl
    · rw [r1 (by omega)]; rfl
    · rw [r1 (by omega)]; exact ⟨rfl, rfl, rfl, fun q hq => by simp at hq⟩
    · refine Safe.nil 10 10 45 5 (rowT []) rfl rfl ⟨rfl, fun _ => rfl, rfl, fun _ => rfl, trivial⟩ ?_ rfl
      exact Safe.leH (H 0 ⟨by omega, Nat.zero_le _⟩) rfl (SlLe.refl _) ⟨ObLe.refl _, ObLe.refl _, ⟨rfl, rfl, rfl, fun _ _ => rfl⟩, trivial⟩ rfl ⟨rfl, fun _ => rfl, rfl, fun _ => rfl, rfl, fun _ => rfl, trivial⟩
set_option maxRecDepth 10000 in
set_option maxHeartbeats 4000000 in
theorem rcut_any (L : List Tg) (a n : Int) (hl : L.length ≤ 1000000) (ha : -9223372036854775808 ≤ a ∧ a ≤ 9223372036854775807) (hn : -9223372036854775808 ≤ n ∧ n ≤ 9223372036854775807) : CallOK Try.prog 28 [.sl 0 0 5 L.length none, I a, I n] [(0, .ro 5 L.length (rowT L))] (.tup [.sl 10 0 5 (cutF L a n).1.length none, I (cutF L a n).2]) [(10, some (.vec 45 5 (cutF L a n).1.length (rowT (cutF L a n).1)))] := by
  refine CallOK.intro Try.call28 Try.func28 rfl rfl ⟨rfl, fun _ => rfl, trivial⟩ ?_
  refine Safe.withLoop (loopAt Try.f28 0) [0, 20, 10] 67 (fun k : Nat => [(0, .sl 0 0 5 L.length none), (8, .sl 20 0 3 (splitF L a n).1.length none), (10, .sl 10 0 5 (cutR L (splitF L a n).1 k).length none), (11, I (endF (cutR L (splitF L a n).1 k))), (12, I k)]) (fun k => [(0, .ro 5 L.length (rowT L)), (20, .vec 43 3 (splitF L a n).1.length (rowG encP (splitF L a n).1)), (10, .vec 45 5 (cutR L (splitF L a n).1 k).length (rowT (cutR L (splitF L a n).1 k)))]) (fun k => (splitF L a n).2 = 0 ∧ k ≤ (splitF L a n).1.length) (fun k => (splitF L a n).1.length - k) ?_ ?_
  · rintro k ⟨hv, hk⟩ ih
    obtain ⟨t1, t2, t3⟩ := splitF_bd hv
    have hb := cutR_bd (L := L) (ps := (splitF L a n).1) (m := (splitF L a n).1.length) (fun k hk => by have := t3 k hk; omega) k hk
    have ho := fun h : k < (splitF L a n).1.length => off_bd t1 ((splitF L a n).1.getD k default).target.toNat (by have := t3 k h; omega)
    have hp := t3 k
    have hcl := cutR_len L (splitF L a n).1 k
    have hF : cutF L a n = (cutR L (splitF L a n).1 (splitF L a n).1.length, 0) := by rw [cutF, if_neg (by omega)]
    have hend := cutR_end L (splitF L a n).1 k
    refine (Classical.em ((↑k : Int) < (↑(splitF L a n).fst.length : Int))).elim (fun hc1 => ?ga3) (fun hc1 => ?gb3)
    case' gb3 =>
      refine Safe.ends mixed Go.Proofs.Try.func28 7 [⟨1100, [(3, .tt false)]⟩, ⟨1200, []⟩] (r := .tup [.sl ((10 : Nat)) ((0 : Nat)) ((5 : Nat)) ((cutR L (splitF L a n).fst k).length) (none), I ((0 : Int))]) (hp := [(0, .ro ((5 : Nat)) (L.length) (rowT L)), (10, .vec ((45 : Nat)) ((5 : Nat)) ((cutR L (splitF L a n).fst k).length) (rowT (cutR L (splitF L a n).fst k)))]) (ob := [decide ((↑k : Int) < (↑(splitF L a n).fst.length : Int)) = false]) rfl (by kernel_rfl) ⟨(decide_eq_false hc1), trivial⟩ ?_ ⟨ObLe.refl _, ?_, trivial⟩ ⟨rfl, fun _ => rfl, rfl, fun _ => rfl, trivial⟩ rfl
    case' ga3 =>
      refine (Classical.em (¬(getT L ((splitF L a n).fst.getD k default).target.toNat).on = { data := #[] })).elim (fun hc2 => ?ga4) (fun hc2 => ?gb4)
      case' gb4 =>
        refine Safe.goto mixed 22 [⟨1100, [(3, .tt true)]⟩, ⟨1200, []⟩, ⟨1300, []⟩, ⟨1400, [(2, .tt false)]⟩, ⟨1500, []⟩, ⟨1600, []⟩, ⟨1700, []⟩] [0, 8, 10, 11, 12] [0, 20, 1603] (todo' := loopAt Go.Proofs.Try.f28 0) (sl := slotsOf 67 [(0, .sl ((0 : Nat)) ((0 : Nat)) ((5 : Nat)) (L.length) (none)), (8, .sl ((20 : Nat)) ((0 : Nat)) ((3 : Nat)) ((splitF L a n).fst.length) (none)), (10, .sl ((1603 : Nat)) ((0 : Nat)) ((5 : Nat)) (addN (cutR L (splitF L a n).fst k).length (1 : Nat)) (none)), (11, I (endF (cutR L (splitF L a n).fst k) + ((splitF L a n).fst.getD k default).length)), (12, I ((↑k : Int) + (1 : Int)))]) (hp := [(0, .ro ((5 : Nat)) (L.length) (rowT L)), (20, .vec ((43 : Nat)) ((3 : Nat)) ((splitF L a n).fst.length) (rowG encP (splitF L a n).fst)), (1603, .vec ((45 : Nat)) ((5 : Nat)) (addN (cutR L (splitF L a n).fst k).length (1 : Nat)) (catR (cutR L (splitF L a n).fst k).length (rowT (cutR L (splitF L a n).fst k)) (rowsOf [AV.val (Value.int IntKind.i64 (endF (cutR L (splitF L a n).fst k))), AV.val (Value.int IntKind.i64 ((splitF L a n).fst.getD k default).length), AV.val (Value.string (getT L ((splitF L a n).fst.getD k default).target.toNat).on), AV.val (Value.int IntKind.i64 (getT L ((splitF L a n).fst.getD k default).target.toNat).offset), AV.val (Value.bool (getT L ((splitF L a n).fst.getD k default).target.toNat).fail)] (5 : Nat))))]) (ob := [decide ((↑k : Int) < (↑(splitF L a n).fst.length : Int)) = true, (0 : Int) ≤ (↑k : Int) ∧ (↑k : Int) < (↑(splitF L a n).fst.length : Int), k < (splitF L a n).fst.length, (0 : Int) ≤ ((splitF L a n).fst.getD k default).target ∧ ((splitF L a n).fst.getD k default).target < (↑L.length : Int), ((splitF L a n).fst.getD k default).target.toNat < L.length, (0 : Int) ≤ (↑k : Int) ∧ (↑k : Int) < (↑(splitF L a n).fst.length : Int), k < (splitF L a n).fst.length, (decide ¬(getT L ((splitF L a n).fst.getD k default).target.toNat).on = { data := #[] }) = false, inK IntKind.i64 (endF (cutR L (splitF L a n).fst k) + ((splitF L a n).fst.getD k default).length), (0 : Nat) + (1 : Nat) ≤ (1 : Nat), (cutR L (splitF L a n).fst k).length = (cutR L (splitF L a n).fst k).length, (cutR L (splitF L a n).fst k).length + (1 : Nat) ≤ (1099511627776 : Nat), inK IntKind.i64 ((↑k : Int) + (1 : Int))]) rfl rfl (by kernel_rfl) ⟨(decide_eq_true hc1), (by omega), (by omega), (by omega), (by omega), (by omega), (by omega), (decide_eq_false hc2), (by simp only [inK]; omega), (by omega), (by omega), (by omega), (by simp only [inK]; omega), trivial⟩ rfl ⟨rfl, fun _ => rfl, rfl, fun _ => rfl, rfl, closed_cat (fun _ => rfl) (closed_rows rfl), trivial⟩ ?_
        refine Safe.ren [(1603, 10)] rfl rfl rfl rfl ⟨rfl, fun _ => rfl, rfl, fun _ => rfl, rfl, closed_cat (fun _ => rfl) (closed_rows rfl), trivial⟩ ?_
      case' ga4 =>
        refine Safe.goto mixed 22 [⟨1100, [(3, .tt true)]⟩, ⟨1200, []⟩, ⟨1300, []⟩, ⟨1400, [(2, .tt true)]⟩, ⟨1500, []⟩, ⟨1600, []⟩, ⟨1700, []⟩, ⟨1800, []⟩] [0, 8, 10, 11, 12] [0, 20, 1703] (todo' := loopAt Go.Proofs.Try.f28 0) (sl := slotsOf 67 [(0, .sl ((0 : Nat)) ((0 : Nat)) ((5 : Nat)) (L.length) (none)), (8, .sl ((20 : Nat)) ((0 : Nat)) ((3 : Nat)) ((splitF L a n).fst.length) (none)), (10, .sl ((1703 : Nat)) ((0 : Nat)) ((5 : Nat)) (addN (cutR L (splitF L a n).fst k).length (1 : Nat)) (none)), (11, I (endF (cutR L (splitF L a n).fst k) + ((splitF L a n).fst.getD k default).length)), (12, I ((↑k : Int) + (1 : Int)))]) (hp := [(0, .ro ((5 : Nat)) (L.length) (rowT L)), (20, .vec ((43 : Nat)) ((3 : Nat)) ((splitF L a n).fst.length) (rowG encP (splitF L a n).fst)), (1703, .vec ((45 : Nat)) ((5 : Nat)) (addN (cutR L (splitF L a n).fst k).length (1 : Nat)) (catR (cutR L (splitF L a n).fst k).length (rowT (cutR L (splitF L a n).fst k)) (rowsOf [AV.val (Value.int IntKind.i64 (endF (cutR L (splitF L a n).fst k))), AV.val (Value.int IntKind.i64 ((splitF L a n).fst.getD k default).length), AV.val (Value.string (getT L ((splitF L a n).fst.getD k default).target.toNat).on), AV.val (Value.int IntKind.i64 ((getT L ((splitF L a n).fst.getD k default).target.toNat).offset + ((splitF L a n).fst.getD k default).at')), AV.val (Value.bool (getT L ((splitF L a n).fst.getD k default).target.toNat).fail)] (5 : Nat))))]) (ob := [decide ((↑k : Int) < (↑(splitF L a n).fst.length : Int)) = true, (0 : Int) ≤ (↑k : Int) ∧ (↑k : Int) < (↑(splitF L a n).fst.length : Int), k < (splitF L a n).fst.length, (0 : Int) ≤ ((splitF L a n).fst.getD k default).target ∧ ((splitF L a n).fst.getD k default).target < (↑L.length : Int), ((splitF L a n).fst.getD k default).target.toNat < L.length, (0 : Int) ≤ (↑k : Int) ∧ (↑k : Int) < (↑(splitF L a n).fst.length : Int), k < (splitF L a n).fst.length, (decide ¬(getT L ((splitF L a n).fst.getD k default).target.toNat).on = { data := #[] }) = true, (0 : Int) ≤ (↑k : Int) ∧ (↑k : Int) < (↑(splitF L a n).fst.length : Int), k < (splitF L a n).fst.length, inK IntKind.i64 ((getT L ((splitF L a n).fst.getD k default).target.toNat).offset + ((splitF L a n).fst.getD k default).at'), inK IntKind.i64 (endF (cutR L (splitF L a n).fst k) + ((splitF L a n).fst.getD k default).length), (0 : Nat) + (1 : Nat) ≤ (1 : Nat), (cutR L (splitF L a n).fst k).length = (cutR L (splitF L a n).fst k).length, (cutR L (splitF L a n).fst k).length + (1 : Nat) ≤ (1099511627776 : Nat), inK IntKind.i64 ((↑k : Int) + (1 : Int))]) rfl rfl (by kernel_rfl) ⟨(decide_eq_true hc1), (by omega), (by omega), (by omega), (by omega), (by omega), (by omega), (decide_eq_true hc2), (by omega), (by omega), (by simp only [inK]; omega), (by simp only [inK]; omega), (by omega), (by omega), (by omega), (by simp only [inK]; omega), trivial⟩ rfl ⟨rfl, fun _ => rfl, rfl, fun _ => rfl, rfl, closed_cat (fun _ => rfl) (closed_rows rfl), trivial⟩ ?_
        refine Safe.ren [(1703, 10)] rfl rfl rfl rfl ⟨rfl, fun _ => rfl, rfl, fun _ => rfl, rfl, closed_cat (fun _ => rfl) (closed_rows rfl), trivial⟩ ?_
    · skip
      have e2 : addN (cutR L (splitF L a n).1 k).length 1 = (cutR L (splitF L a n).1 (k + 1)).length := by rw [addN_eq, cutR_len, cutR_len]
      rw [e2, ← hend]
      refine Safe.leH (ih (k + 1) ⟨hv, by omega⟩ (by omega)) rfl (SlLe.refl _) ⟨ObLe.refl _, ⟨rfl, rfl, rfl, fun _ _ => rfl⟩, ?_, trivial⟩ rfl ⟨rfl, fun _ => rfl, rfl, fun _ => rfl, rfl, fun _ => rfl, trivial⟩
      exact ob_ren_one encT (cutR L (splitF L a n).1 k) (cutT (getT L ((splitF L a n).1.getD k default).target.toNat) ((splitF L a n).1.getD k default) (endF (cutR L (splitF L a n).1 k))) _ (by rw [cutR_len, cutR_len]) (fun _ => rfl) (by unfold cutT; rw [if_neg hc2]; rfl)
    · skip
      have e2 : addN (cutR L (splitF L a n).1 k).length 1 = (cutR L (splitF L a n).1 (k + 1)).length := by rw [addN_eq, cutR_len, cutR_len]
      rw [e2, ← hend]
      refine Safe.leH (ih (k + 1) ⟨hv, by omega⟩ (by omega)) rfl (SlLe.refl _) ⟨ObLe.refl _, ⟨rfl, rfl, rfl, fun _ _ => rfl⟩, ?_, trivial⟩ rfl ⟨rfl, fun _ => rfl, rfl, fun _ => rfl, rfl, fun _ => rfl, trivial⟩
      exact ob_ren_one encT (cutR L (splitF L a n).1 k) (cutT (getT L ((splitF L a n).1.getD k default).target.toNat) ((splitF L a n).1.getD k default) (endF (cutR L (splitF L a n).1 k))) _ (by rw [cutR_len, cutR_len]) (fun _ => rfl) (by unfold cutT; rw [if_pos (Classical.not_not.1 hc2)]; rfl)
    · rw [hF, show k = (splitF L a n).1.length by omega]; rfl
    · rw [hF, show k = (splitF L a n).1.length by omega]; exact ObLe.refl _
  · intro H
    have r1 : (splitF L a n).2 ≠ 0 → cutF L a n = ([], (splitF L a n).2) := fun h => by rw [cutF, if_pos h]
    refine (Classical.em (¬(splitF L a n).snd = (0 : Int))).elim (fun hc1 => ?ga5) (fun hc1 => ?gb5)
    case' gb5 =>
      refine Safe.goto mixed 18 [⟨1100, []⟩, ⟨1200, [(3, .call [0] (.tup [.sl ((1265 : Nat)) ((0 : Nat)) ((3 : Nat)) ((splitF L a n).fst.length) (none), I ((splitF L a n).snd)]) [(1265, some (.vec ((43 : Nat)) ((3 : Nat)) ((splitF L a n).fst.length) (fun q => renL [((0 : Nat), (0 : Nat)), ((10 : Nat), (1265 : Nat))] (rowG encP (splitF L a n).fst q))))])]⟩, ⟨1300, [(1, .tt false)]⟩, ⟨1400, []⟩, ⟨1500, []⟩, ⟨1600, []⟩] [0, 8, 10, 11, 12] [0, 1265] (todo' := loopAt Go.Proofs.Try.f28 0) (sl := slotsOf 67 [(0, .sl ((0 : Nat)) ((0 : Nat)) ((5 : Nat)) (L.length) (none)), (8, .sl ((1265 : Nat)) ((0 : Nat)) ((3 : Nat)) ((splitF L a n).fst.length) (none)), (10, .val (Value.slice none (0 : Nat) (0 : Nat))), (11, I ((0 : Int))), (12, I ((0 : Int)))]) (hp := [(0, .ro ((5 : Nat)) (L.length) (rowT L)), (1265, .vec ((43 : Nat)) ((3 : Nat)) ((splitF L a n).fst.length) (fun q => renL [((0 : Nat), (0 : Nat)), ((10 : Nat), (1265 : Nat))] (rowG encP (splitF L a n).fst q)))]) (ob := [CallOK Try.prog (27 : Nat) ([] ++ [AV.sl (0 : Nat) (0 : Nat) (5 : Nat) L.length none, AV.val (Value.int IntKind.i64 a), AV.val (Value.int IntKind.i64 n)] ++ []) [((0 : Nat), Ob.ro (5 : Nat) L.length (rowT L))] (AV.tup [AV.sl (1265 : Nat) (0 : Nat) (3 : Nat) (splitF L a n).fst.length none, AV.val (Value.int IntKind.i64 (splitF L a n).snd)]) [((1265 : Nat), some (Ob.vec (43 : Nat) (3 : Nat) (splitF L a n).fst.length fun q => renL [((0 : Nat), (0 : Nat)), ((10 : Nat), (1265 : Nat))] (rowG encP (splitF L a n).fst q)))], (decide ¬(splitF L a n).snd = (0 : Int)) = false]) rfl rfl (by kernel_rfl) ⟨(CallOK.ren (rsplit_any (L) (a) (n) (by omega) (by omega) (by omega)) [(0, 0), (10, 1265)] [0, 10] rfl rfl rfl rfl ⟨rfl, fun _ => rfl, trivial⟩ rfl ⟨rfl, fun _ => rfl, rfl, fun _ => rfl, trivial⟩), (decide_eq_false hc1), trivial⟩ rfl ⟨rfl, fun _ => rfl, rfl, fun _ => rfl, trivial⟩ ?_
      refine Safe.ren [(1265, 20)] rfl rfl rfl rfl ⟨rfl, fun _ => rfl, rfl, fun _ => rfl, trivial⟩ ?_
    case' ga5 =>
      refine Safe.gotoE mixed 10 [⟨1100, []⟩, ⟨1200, [(3, .call [0] (.tup [.sl ((1265 : Nat)) ((0 : Nat)) ((3 : Nat)) ((splitF L a n).fst.length) (none), I ((splitF L a n).snd)]) [(1265, some (.vec ((43 : Nat)) ((3 : Nat)) ((splitF L a n).fst.length) (fun q => renL [((0 : Nat), (0 : Nat)), ((10 : Nat), (1265 : Nat))] (rowG encP (splitF L a n).fst q))))])]⟩, ⟨1300, [(1, .tt true)]⟩, ⟨1400, []⟩] [6, 7] [0] (sl := slotsOf 67 [(6, .val (Value.slice none (0 : Nat) (0 : Nat))), (7, I ((splitF L a n).snd))]) (hp := [(0, .ro ((5 : Nat)) (L.length) (rowT L))]) (ob := [CallOK Try.prog (27 : Nat) ([] ++ [AV.sl (0 : Nat) (0 : Nat) (5 : Nat) L.length none, AV.val (Value.int IntKind.i64 a), AV.val (Value.int IntKind.i64 n)] ++ []) [((0 : Nat), Ob.ro (5 : Nat) L.length (rowT L))] (AV.tup [AV.sl (1265 : Nat) (0 : Nat) (3 : Nat) (splitF L a n).fst.length none, AV.val (Value.int IntKind.i64 (splitF L a n).snd)]) [((1265 : Nat), some (Ob.vec (43 : Nat) (3 : Nat) (splitF L a n).fst.length fun q => renL [((0 : Nat), (0 : Nat)), ((10 : Nat), (1265 : Nat))] (rowG encP (splitF L a n).fst q)))], (decide ¬(splitF L a n).snd = (0 : Int)) = true]) rfl rfl (by kernel_rfl) ⟨(CallOK.ren (rsplit_any (L) (a) (n) (by omega) (by omega) (by omega)) [(0, 0), (10, 1265)] [0, 10] rfl rfl rfl rfl ⟨rfl, fun _ => rfl, trivial⟩ rfl ⟨rfl, fun _ => rfl, rfl, fun _ => rfl, trivial⟩), (decide_eq_true hc1), trivial⟩ rfl ⟨rfl, fun _ => rfl, trivial⟩ fun td htd => ?_
      refine Safe.nil 6 10 45 5 (fun _ => []) rfl rfl ⟨rfl, fun _ => rfl, trivial⟩ ?_ rfl
      refine Safe.endsT Go.Proofs.Try.func28 htd (r := .tup [.sl ((10 : Nat)) ((0 : Nat)) ((5 : Nat)) ((0 : Nat)) (none), I ((splitF L a n).snd)]) (hp := [(0, .ro ((5 : Nat)) (L.length) (rowT L)), (10, .vec ((45 : Nat)) ((5 : Nat)) ((0 : Nat)) (fun q => []))]) (ob := []) rfl (by kernel_rfl) trivial ?_ ⟨ObLe.refl _, ?_, trivial⟩ ⟨rfl, fun _ => rfl, rfl, fun _ => rfl, trivial⟩ rfl
    · rw [r1 (by omega)]; rfl
    · rw [r1 (by omega)]; exact ⟨rfl, rfl, rfl, fun q hq => by simp at hq⟩
    · refine Safe.nil 10 10 45 5 (rowT []) rfl rfl ⟨rfl, fun _ => rfl, rfl, fun _ => rfl, trivial⟩ ?_ rfl
      exact Safe.leH (H 0 ⟨by omega, Nat.zero_le _⟩) rfl (SlLe.refl _) ⟨ObLe.refl _, ⟨rfl, rfl, rfl, fun _ _ => rfl⟩, ObLe.refl _, trivial⟩ rfl ⟨rfl, fun _ => rfl, rfl, fun _ => rfl, rfl, fun _ => rfl, trivial⟩
end Go.Proofs.Ytcomimabihbfgaa
