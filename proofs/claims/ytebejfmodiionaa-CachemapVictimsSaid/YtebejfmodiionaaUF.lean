/- The slot that is used next is the first of its class. -/
import Derived.Test.YtebejfmodiionaaSyX
import Derived.KernelRfl
import Derived.Test.YtebejfmodiionaaUE
namespace Go.Proofs.Ytebejfmodiionaa
open Go.RowKit
set_option linter.unusedVariables false
set_option linter.unnecessarySimpa false
theorem lst_least {w : Sl → Bool} {S : List Sl} : ∀ k, 0 ≤ lstR w S k → w (S.getD (lstR w S k).toNat default) = true ∧ ∀ i, i < k → w (S.getD i default) = true → (S.getD (lstR w S k).toNat default).stamp ≤ (S.getD i default).stamp
  | 0, h => by simp [lstR] at h
  | k + 1, h => by
    by_cases hk : w (S.getD k default) = true ∧ (lstR w S k < 0 ∨ (S.getD k default).stamp < (S.getD (lstR w S k).toNat default).stamp)
    · rw [lstR_yes hk.1 hk.2]
      refine ⟨by simpa using hk.1, fun i hi hw => ?_⟩
      rw [Int.toNat_natCast]
      rcases Nat.lt_or_eq_of_le (Nat.le_of_lt_succ hi) with h1 | h1
      · rcases hk.2 with h2 | h2
        · rw [lst_neg k h2 i h1] at hw; cases hw
        · by_cases h3 : lstR w S k < 0
          · rw [lst_neg k h3 i h1] at hw; cases hw
          · have := (lst_least k (by omega)).2 i h1 hw
            omega
      · subst h1; exact Int.le_refl _
    · rw [lstR_no hk] at h ⊢
      have ih := lst_least k h
      refine ⟨ih.1, fun i hi hw => ?_⟩
      rcases Nat.lt_or_eq_of_le (Nat.le_of_lt_succ hi) with h1 | h1
      · exact ih.2 i h1 hw
      · subst h1
        exact Int.not_lt.1 fun hs => hk ⟨hw, .inr hs⟩
def clsF (x : Sl) : Int := if ¬ x.valid = true then 0 else if ¬ x.dirty = true then 1 else 2
theorem vic_least {S : List Sl} (h1 : 1 ≤ S.length) {i : Nat} (hi : i < S.length) : clsF (S.getD (vicF S).toNat default) ≤ clsF (S.getD i default) ∧ (clsF (S.getD i default) = clsF (S.getD (vicF S).toNat default) → (S.getD (vicF S).toNat default).stamp ≤ (S.getD i default).stamp) := by
  unfold vicF lst
  split
  · have h := lst_least (w := wE) (S := S) S.length ‹_›
    have h2 := h.1
    generalize S.getD (lstR wE S S.length).toNat default = x at *
    have h3 := h.2 i hi
    generalize S.getD i default = y at *
    simp only [wE] at h2 h3
    unfold clsF
    obtain ⟨xv, xd, xb, xs⟩ := x
    obtain ⟨yv, yd, yb, ys⟩ := y
    cases xv <;> cases xd <;> cases yv <;> cases yd <;> simp at * <;> omega
  · have e1 := lst_neg (w := wE) (S := S) S.length (by omega)
    split
    · have h := lst_least (w := wC) (S := S) S.length ‹_›
      have h2 := h.1
      have h4 := e1 i hi
      generalize S.getD (lstR wC S S.length).toNat default = x at *
      have h3 := h.2 i hi
      generalize S.getD i default = y at *
      simp only [wC, wE] at h2 h3 h4
      unfold clsF
      obtain ⟨xv, xd, xb, xs⟩ := x
      obtain ⟨yv, yd, yb, ys⟩ := y
      cases xv <;> cases xd <;> cases yv <;> cases yd <;> simp at * <;> omega
    · have e2 := lst_neg (w := wC) (S := S) S.length (by omega)
      have hb : 0 ≤ lstR wD S S.length := by
        have := vic_bd h1
        unfold vicF lst at this
        rw [if_neg ‹_›, if_neg ‹_›] at this
        exact this.1
      have hb2 := lstR_bd wD S S.length
      have h := lst_least (w := wD) (S := S) S.length hb
      have h2 := h.1
      have h4 := e1 i hi
      have h5 := e2 i hi
      have h6 := e1 (lstR wD S S.length).toNat (by omega)
      generalize S.getD (lstR wD S S.length).toNat default = x at *
      have h3 := h.2 i hi
      generalize S.getD i default = y at *
      simp only [wC, wE, wD] at h2 h3 h4 h5 h6
      unfold clsF
      obtain ⟨xv, xd, xb, xs⟩ := x
      obtain ⟨yv, yd, yb, ys⟩ := y
      cases xv <;> cases xd <;> cases yv <;> cases yd <;> simp at * <;> omega
set_option maxRecDepth 10000 in
set_option maxHeartbeats 8000000 in
theorem class_any (x : Sl) : CallOK Try.prog 35 [.agg [B x.valid, B x.dirty, I x.block, I x.stamp]] [] (I (clsF x)) [] := by
  refine CallOK.intro Try.call35 Try.func35 rfl rfl trivial ?_
  refine (Classical.em ((x.valid) = true)).elim (fun hc1 => ?ga0) (fun hc1 => ?gb0)
  case' gb0 =>
    refine Safe.ends mixed Go.Proofs.Try.func35 9 [⟨100, []⟩, ⟨200, [(1, .tt false)]⟩, ⟨300, []⟩] (r := I ((0 : Int))) (hp := []) (ob := [x.valid = false]) rfl (by kernel_rfl) ⟨(by simpa using hc1), trivial⟩ ?_ trivial trivial rfl
  case' ga0 =>
    refine (Classical.em ((x.dirty) = true)).elim (fun hc2 => ?ga1) (fun hc2 => ?gb1)
    case' gb1 =>
      refine Safe.ends mixed Go.Proofs.Try.func35 12 [⟨100, []⟩, ⟨200, [(1, .tt true)]⟩, ⟨300, [(1, .tt false)]⟩, ⟨400, []⟩] (r := I ((1 : Int))) (hp := []) (ob := [x.valid = true, x.dirty = false]) rfl (by kernel_rfl) ⟨hc1, (by simpa using hc2), trivial⟩ ?_ trivial trivial rfl
    case' ga1 =>
      refine Safe.ends mixed Go.Proofs.Try.func35 14 [⟨100, []⟩, ⟨200, [(1, .tt true)]⟩, ⟨300, [(1, .tt true)]⟩, ⟨400, []⟩] (r := I ((2 : Int))) (hp := []) (ob := [x.valid = true, x.dirty = true]) rfl (by kernel_rfl) ⟨hc1, hc2, trivial⟩ ?_ trivial trivial rfl
  all_goals (unfold clsF; split <;> (try split) <;> first | rfl | contradiction)
set_option maxRecDepth 20000 in
set_option maxHeartbeats 16000000 in
theorem vics_any (z : List Int) (hz : z.length ≤ 9223372036854775807) : CallOK Try.prog 7 [.sl 1 0 1 z.length none] [(1, .ro 1 z.length (rowG encI z))] (B true) [] := by
  refine CallOK.intro Try.call7 Try.func7 rfl rfl ⟨rfl, fun _ => rfl, trivial⟩ ?_
  obtain ⟨m, hm⟩ : ∃ m, min 1000 z.length = m := ⟨_, rfl⟩
  have hm1 : m ≤ 1000 := by omega
  have hmz : m ≤ z.length := by omega
  have c0 := new_any z hz
  rw [hm] at c0
  have b1 := nV_bd z m 0 40 (by omega)
  have c1 := n_any z m 0 40 hm1 hmz (by omega) (by omega)
  obtain ⟨q1, hq1⟩ : ∃ k, nA m 0 40 = k := ⟨_, rfl⟩
  have l1 : q1 ≤ m := hq1 ▸ (nA_bd m 0 40 (by omega)).2
  obtain ⟨n, hn⟩ : ∃ n : Nat, nV z m 0 40 = (n : Int) := ⟨(nV z m 0 40).toNat, by omega⟩
  rw [hq1, hn] at c1
  rw [hn] at b1
  have c2 := state_any z m q1 n (by omega) hm1 hmz l1
  have hv := (stC_ok z m (st0 z m q1) (st0_ok z m q1 l1).1 (st0_ok z m q1 l1).2 n)
  change V2 (stF z m q1 n).S (stF z m q1 n).c (stF z m q1 n).M ∧ (stF z m q1 n).p ≤ m at hv
  generalize stF z m q1 n = s at hv c2
  obtain ⟨hv, hq⟩ := hv
  have hS := hv.l2
  have hS1 := hv.l1
  have hM := hv.m8
  have hcc1 := hv.c1
  have hcc2 := hv.c2
  have c3 := victim_any s.S s.c s.M (by omega) (by omega) (by omega)
  rw [hv.to, if_pos rfl] at c3
  have vb := vic_bd hS1
  have vl := fun i => vic_least hS1 (i := i)
  generalize vicF s.S = v at vb vl c3
  refine Safe.withLoop (loopAt Try.f7 0) [1, 20, 21, 22] 80 (fun i : Nat => [(4, .ptr 20 0 0 0), (5, I v), (7, .fn (.func 35) [] []), (8, I i)]) (fun i => [(1, .ro 1 z.length (rowG encI z)), (20, .blk 25 [.sl 21 0 4 s.S.length none, I s.c, .sl 22 0 1 s.M.length none]), (21, .ro 4 s.S.length (rowG encC s.S)), (22, .ro 1 s.M.length (rowG encI s.M))]) (fun i => i ≤ s.S.length) (fun i => s.S.length - i) ?_ ?_
  · intro i hi ih
    have vl := vl i
    have a1 := class_any (s.S.getD i default)
    have a2 := class_any (s.S.getD v.toNat default)
    refine (Classical.em ((↑i : Int) < (↑s.S.length : Int))).elim (fun hc1 => ?ga2) (fun hc1 => ?gb2)
    case' gb2 =>
      refine Safe.ends mixed Go.Proofs.Try.func7 7 [⟨1100, [(4, .tt false)]⟩, ⟨1200, [(0, .call [] (B (true)) [])]⟩] (r := B (true)) (hp := [(1, .ro ((1 : Nat)) (z.length) (rowG encI z))]) (ob := [decide ((↑i : Int) < (↑s.S.length : Int)) = false, CallOK Try.prog (15 : Nat) ([] ++ [] ++ []) [] (AV.val (Value.bool true)) []]) rfl (by kernel_rfl) ⟨(decide_eq_false hc1), (CallOK.ren awake_any [] [] rfl rfl rfl rfl trivial rfl trivial), trivial⟩ rfl ⟨ObLe.refl _, trivial⟩ ⟨rfl, fun _ => rfl, trivial⟩ rfl
    case' ga2 =>
      refine (Classical.em (clsF (s.S.getD i default) < clsF (s.S.getD v.toNat default))).elim (fun hc2 => ?ga3) (fun hc2 => ?gb3)
      case' gb3 =>
        refine (Classical.em (clsF (s.S.getD i default) = clsF (s.S.getD v.toNat default))).elim (fun hc3 => ?ga4) (fun hc3 => ?gb4)
        case' gb4 =>
          refine Safe.goto mixed 16 [⟨1100, [(4, .tt true)]⟩, ⟨1200, [(6, .call [] (I (clsF (s.S.getD i default))) []), (13, .call [] (I (clsF (s.S.getD v.toNat default))) [])]⟩, ⟨1300, [(2, .tt false), (6, .tt false)]⟩, ⟨1400, []⟩] [4, 5, 7, 8] [1, 20, 21, 22] (todo' := loopAt Go.Proofs.Try.f7 0) (sl := slotsOf 80 [(4, .ptr ((20 : Nat)) ((0 : Nat)) ((0 : Nat)) ((0 : Nat))), (5, I (v)), (7, .fn (Fn.func (35 : FuncId)) [] []), (8, I ((↑i : Int) + (1 : Int)))]) (hp := [(1, .ro ((1 : Nat)) (z.length) (rowG encI z)), (20, .blk ((25 : Nat)) [.sl ((21 : Nat)) ((0 : Nat)) ((4 : Nat)) (s.S.length) (none), I (s.c), .sl ((22 : Nat)) ((0 : Nat)) ((1 : Nat)) (s.M.length) (none)]), (21, .ro ((4 : Nat)) (s.S.length) (rowG encC s.S)), (22, .ro ((1 : Nat)) (s.M.length) (rowG encI s.M))]) (ob := [decide ((↑i : Int) < (↑s.S.length : Int)) = true, (0 : Int) ≤ (↑i : Int) ∧ (↑i : Int) < (↑s.S.length : Int), i < s.S.length, CallOK Try.prog (35 : FuncId) ([] ++ [AV.agg [AV.val (Value.bool (s.S.getD i default).valid), AV.val (Value.bool (s.S.getD i default).dirty), AV.val (Value.int IntKind.i64 (s.S.getD i default).block), AV.val (Value.int IntKind.i64 (s.S.getD i default).stamp)]] ++ []) [] (AV.val (Value.int IntKind.i64 (clsF (s.S.getD i default)))) [], (0 : Int) ≤ v ∧ v < (↑s.S.length : Int), v.toNat < s.S.length, CallOK Try.prog (35 : FuncId) ([] ++ [AV.agg [AV.val (Value.bool (s.S.getD v.toNat default).valid), AV.val (Value.bool (s.S.getD v.toNat default).dirty), AV.val (Value.int IntKind.i64 (s.S.getD v.toNat default).block), AV.val (Value.int IntKind.i64 (s.S.getD v.toNat default).stamp)]] ++ []) [] (AV.val (Value.int IntKind.i64 (clsF (s.S.getD v.toNat default)))) [], decide (clsF (s.S.getD i default) < clsF (s.S.getD v.toNat default)) = false, decide (clsF (s.S.getD i default) = clsF (s.S.getD v.toNat default)) = false, inK IntKind.i64 ((↑i : Int) + (1 : Int))]) rfl rfl (by kernel_rfl) ⟨(decide_eq_true hc1), (by omega), (by omega), (CallOK.ren a1 [] [] rfl rfl rfl rfl trivial rfl trivial), (by omega), (by omega), (CallOK.ren a2 [] [] rfl rfl rfl rfl trivial rfl trivial), (decide_eq_false hc2), (decide_eq_false hc3), (by simp only [inK]; omega), trivial⟩ rfl ⟨rfl, fun _ => rfl, rfl, rfl, rfl, fun _ => rfl, rfl, fun _ => rfl, trivial⟩ ?_
        case' ga4 =>
          refine (Classical.em ((s.S.getD i default).stamp < (s.S.getD v.toNat default).stamp)).elim (fun hc4 => ?ga5) (fun hc4 => ?gb5)
          case' gb5 =>
            refine Safe.goto mixed 16 [⟨1100, [(4, .tt true)]⟩, ⟨1200, [(6, .call [] (I (clsF (s.S.getD i default))) []), (13, .call [] (I (clsF (s.S.getD v.toNat default))) [])]⟩, ⟨1300, [(2, .tt false), (6, .tt true), (20, .tt false)]⟩, ⟨1400, []⟩] [4, 5, 7, 8] [1, 20, 21, 22] (todo' := loopAt Go.Proofs.Try.f7 0) (sl := slotsOf 80 [(4, .ptr ((20 : Nat)) ((0 : Nat)) ((0 : Nat)) ((0 : Nat))), (5, I (v)), (7, .fn (Fn.func (35 : FuncId)) [] []), (8, I ((↑i : Int) + (1 : Int)))]) (hp := [(1, .ro ((1 : Nat)) (z.length) (rowG encI z)), (20, .blk ((25 : Nat)) [.sl ((21 : Nat)) ((0 : Nat)) ((4 : Nat)) (s.S.length) (none), I (s.c), .sl ((22 : Nat)) ((0 : Nat)) ((1 : Nat)) (s.M.length) (none)]), (21, .ro ((4 : Nat)) (s.S.length) (rowG encC s.S)), (22, .ro ((1 : Nat)) (s.M.length) (rowG encI s.M))]) (ob := [decide ((↑i : Int) < (↑s.S.length : Int)) = true, (0 : Int) ≤ (↑i : Int) ∧ (↑i : Int) < (↑s.S.length : Int), i < s.S.length, CallOK Try.prog (35 : FuncId) ([] ++ [AV.agg [AV.val (Value.bool (s.S.getD i default).valid), AV.val (Value.bool (s.S.getD i default).dirty), AV.val (Value.int IntKind.i64 (s.S.getD i default).block), AV.val (Value.int IntKind.i64 (s.S.getD i default).stamp)]] ++ []) [] (AV.val (Value.int IntKind.i64 (clsF (s.S.getD i default)))) [], (0 : Int) ≤ v ∧ v < (↑s.S.length : Int), v.toNat < s.S.length, CallOK Try.prog (35 : FuncId) ([] ++ [AV.agg [AV.val (Value.bool (s.S.getD v.toNat default).valid), AV.val (Value.bool (s.S.getD v.toNat default).dirty), AV.val (Value.int IntKind.i64 (s.S.getD v.toNat default).block), AV.val (Value.int IntKind.i64 (s.S.getD v.toNat default).stamp)]] ++ []) [] (AV.val (Value.int IntKind.i64 (clsF (s.S.getD v.toNat default)))) [], decide (clsF (s.S.getD i default) < clsF (s.S.getD v.toNat default)) = false, decide (clsF (s.S.getD i default) = clsF (s.S.getD v.toNat default)) = true, (0 : Int) ≤ (↑i : Int) ∧ (↑i : Int) < (↑s.S.length : Int), i < s.S.length, (0 : Int) ≤ v ∧ v < (↑s.S.length : Int), v.toNat < s.S.length, decide ((s.S.getD i default).stamp < (s.S.getD v.toNat default).stamp) = false, inK IntKind.i64 ((↑i : Int) + (1 : Int))]) rfl rfl (by kernel_rfl) ⟨(decide_eq_true hc1), (by omega), (by omega), (CallOK.ren a1 [] [] rfl rfl rfl rfl trivial rfl trivial), (by omega), (by omega), (CallOK.ren a2 [] [] rfl rfl rfl rfl trivial rfl trivial), (decide_eq_false hc2), (decide_eq_true hc3), (by omega), (by omega), (by omega), (by omega), (decide_eq_false hc4), (by simp only [inK]; omega), trivial⟩ rfl ⟨rfl, fun _ => rfl, rfl, rfl, rfl, fun _ => rfl, rfl, fun _ => rfl, trivial⟩ ?_
          case' ga5 =>
            refine Safe.ends mixed Go.Proofs.Try.func7 14 [⟨1100, [(4, .tt true)]⟩, ⟨1200, [(6, .call [] (I (clsF (s.S.getD i default))) []), (13, .call [] (I (clsF (s.S.getD v.toNat default))) [])]⟩, ⟨1300, [(2, .tt false), (6, .tt true), (20, .tt true)]⟩, ⟨1400, []⟩] (r := B (false)) (hp := [(1, .ro ((1 : Nat)) (z.length) (rowG encI z))]) (ob := [decide ((↑i : Int) < (↑s.S.length : Int)) = true, (0 : Int) ≤ (↑i : Int) ∧ (↑i : Int) < (↑s.S.length : Int), i < s.S.length, CallOK Try.prog (35 : FuncId) ([] ++ [AV.agg [AV.val (Value.bool (s.S.getD i default).valid), AV.val (Value.bool (s.S.getD i default).dirty), AV.val (Value.int IntKind.i64 (s.S.getD i default).block), AV.val (Value.int IntKind.i64 (s.S.getD i default).stamp)]] ++ []) [] (AV.val (Value.int IntKind.i64 (clsF (s.S.getD i default)))) [], (0 : Int) ≤ v ∧ v < (↑s.S.length : Int), v.toNat < s.S.length, CallOK Try.prog (35 : FuncId) ([] ++ [AV.agg [AV.val (Value.bool (s.S.getD v.toNat default).valid), AV.val (Value.bool (s.S.getD v.toNat default).dirty), AV.val (Value.int IntKind.i64 (s.S.getD v.toNat default).block), AV.val (Value.int IntKind.i64 (s.S.getD v.toNat default).stamp)]] ++ []) [] (AV.val (Value.int IntKind.i64 (clsF (s.S.getD v.toNat default)))) [], decide (clsF (s.S.getD i default) < clsF (s.S.getD v.toNat default)) = false, decide (clsF (s.S.getD i default) = clsF (s.S.getD v.toNat default)) = true, (0 : Int) ≤ (↑i : Int) ∧ (↑i : Int) < (↑s.S.length : Int), i < s.S.length, (0 : Int) ≤ v ∧ v < (↑s.S.length : Int), v.toNat < s.S.length, decide ((s.S.getD i default).stamp < (s.S.getD v.toNat default).stamp) = true]) rfl (by kernel_rfl) ⟨(decide_eq_true hc1), (by omega), (by omega), (CallOK.ren a1 [] [] rfl rfl rfl rfl trivial rfl trivial), (by omega), (by omega), (CallOK.ren a2 [] [] rfl rfl rfl rfl trivial rfl trivial), (decide_eq_false hc2), (decide_eq_true hc3), (by omega), (by omega), (by omega), (by omega), (decide_eq_true hc4), trivial⟩ ?_ ⟨ObLe.refl _, trivial⟩ ⟨rfl, fun _ => rfl, trivial⟩ rfl
      case' ga3 =>
        refine Safe.ends mixed Go.Proofs.Try.func7 14 [⟨1100, [(4, .tt true)]⟩, ⟨1200, [(6, .call [] (I (clsF (s.S.getD i default))) []), (13, .call [] (I (clsF (s.S.getD v.toNat default))) [])]⟩, ⟨1300, [(2, .tt true)]⟩, ⟨1400, []⟩] (r := B (false)) (hp := [(1, .ro ((1 : Nat)) (z.length) (rowG encI z))]) (ob := [decide ((↑i : Int) < (↑s.S.length : Int)) = true, (0 : Int) ≤ (↑i : Int) ∧ (↑i : Int) < (↑s.S.length : Int), i < s.S.length, CallOK Try.prog (35 : FuncId) ([] ++ [AV.agg [AV.val (Value.bool (s.S.getD i default).valid), AV.val (Value.bool (s.S.getD i default).dirty), AV.val (Value.int IntKind.i64 (s.S.getD i default).block), AV.val (Value.int IntKind.i64 (s.S.getD i default).stamp)]] ++ []) [] (AV.val (Value.int IntKind.i64 (clsF (s.S.getD i default)))) [], (0 : Int) ≤ v ∧ v < (↑s.S.length : Int), v.toNat < s.S.length, CallOK Try.prog (35 : FuncId) ([] ++ [AV.agg [AV.val (Value.bool (s.S.getD v.toNat default).valid), AV.val (Value.bool (s.S.getD v.toNat default).dirty), AV.val (Value.int IntKind.i64 (s.S.getD v.toNat default).block), AV.val (Value.int IntKind.i64 (s.S.getD v.toNat default).stamp)]] ++ []) [] (AV.val (Value.int IntKind.i64 (clsF (s.S.getD v.toNat default)))) [], decide (clsF (s.S.getD i default) < clsF (s.S.getD v.toNat default)) = true]) rfl (by kernel_rfl) ⟨(decide_eq_true hc1), (by omega), (by omega), (CallOK.ren a1 [] [] rfl rfl rfl rfl trivial rfl trivial), (by omega), (by omega), (CallOK.ren a2 [] [] rfl rfl rfl rfl trivial rfl trivial), (decide_eq_true hc2), trivial⟩ ?_ ⟨ObLe.refl _, trivial⟩ ⟨rfl, fun _ => rfl, trivial⟩ rfl
    · exact absurd hc2 (by have := vl (by omega); omega)
    · exact absurd hc4 (by have := (vl (by omega)).2 hc3; omega)
    · exact ih (i + 1) (by omega) (by omega)
    · exact ih (i + 1) (by omega) (by omega)
  · intro H
    refine (Classical.em (v < (0 : Int))).elim (fun hc1 => ?ga6) (fun hc1 => ?gb6)
    case' gb6 =>
      refine (Classical.em (v ≥ (↑s.S.length : Int))).elim (fun hc2 => ?ga7) (fun hc2 => ?gb7)
      case' gb7 =>
        refine Safe.goto mixed 20 [⟨1100, []⟩, ⟨1200, [(1, .call [1] (.ptr ((1255 : Nat)) ((0 : Nat)) ((0 : Nat)) ((0 : Nat))) [(1255, some (.blk ((55 : Nat)) [.sl ((1 : Nat)) ((0 : Nat)) ((1 : Nat)) (m) (none), I ((0 : Int))]))])]⟩, ⟨1300, [(2, .call [1255, 1] (I ((↑n : Int))) [(1255, some (.blk ((55 : Nat)) [.sl ((1 : Nat)) ((0 : Nat)) ((1 : Nat)) (m) (none), I ((↑q1 : Int))]))]), (3, .call [1255, 1] (.agg [.sl ((1365 : Nat)) ((0 : Nat)) ((4 : Nat)) (s.S.length) (none), I (s.c), .sl ((1366 : Nat)) ((0 : Nat)) ((1 : Nat)) (s.M.length) (none)]) [(1255, some (.blk ((55 : Nat)) [.sl ((1 : Nat)) ((0 : Nat)) ((1 : Nat)) (m) (none), I ((↑s.p : Int))])), (1365, some (.ro ((4 : Nat)) (s.S.length) (fun q => renL [((0 : Nat), (1255 : Nat)), ((1 : Nat), (1 : Nat)), ((10 : Nat), (1365 : Nat)), ((11 : Nat), (1366 : Nat))] (rowG encC s.S q)))), (1366, some (.ro ((1 : Nat)) (s.M.length) (fun q => renL [((0 : Nat), (1255 : Nat)), ((1 : Nat), (1 : Nat)), ((10 : Nat), (1365 : Nat)), ((11 : Nat), (1366 : Nat))] (rowG encI s.M q))))])]⟩, ⟨1400, [(1, .call [1365, 1366] (.tup [I (v), I ((0 : Int))]) [])]⟩, ⟨1500, [(4, .tt false), (11, .tt false)]⟩, ⟨1600, []⟩, ⟨1700, []⟩] [4, 5, 7, 8] [1, 1304, 1365, 1366] (todo' := loopAt Go.Proofs.Try.f7 0) (sl := slotsOf 80 [(4, .ptr ((1304 : Nat)) ((0 : Nat)) ((0 : Nat)) ((0 : Nat))), (5, I (v)), (7, .fn (Fn.func (35 : Nat)) [] []), (8, I ((0 : Int)))]) (hp := [(1, .ro ((1 : Nat)) (z.length) (rowG encI z)), (1304, .blk ((25 : Nat)) [.sl ((1365 : Nat)) ((0 : Nat)) ((4 : Nat)) (s.S.length) (none), I (s.c), .sl ((1366 : Nat)) ((0 : Nat)) ((1 : Nat)) (s.M.length) (none)]), (1365, .ro ((4 : Nat)) (s.S.length) (fun q => renL [((0 : Nat), (1255 : Nat)), ((1 : Nat), (1 : Nat)), ((10 : Nat), (1365 : Nat)), ((11 : Nat), (1366 : Nat))] (rowG encC s.S q))), (1366, .ro ((1 : Nat)) (s.M.length) (fun q => renL [((0 : Nat), (1255 : Nat)), ((1 : Nat), (1 : Nat)), ((10 : Nat), (1365 : Nat)), ((11 : Nat), (1366 : Nat))] (rowG encI s.M q)))]) (ob := [CallOK Try.prog (12 : Nat) ([] ++ [AV.sl (1 : Nat) (0 : Nat) (1 : Nat) z.length none] ++ []) [((1 : Nat), Ob.ro (1 : Nat) z.length (rowG encI z))] (AV.ptr (1255 : Nat) (0 : Nat) (0 : Nat) (0 : Nat)) [((1255 : Nat), some (Ob.blk (55 : Nat) [AV.sl (1 : Nat) (0 : Nat) (1 : Nat) m none, AV.val (Value.int IntKind.i64 (0 : Int))]))], CallOK Try.prog (16 : Nat) ([] ++ [AV.ptr (1255 : Nat) (0 : Nat) (0 : Nat) (0 : Nat), ofV (Value.int IntKind.i64 (40 : Int))] ++ []) [((1255 : Nat), Ob.blk (55 : Nat) [AV.sl (1 : Nat) (0 : Nat) (1 : Nat) m none, AV.val (Value.int IntKind.i64 (0 : Int))]), ((1 : Nat), Ob.ro (1 : Nat) z.length (rowG encI z))] (AV.val (Value.int IntKind.i64 (↑n : Int))) [((1255 : Nat), some (Ob.blk (55 : Nat) [AV.sl (1 : Nat) (0 : Nat) (1 : Nat) m none, AV.val (Value.int IntKind.i64 (↑q1 : Int))]))], CallOK Try.prog (34 : Nat) ([] ++ [AV.ptr (1255 : Nat) (0 : Nat) (0 : Nat) (0 : Nat), AV.val (Value.int IntKind.i64 (↑n : Int))] ++ []) [((1255 : Nat), Ob.blk (55 : Nat) [AV.sl (1 : Nat) (0 : Nat) (1 : Nat) m none, AV.val (Value.int IntKind.i64 (↑q1 : Int))]), ((1 : Nat), Ob.ro (1 : Nat) z.length (rowG encI z))] (AV.agg [AV.sl (1365 : Nat) (0 : Nat) (4 : Nat) s.S.length none, AV.val (Value.int IntKind.i64 s.c), AV.sl (1366 : Nat) (0 : Nat) (1 : Nat) s.M.length none]) [((1255 : Nat), some (Ob.blk (55 : Nat) [AV.sl (1 : Nat) (0 : Nat) (1 : Nat) m none, AV.val (Value.int IntKind.i64 (↑s.p : Int))])), ((1365 : Nat), some (Ob.ro (4 : Nat) s.S.length fun q => renL [((0 : Nat), (1255 : Nat)), ((1 : Nat), (1 : Nat)), ((10 : Nat), (1365 : Nat)), ((11 : Nat), (1366 : Nat))] (rowG encC s.S q))), ((1366 : Nat), some (Ob.ro (1 : Nat) s.M.length fun q => renL [((0 : Nat), (1255 : Nat)), ((1 : Nat), (1 : Nat)), ((10 : Nat), (1365 : Nat)), ((11 : Nat), (1366 : Nat))] (rowG encI s.M q)))], CallOK Try.prog (22 : Nat) ([] ++ [AV.agg [AV.sl (1365 : Nat) (0 : Nat) (4 : Nat) s.S.length none, AV.val (Value.int IntKind.i64 s.c), AV.sl (1366 : Nat) (0 : Nat) (1 : Nat) s.M.length none]] ++ []) [((1365 : Nat), Ob.ro (4 : Nat) s.S.length fun q => renL [((0 : Nat), (1255 : Nat)), ((1 : Nat), (1 : Nat)), ((10 : Nat), (1365 : Nat)), ((11 : Nat), (1366 : Nat))] (rowG encC s.S q)), ((1366 : Nat), Ob.ro (1 : Nat) s.M.length fun q => renL [((0 : Nat), (1255 : Nat)), ((1 : Nat), (1 : Nat)), ((10 : Nat), (1365 : Nat)), ((11 : Nat), (1366 : Nat))] (rowG encI s.M q))] (AV.tup [AV.val (Value.int IntKind.i64 v), AV.val (Value.int IntKind.i64 (0 : Int))]) [], decide (v < (0 : Int)) = false, decide (v ≥ (↑s.S.length : Int)) = false]) rfl rfl (by kernel_rfl) ⟨(CallOK.ren c0 [(1, 1), (10, 1255)] [1, 10] rfl rfl rfl rfl ⟨rfl, fun _ => rfl, trivial⟩ rfl ⟨rfl, fun _ => rfl, rfl, rfl, trivial⟩), (CallOK.ren c1 [(0, 1255), (1, 1)] [0, 1] rfl rfl rfl rfl ⟨rfl, rfl, rfl, fun _ => rfl, trivial⟩ rfl ⟨rfl, rfl, rfl, fun _ => rfl, trivial⟩), (CallOK.ren c2 [(0, 1255), (1, 1), (10, 1365), (11, 1366)] [0, 1, 10, 11] rfl rfl rfl rfl ⟨rfl, rfl, rfl, fun _ => rfl, trivial⟩ rfl ⟨rfl, rfl, rfl, fun _ => rfl, rfl, fun _ => rfl, rfl, fun _ => rfl, trivial⟩), (CallOK.ren c3 [(1, 1365), (2, 1366)] [1, 2] rfl rfl rfl rfl ⟨rfl, fun _ => rfl, rfl, fun _ => rfl, trivial⟩ rfl ⟨rfl, fun _ => rfl, rfl, fun _ => rfl, trivial⟩), (decide_eq_false hc1), (decide_eq_false hc2), trivial⟩ rfl ⟨rfl, fun _ => rfl, rfl, rfl, rfl, closed_renN (fun _ => rfl), rfl, closed_renN (fun _ => rfl), trivial⟩ ?_
        refine Safe.ren [(1304, 20), (1365, 21), (1366, 22)] rfl rfl rfl rfl ⟨rfl, fun _ => rfl, rfl, rfl, rfl, closed_renN (fun _ => rfl), rfl, closed_renN (fun _ => rfl), trivial⟩ ?_
      case' ga7 =>
        refine Safe.ends mixed Go.Proofs.Try.func7 14 [⟨1100, []⟩, ⟨1200, [(1, .call [1] (.ptr ((1255 : Nat)) ((0 : Nat)) ((0 : Nat)) ((0 : Nat))) [(1255, some (.blk ((55 : Nat)) [.sl ((1 : Nat)) ((0 : Nat)) ((1 : Nat)) (m) (none), I ((0 : Int))]))])]⟩, ⟨1300, [(2, .call [1255, 1] (I ((↑n : Int))) [(1255, some (.blk ((55 : Nat)) [.sl ((1 : Nat)) ((0 : Nat)) ((1 : Nat)) (m) (none), I ((↑q1 : Int))]))]), (3, .call [1255, 1] (.agg [.sl ((1365 : Nat)) ((0 : Nat)) ((4 : Nat)) (s.S.length) (none), I (s.c), .sl ((1366 : Nat)) ((0 : Nat)) ((1 : Nat)) (s.M.length) (none)]) [(1255, some (.blk ((55 : Nat)) [.sl ((1 : Nat)) ((0 : Nat)) ((1 : Nat)) (m) (none), I ((↑s.p : Int))])), (1365, some (.ro ((4 : Nat)) (s.S.length) (fun q => renL [((0 : Nat), (1255 : Nat)), ((1 : Nat), (1 : Nat)), ((10 : Nat), (1365 : Nat)), ((11 : Nat), (1366 : Nat))] (rowG encC s.S q)))), (1366, some (.ro ((1 : Nat)) (s.M.length) (fun q => renL [((0 : Nat), (1255 : Nat)), ((1 : Nat), (1 : Nat)), ((10 : Nat), (1365 : Nat)), ((11 : Nat), (1366 : Nat))] (rowG encI s.M q))))])]⟩, ⟨1400, [(1, .call [1365, 1366] (.tup [I (v), I ((0 : Int))]) [])]⟩, ⟨1500, [(4, .tt false), (11, .tt true)]⟩, ⟨1600, []⟩] (r := B (false)) (hp := [(1, .ro ((1 : Nat)) (z.length) (rowG encI z))]) (ob := [CallOK Try.prog (12 : Nat) ([] ++ [AV.sl (1 : Nat) (0 : Nat) (1 : Nat) z.length none] ++ []) [((1 : Nat), Ob.ro (1 : Nat) z.length (rowG encI z))] (AV.ptr (1255 : Nat) (0 : Nat) (0 : Nat) (0 : Nat)) [((1255 : Nat), some (Ob.blk (55 : Nat) [AV.sl (1 : Nat) (0 : Nat) (1 : Nat) m none, AV.val (Value.int IntKind.i64 (0 : Int))]))], CallOK Try.prog (16 : Nat) ([] ++ [AV.ptr (1255 : Nat) (0 : Nat) (0 : Nat) (0 : Nat), ofV (Value.int IntKind.i64 (40 : Int))] ++ []) [((1255 : Nat), Ob.blk (55 : Nat) [AV.sl (1 : Nat) (0 : Nat) (1 : Nat) m none, AV.val (Value.int IntKind.i64 (0 : Int))]), ((1 : Nat), Ob.ro (1 : Nat) z.length (rowG encI z))] (AV.val (Value.int IntKind.i64 (↑n : Int))) [((1255 : Nat), some (Ob.blk (55 : Nat) [AV.sl (1 : Nat) (0 : Nat) (1 : Nat) m none, AV.val (Value.int IntKind.i64 (↑q1 : Int))]))], CallOK Try.prog (34 : Nat) ([] ++ [AV.ptr (1255 : Nat) (0 : Nat) (0 : Nat) (0 : Nat), AV.val (Value.int IntKind.i64 (↑n : Int))] ++ []) [((1255 : Nat), Ob.blk (55 : Nat) [AV.sl (1 : Nat) (0 : Nat) (1 : Nat) m none, AV.val (Value.int IntKind.i64 (↑q1 : Int))]), ((1 : Nat), Ob.ro (1 : Nat) z.length (rowG encI z))] (AV.agg [AV.sl (1365 : Nat) (0 : Nat) (4 : Nat) s.S.length none, AV.val (Value.int IntKind.i64 s.c), AV.sl (1366 : Nat) (0 : Nat) (1 : Nat) s.M.length none]) [((1255 : Nat), some (Ob.blk (55 : Nat) [AV.sl (1 : Nat) (0 : Nat) (1 : Nat) m none, AV.val (Value.int IntKind.i64 (↑s.p : Int))])), ((1365 : Nat), some (Ob.ro (4 : Nat) s.S.length fun q => renL [((0 : Nat), (1255 : Nat)), ((1 : Nat), (1 : Nat)), ((10 : Nat), (1365 : Nat)), ((11 : Nat), (1366 : Nat))] (rowG encC s.S q))), ((1366 : Nat), some (Ob.ro (1 : Nat) s.M.length fun q => renL [((0 : Nat), (1255 : Nat)), ((1 : Nat), (1 : Nat)), ((10 : Nat), (1365 : Nat)), ((11 : Nat), (1366 : Nat))] (rowG encI s.M q)))], CallOK Try.prog (22 : Nat) ([] ++ [AV.agg [AV.sl (1365 : Nat) (0 : Nat) (4 : Nat) s.S.length none, AV.val (Value.int IntKind.i64 s.c), AV.sl (1366 : Nat) (0 : Nat) (1 : Nat) s.M.length none]] ++ []) [((1365 : Nat), Ob.ro (4 : Nat) s.S.length fun q => renL [((0 : Nat), (1255 : Nat)), ((1 : Nat), (1 : Nat)), ((10 : Nat), (1365 : Nat)), ((11 : Nat), (1366 : Nat))] (rowG encC s.S q)), ((1366 : Nat), Ob.ro (1 : Nat) s.M.length fun q => renL [((0 : Nat), (1255 : Nat)), ((1 : Nat), (1 : Nat)), ((10 : Nat), (1365 : Nat)), ((11 : Nat), (1366 : Nat))] (rowG encI s.M q))] (AV.tup [AV.val (Value.int IntKind.i64 v), AV.val (Value.int IntKind.i64 (0 : Int))]) [], decide (v < (0 : Int)) = false, decide (v ≥ (↑s.S.length : Int)) = true]) rfl (by kernel_rfl) ⟨(CallOK.ren c0 [(1, 1), (10, 1255)] [1, 10] rfl rfl rfl rfl ⟨rfl, fun _ => rfl, trivial⟩ rfl ⟨rfl, fun _ => rfl, rfl, rfl, trivial⟩), (CallOK.ren c1 [(0, 1255), (1, 1)] [0, 1] rfl rfl rfl rfl ⟨rfl, rfl, rfl, fun _ => rfl, trivial⟩ rfl ⟨rfl, rfl, rfl, fun _ => rfl, trivial⟩), (CallOK.ren c2 [(0, 1255), (1, 1), (10, 1365), (11, 1366)] [0, 1, 10, 11] rfl rfl rfl rfl ⟨rfl, rfl, rfl, fun _ => rfl, trivial⟩ rfl ⟨rfl, rfl, rfl, fun _ => rfl, rfl, fun _ => rfl, rfl, fun _ => rfl, trivial⟩), (CallOK.ren c3 [(1, 1365), (2, 1366)] [1, 2] rfl rfl rfl rfl ⟨rfl, fun _ => rfl, rfl, fun _ => rfl, trivial⟩ rfl ⟨rfl, fun _ => rfl, rfl, fun _ => rfl, trivial⟩), (decide_eq_false hc1), (decide_eq_true hc2), trivial⟩ ?_ ⟨ObLe.refl _, trivial⟩ ⟨rfl, fun _ => rfl, trivial⟩ rfl
    case' ga6 =>
      refine Safe.ends mixed Go.Proofs.Try.func7 14 [⟨1100, []⟩, ⟨1200, [(1, .call [1] (.ptr ((1255 : Nat)) ((0 : Nat)) ((0 : Nat)) ((0 : Nat))) [(1255, some (.blk ((55 : Nat)) [.sl ((1 : Nat)) ((0 : Nat)) ((1 : Nat)) (m) (none), I ((0 : Int))]))])]⟩, ⟨1300, [(2, .call [1255, 1] (I ((↑n : Int))) [(1255, some (.blk ((55 : Nat)) [.sl ((1 : Nat)) ((0 : Nat)) ((1 : Nat)) (m) (none), I ((↑q1 : Int))]))]), (3, .call [1255, 1] (.agg [.sl ((1365 : Nat)) ((0 : Nat)) ((4 : Nat)) (s.S.length) (none), I (s.c), .sl ((1366 : Nat)) ((0 : Nat)) ((1 : Nat)) (s.M.length) (none)]) [(1255, some (.blk ((55 : Nat)) [.sl ((1 : Nat)) ((0 : Nat)) ((1 : Nat)) (m) (none), I ((↑s.p : Int))])), (1365, some (.ro ((4 : Nat)) (s.S.length) (fun q => renL [((0 : Nat), (1255 : Nat)), ((1 : Nat), (1 : Nat)), ((10 : Nat), (1365 : Nat)), ((11 : Nat), (1366 : Nat))] (rowG encC s.S q)))), (1366, some (.ro ((1 : Nat)) (s.M.length) (fun q => renL [((0 : Nat), (1255 : Nat)), ((1 : Nat), (1 : Nat)), ((10 : Nat), (1365 : Nat)), ((11 : Nat), (1366 : Nat))] (rowG encI s.M q))))])]⟩, ⟨1400, [(1, .call [1365, 1366] (.tup [I (v), I ((0 : Int))]) [])]⟩, ⟨1500, [(4, .tt true)]⟩, ⟨1600, []⟩] (r := B (false)) (hp := [(1, .ro ((1 : Nat)) (z.length) (rowG encI z))]) (ob := [CallOK Try.prog (12 : Nat) ([] ++ [AV.sl (1 : Nat) (0 : Nat) (1 : Nat) z.length none] ++ []) [((1 : Nat), Ob.ro (1 : Nat) z.length (rowG encI z))] (AV.ptr (1255 : Nat) (0 : Nat) (0 : Nat) (0 : Nat)) [((1255 : Nat), some (Ob.blk (55 : Nat) [AV.sl (1 : Nat) (0 : Nat) (1 : Nat) m none, AV.val (Value.int IntKind.i64 (0 : Int))]))], CallOK Try.prog (16 : Nat) ([] ++ [AV.ptr (1255 : Nat) (0 : Nat) (0 : Nat) (0 : Nat), ofV (Value.int IntKind.i64 (40 : Int))] ++ []) [((1255 : Nat), Ob.blk (55 : Nat) [AV.sl (1 : Nat) (0 : Nat) (1 : Nat) m none, AV.val (Value.int IntKind.i64 (0 : Int))]), ((1 : Nat), Ob.ro (1 : Nat) z.length (rowG encI z))] (AV.val (Value.int IntKind.i64 (↑n : Int))) [((1255 : Nat), some (Ob.blk (55 : Nat) [AV.sl (1 : Nat) (0 : Nat) (1 : Nat) m none, AV.val (Value.int IntKind.i64 (↑q1 : Int))]))], CallOK Try.prog (34 : Nat) ([] ++ [AV.ptr (1255 : Nat) (0 : Nat) (0 : Nat) (0 : Nat), AV.val (Value.int IntKind.i64 (↑n : Int))] ++ []) [((1255 : Nat), Ob.blk (55 : Nat) [AV.sl (1 : Nat) (0 : Nat) (1 : Nat) m none, AV.val (Value.int IntKind.i64 (↑q1 : Int))]), ((1 : Nat), Ob.ro (1 : Nat) z.length (rowG encI z))] (AV.agg [AV.sl (1365 : Nat) (0 : Nat) (4 : Nat) s.S.length none, AV.val (Value.int IntKind.i64 s.c), AV.sl (1366 : Nat) (0 : Nat) (1 : Nat) s.M.length none]) [((1255 : Nat), some (Ob.blk (55 : Nat) [AV.sl (1 : Nat) (0 : Nat) (1 : Nat) m none, AV.val (Value.int IntKind.i64 (↑s.p : Int))])), ((1365 : Nat), some (Ob.ro (4 : Nat) s.S.length fun q => renL [((0 : Nat), (1255 : Nat)), ((1 : Nat), (1 : Nat)), ((10 : Nat), (1365 : Nat)), ((11 : Nat), (1366 : Nat))] (rowG encC s.S q))), ((1366 : Nat), some (Ob.ro (1 : Nat) s.M.length fun q => renL [((0 : Nat), (1255 : Nat)), ((1 : Nat), (1 : Nat)), ((10 : Nat), (1365 : Nat)), ((11 : Nat), (1366 : Nat))] (rowG encI s.M q)))], CallOK Try.prog (22 : Nat) ([] ++ [AV.agg [AV.sl (1365 : Nat) (0 : Nat) (4 : Nat) s.S.length none, AV.val (Value.int IntKind.i64 s.c), AV.sl (1366 : Nat) (0 : Nat) (1 : Nat) s.M.length none]] ++ []) [((1365 : Nat), Ob.ro (4 : Nat) s.S.length fun q => renL [((0 : Nat), (1255 : Nat)), ((1 : Nat), (1 : Nat)), ((10 : Nat), (1365 : Nat)), ((11 : Nat), (1366 : Nat))] (rowG encC s.S q)), ((1366 : Nat), Ob.ro (1 : Nat) s.M.length fun q => renL [((0 : Nat), (1255 : Nat)), ((1 : Nat), (1 : Nat)), ((10 : Nat), (1365 : Nat)), ((11 : Nat), (1366 : Nat))] (rowG encI s.M q))] (AV.tup [AV.val (Value.int IntKind.i64 v), AV.val (Value.int IntKind.i64 (0 : Int))]) [], decide (v < (0 : Int)) = true]) rfl (by kernel_rfl) ⟨(CallOK.ren c0 [(1, 1), (10, 1255)] [1, 10] rfl rfl rfl rfl ⟨rfl, fun _ => rfl, trivial⟩ rfl ⟨rfl, fun _ => rfl, rfl, rfl, trivial⟩), (CallOK.ren c1 [(0, 1255), (1, 1)] [0, 1] rfl rfl rfl rfl ⟨rfl, rfl, rfl, fun _ => rfl, trivial⟩ rfl ⟨rfl, rfl, rfl, fun _ => rfl, trivial⟩), (CallOK.ren c2 [(0, 1255), (1, 1), (10, 1365), (11, 1366)] [0, 1, 10, 11] rfl rfl rfl rfl ⟨rfl, rfl, rfl, fun _ => rfl, trivial⟩ rfl ⟨rfl, rfl, rfl, fun _ => rfl, rfl, fun _ => rfl, rfl, fun _ => rfl, trivial⟩), (CallOK.ren c3 [(1, 1365), (2, 1366)] [1, 2] rfl rfl rfl rfl ⟨rfl, fun _ => rfl, rfl, fun _ => rfl, trivial⟩ rfl ⟨rfl, fun _ => rfl, rfl, fun _ => rfl, trivial⟩), (decide_eq_true hc1), trivial⟩ ?_ ⟨ObLe.refl _, trivial⟩ ⟨rfl, fun _ => rfl, trivial⟩ rfl
    · exact absurd hc1 (by omega)
    · exact absurd hc2 (by omega)
    · exact Safe.leH (H 0 (Nat.zero_le _)) rfl (SlLe.refl _) ⟨ObLe.refl _, ObLe.refl _, ⟨rfl, rfl, fun _ _ => rfl⟩, ⟨rfl, rfl, fun _ _ => rfl⟩, trivial⟩ rfl ⟨rfl, fun _ => rfl, rfl, rfl, rfl, fun _ => rfl, rfl, fun _ => rfl, trivial⟩
end Go.Proofs.Ytebejfmodiionaa
