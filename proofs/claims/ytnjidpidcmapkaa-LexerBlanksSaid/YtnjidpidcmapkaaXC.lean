/- The law's parts: both agree, the sanity check. No conditions but those of each theorem. -/
import Derived.Test.YtnjidpidcmapkaaSyZ
import Derived.KernelRfl
import Derived.Test.YtnjidpidcmapkaaXB
namespace Go.Proofs.Ytnjidpidcmapkaa
open Go.RowKit
set_option linter.unusedVariables false
set_option linter.unnecessarySimpa false
set_option linter.unusedSimpArgs false
def awT : List Tk := [Tk.mk 1 [97] 0 1 1, Tk.mk 4 [61] 0 1 3, Tk.mk 2 [] 5 1 5, Tk.mk 5 [] 0 1 10]
theorem aw_lex : lexF [97, 32, 61, 32, 53, 32, 35, 32, 120] = .ok awT := by kernel_rfl
theorem aw_tokens : CallOK Try.prog 15 [S { data := #[97, 32, 61, 32, 53, 32, 35, 32, 120] }] [] (.tup [.sl 10 0 5 4 none, .agg [I 0, I 0], I 0]) [(10, some (.vec 39 5 4 (rowG encT awT)))] :=
  tokens_ok [97, 32, 61, 32, 53, 32, 35, 32, 120] (bts_lit _) (by decide) awT aw_lex
set_option maxRecDepth 10000 in
set_option maxHeartbeats 8000000 in
theorem awake_any : CallOK Try.prog 9 [] [] (B true) [] := by
  refine CallOK.intro Try.call9 Try.func9 rfl rfl trivial ?_
  refine Safe.ends mixed Go.Proofs.Try.func9 6 [⟨100, []⟩, ⟨200, [(0, .call [] (.tup [.sl ((250 : Nat)) ((0 : Nat)) ((5 : Nat)) ((4 : Nat)) (none), .agg [I ((0 : Int)), I ((0 : Int))], I ((0 : Int))]) [(250, some (.vec ((39 : Nat)) ((5 : Nat)) ((4 : Nat)) (fun q => renL [((10 : Nat), (250 : Nat))] (rowG encT awT q))))])]⟩, ⟨300, []⟩] (r := B (true)) (hp := []) (ob := [CallOK Try.prog (15 : Nat) ([] ++ [ofV (Value.string (ByteArray.mk #[(97 : UInt8), (32 : UInt8), (61 : UInt8), (32 : UInt8), (53 : UInt8), (32 : UInt8), (35 : UInt8), (32 : UInt8), (120 : UInt8)]))] ++ []) [] (AV.tup [AV.sl (250 : Nat) (0 : Nat) (5 : Nat) (4 : Nat) none, AV.agg [AV.val (Value.int IntKind.i64 (0 : Int)), AV.val (Value.int IntKind.i64 (0 : Int))], AV.val (Value.int IntKind.i64 (0 : Int))]) [((250 : Nat), some (Ob.vec (39 : Nat) (5 : Nat) (4 : Nat) fun q => renL [((10 : Nat), (250 : Nat))] (rowG encT awT q)))], (0 : Int) ≤ (0 : Int) ∧ (0 : Int) < (↑(4 : Nat) : Int), (0 : Nat) < (4 : Nat), (0 : Int) ≤ (2 : Int) ∧ (2 : Int) < (↑(4 : Nat) : Int), (2 : Nat) < (4 : Nat), (0 : Int) ≤ (3 : Int) ∧ (3 : Int) < (↑(4 : Nat) : Int), (3 : Nat) < (4 : Nat)]) rfl (by kernel_rfl) ⟨(CallOK.ren aw_tokens [(10, 250)] [10] rfl rfl rfl rfl trivial rfl ⟨rfl, fun _ => rfl, trivial⟩), (by omega), (by omega), (by omega), (by omega), (by omega), (by omega), trivial⟩ rfl trivial trivial rfl
  all_goals first | exact rfl | (exfalso; revert hc1; decide)
theorem lex_len (L : List Int) : ∀ (f i : Nat) (l c : Int) (T T0 : List Tk), lex L f i l c T = .ok T0 → T0.length ≤ T.length + f
  | 0, i, l, c, T, T0, h => by cases h
  | f + 1, i, l, c, T, T0, h => by
    rw [lex] at h
    split at h
    · have ih := lex_len L f
      repeat' split at h
      all_goals first
        | (cases h; done)
        | (have := ih _ _ _ _ _ h; first | omega | (simp only [List.length_append, List.length_singleton] at this; omega))
    · simp only [Rs.ok.injEq] at h
      subst h
      simp only [List.length_append, List.length_singleton]
      omega
set_option maxRecDepth 10000 in
set_option maxHeartbeats 8000000 in
theorem agrees_any (L : List Int) (hL : Bts L) (hl : L.length ≤ 8192) : CallOK Try.prog 10 [S (str L)] [] (B true) [] := by
  cases hx : lexF L with
  | err e l c =>
    have hA := tokens_err L hL hl e l c hx
    have hB := rtokens_err L hL hl e l c hx
    refine CallOK.intro Try.call10 Try.func10 rfl rfl trivial ?_
    refine (Classical.em (¬e = e)).elim (fun hc1 => ?ga0) (fun hc1 => ?gb0)
    case' gb0 =>
      refine (Classical.em ((!(decide (l = l) && (decide (c = c) && true))) = true)).elim (fun hc2 => ?ga1) (fun hc2 => ?gb1)
      case' gb1 =>
        refine Safe.ends mixed Go.Proofs.Try.func10 23 [⟨100, []⟩, ⟨200, [(1, .call [] (.tup [.val (Value.slice none (0 : Nat) (0 : Nat)), .agg [I (l), I (c)], I (e)]) [])]⟩, ⟨300, [(1, .call [] (.tup [.val (Value.slice none (0 : Nat) (0 : Nat)), .agg [I (l), I (c)], I (e)]) [])]⟩, ⟨400, [(2, .tt false), (6, .tt false)]⟩, ⟨500, []⟩, ⟨600, []⟩, ⟨700, []⟩] (r := B (true)) (hp := []) (ob := [CallOK Try.prog (15 : Nat) ([] ++ [AV.val (Value.string (str L))] ++ []) [] (AV.tup [AV.val (Value.slice none (0 : Nat) (0 : Nat)), AV.agg [AV.val (Value.int IntKind.i64 l), AV.val (Value.int IntKind.i64 c)], AV.val (Value.int IntKind.i64 e)]) [], CallOK Try.prog (19 : Nat) ([] ++ [AV.val (Value.string (str L))] ++ []) [] (AV.tup [AV.val (Value.slice none (0 : Nat) (0 : Nat)), AV.agg [AV.val (Value.int IntKind.i64 l), AV.val (Value.int IntKind.i64 c)], AV.val (Value.int IntKind.i64 e)]) [], (decide ¬e = e) = false, (!(decide (l = l) && (decide (c = c) && true))) = false]) rfl (by kernel_rfl) ⟨hA, hB, (decide_eq_false hc1), (by simpa using hc2), trivial⟩ rfl trivial trivial rfl
      case' ga1 =>
        refine Safe.ends mixed Go.Proofs.Try.func10 12 [⟨100, []⟩, ⟨200, [(1, .call [] (.tup [.val (Value.slice none (0 : Nat) (0 : Nat)), .agg [I (l), I (c)], I (e)]) [])]⟩, ⟨300, [(1, .call [] (.tup [.val (Value.slice none (0 : Nat) (0 : Nat)), .agg [I (l), I (c)], I (e)]) [])]⟩, ⟨400, [(2, .tt false), (6, .tt true)]⟩, ⟨500, []⟩] (r := B (false)) (hp := []) (ob := [CallOK Try.prog (15 : Nat) ([] ++ [AV.val (Value.string (str L))] ++ []) [] (AV.tup [AV.val (Value.slice none (0 : Nat) (0 : Nat)), AV.agg [AV.val (Value.int IntKind.i64 l), AV.val (Value.int IntKind.i64 c)], AV.val (Value.int IntKind.i64 e)]) [], CallOK Try.prog (19 : Nat) ([] ++ [AV.val (Value.string (str L))] ++ []) [] (AV.tup [AV.val (Value.slice none (0 : Nat) (0 : Nat)), AV.agg [AV.val (Value.int IntKind.i64 l), AV.val (Value.int IntKind.i64 c)], AV.val (Value.int IntKind.i64 e)]) [], (decide ¬e = e) = false, (!(decide (l = l) && (decide (c = c) && true))) = true]) rfl (by kernel_rfl) ⟨hA, hB, (decide_eq_false hc1), hc2, trivial⟩ ?_ trivial trivial rfl
    case' ga0 =>
      refine Safe.ends mixed Go.Proofs.Try.func10 12 [⟨100, []⟩, ⟨200, [(1, .call [] (.tup [.val (Value.slice none (0 : Nat) (0 : Nat)), .agg [I (l), I (c)], I (e)]) [])]⟩, ⟨300, [(1, .call [] (.tup [.val (Value.slice none (0 : Nat) (0 : Nat)), .agg [I (l), I (c)], I (e)]) [])]⟩, ⟨400, [(2, .tt true)]⟩, ⟨500, []⟩] (r := B (false)) (hp := []) (ob := [CallOK Try.prog (15 : Nat) ([] ++ [AV.val (Value.string (str L))] ++ []) [] (AV.tup [AV.val (Value.slice none (0 : Nat) (0 : Nat)), AV.agg [AV.val (Value.int IntKind.i64 l), AV.val (Value.int IntKind.i64 c)], AV.val (Value.int IntKind.i64 e)]) [], CallOK Try.prog (19 : Nat) ([] ++ [AV.val (Value.string (str L))] ++ []) [] (AV.tup [AV.val (Value.slice none (0 : Nat) (0 : Nat)), AV.agg [AV.val (Value.int IntKind.i64 l), AV.val (Value.int IntKind.i64 c)], AV.val (Value.int IntKind.i64 e)]) [], (decide ¬e = e) = true]) rfl (by kernel_rfl) ⟨hA, hB, (decide_eq_true hc1), trivial⟩ ?_ trivial trivial rfl
    · exact absurd rfl hc1
    · simp at hc2
  | ok T =>
    have hlen := lex_len L _ _ _ _ _ _ hx
    simp only [List.length_nil] at hlen
    have hA := tokens_ok L hL hl T hx
    have hB := rtokens_ok L hL hl T hx
    refine CallOK.intro Try.call10 Try.func10 rfl rfl trivial ?_
    refine Safe.withLoop (loopAt Try.f10 0) [20, 21] 52 (fun k : Nat => [(3, .sl 20 0 5 T.length none), (6, .sl 21 0 5 T.length none), (9, I k)]) (fun _ => [(20, .vec 39 5 T.length (rowG encT T)), (21, .vec 39 5 T.length (rowG encT T))]) (fun k => k ≤ T.length) (fun k => T.length - k) ?_ ?_
    · intro k hk ih
      refine (Classical.em ((↑k : Int) < (↑T.length : Int))).elim (fun hc1 => ?ga2) (fun hc1 => ?gb2)
      case' gb2 =>
        refine Safe.ends mixed Go.Proofs.Try.func10 7 [⟨1100, [(3, .tt false)]⟩, ⟨1200, []⟩] (r := B (true)) (hp := []) (ob := [decide ((↑k : Int) < (↑T.length : Int)) = false]) rfl (by kernel_rfl) ⟨(decide_eq_false hc1), trivial⟩ rfl trivial trivial rfl
      case' ga2 =>
        refine (Classical.em ((!(decide ((T.getD k default).kind = (T.getD k default).kind) && (decide (str (T.getD k default).text = str (T.getD k default).text) && (decide ((T.getD k default).num = (T.getD k default).num) && (decide ((T.getD k default).line = (T.getD k default).line) && (decide ((T.getD k default).col = (T.getD k default).col) && true) && true))))) = true)).elim (fun hc2 => ?ga3) (fun hc2 => ?gb3)
        case' gb3 =>
          refine Safe.goto mixed 14 [⟨1100, [(3, .tt true)]⟩, ⟨1200, [(8, .tt false)]⟩, ⟨1300, []⟩] [3, 6, 9] [20, 21] (todo' := loopAt Go.Proofs.Try.f10 0) (sl := slotsOf 52 [(3, .sl ((20 : Nat)) ((0 : Nat)) ((5 : Nat)) (T.length) (none)), (6, .sl ((21 : Nat)) ((0 : Nat)) ((5 : Nat)) (T.length) (none)), (9, I ((↑k : Int) + (1 : Int)))]) (hp := [(20, .vec ((39 : Nat)) ((5 : Nat)) (T.length) (rowG encT T)), (21, .vec ((39 : Nat)) ((5 : Nat)) (T.length) (rowG encT T))]) (ob := [decide ((↑k : Int) < (↑T.length : Int)) = true, (0 : Int) ≤ (↑k : Int) ∧ (↑k : Int) < (↑T.length : Int), k < T.length, (0 : Int) ≤ (↑k : Int) ∧ (↑k : Int) < (↑T.length : Int), k < T.length, (!(decide ((T.getD k default).kind = (T.getD k default).kind) && (decide (str (T.getD k default).text = str (T.getD k default).text) && (decide ((T.getD k default).num = (T.getD k default).num) && (decide ((T.getD k default).line = (T.getD k default).line) && (decide ((T.getD k default).col = (T.getD k default).col) && true) && true))))) = false, inK IntKind.i64 ((↑k : Int) + (1 : Int))]) rfl rfl (by kernel_rfl) ⟨(decide_eq_true hc1), (by omega), (by omega), (by omega), (by omega), (by simpa using hc2), (by simp only [inK]; omega), trivial⟩ rfl ⟨rfl, fun _ => rfl, rfl, fun _ => rfl, trivial⟩ ?_
        case' ga3 =>
          refine Safe.ends mixed Go.Proofs.Try.func10 12 [⟨1100, [(3, .tt true)]⟩, ⟨1200, [(8, .tt true)]⟩, ⟨1300, []⟩] (r := B (false)) (hp := []) (ob := [decide ((↑k : Int) < (↑T.length : Int)) = true, (0 : Int) ≤ (↑k : Int) ∧ (↑k : Int) < (↑T.length : Int), k < T.length, (0 : Int) ≤ (↑k : Int) ∧ (↑k : Int) < (↑T.length : Int), k < T.length, (!(decide ((T.getD k default).kind = (T.getD k default).kind) && (decide (str (T.getD k default).text = str (T.getD k default).text) && (decide ((T.getD k default).num = (T.getD k default).num) && (decide ((T.getD k default).line = (T.getD k default).line) && (decide ((T.getD k default).col = (T.getD k default).col) && true) && true))))) = true]) rfl (by kernel_rfl) ⟨(decide_eq_true hc1), (by omega), (by omega), (by omega), (by omega), hc2, trivial⟩ ?_ trivial trivial rfl
      · simp at hc2
      · exact ih (k + 1) (by omega) (by omega)
    · intro H
      refine (Classical.em (¬(↑T.length : Int) = (↑T.length : Int))).elim (fun hc1 => ?ga4) (fun hc1 => ?gb4)
      case' gb4 =>
        refine Safe.goto mixed 16 [⟨100, []⟩, ⟨200, [(1, .call [] (.tup [.sl ((255 : Nat)) ((0 : Nat)) ((5 : Nat)) (T.length) (none), .agg [I ((0 : Int)), I ((0 : Int))], I ((0 : Int))]) [(255, some (.vec ((39 : Nat)) ((5 : Nat)) (T.length) (fun q => renL [((10 : Nat), (255 : Nat))] (rowG encT T q))))])]⟩, ⟨300, [(1, .call [] (.tup [.sl ((355 : Nat)) ((0 : Nat)) ((5 : Nat)) (T.length) (none), .agg [I ((0 : Int)), I ((0 : Int))], I ((0 : Int))]) [(355, some (.vec ((39 : Nat)) ((5 : Nat)) (T.length) (fun q => renL [((10 : Nat), (355 : Nat))] (rowG encT T q))))])]⟩, ⟨400, [(13, .tt false)]⟩, ⟨500, []⟩] [3, 6, 9] [255, 355] (todo' := loopAt Go.Proofs.Try.f10 0) (sl := slotsOf 52 [(3, .sl ((255 : Nat)) ((0 : Nat)) ((5 : Nat)) (T.length) (none)), (6, .sl ((355 : Nat)) ((0 : Nat)) ((5 : Nat)) (T.length) (none)), (9, I ((0 : Int)))]) (hp := [(255, .vec ((39 : Nat)) ((5 : Nat)) (T.length) (fun q => renL [((10 : Nat), (255 : Nat))] (rowG encT T q))), (355, .vec ((39 : Nat)) ((5 : Nat)) (T.length) (fun q => renL [((10 : Nat), (355 : Nat))] (rowG encT T q)))]) (ob := [CallOK Try.prog (15 : Nat) ([] ++ [AV.val (Value.string (str L))] ++ []) [] (AV.tup [AV.sl (255 : Nat) (0 : Nat) (5 : Nat) T.length none, AV.agg [AV.val (Value.int IntKind.i64 (0 : Int)), AV.val (Value.int IntKind.i64 (0 : Int))], AV.val (Value.int IntKind.i64 (0 : Int))]) [((255 : Nat), some (Ob.vec (39 : Nat) (5 : Nat) T.length fun q => renL [((10 : Nat), (255 : Nat))] (rowG encT T q)))], CallOK Try.prog (19 : Nat) ([] ++ [AV.val (Value.string (str L))] ++ []) [] (AV.tup [AV.sl (355 : Nat) (0 : Nat) (5 : Nat) T.length none, AV.agg [AV.val (Value.int IntKind.i64 (0 : Int)), AV.val (Value.int IntKind.i64 (0 : Int))], AV.val (Value.int IntKind.i64 (0 : Int))]) [((355 : Nat), some (Ob.vec (39 : Nat) (5 : Nat) T.length fun q => renL [((10 : Nat), (355 : Nat))] (rowG encT T q)))], (decide ¬(↑T.length : Int) = (↑T.length : Int)) = false]) rfl rfl (by kernel_rfl) ⟨(CallOK.ren hA [(10, 255)] [10] rfl rfl rfl rfl trivial rfl ⟨rfl, fun _ => rfl, trivial⟩), (CallOK.ren hB [(10, 355)] [10] rfl rfl rfl rfl trivial rfl ⟨rfl, fun _ => rfl, trivial⟩), (decide_eq_false hc1), trivial⟩ rfl ⟨rfl, closed_renN (fun _ => rfl), rfl, closed_renN (fun _ => rfl), trivial⟩ ?_
        refine Safe.ren [(255, 20), (355, 21)] rfl rfl rfl rfl ⟨rfl, closed_renN (fun _ => rfl), rfl, closed_renN (fun _ => rfl), trivial⟩ ?_
      case' ga4 =>
        refine Safe.ends mixed Go.Proofs.Try.func10 12 [⟨100, []⟩, ⟨200, [(1, .call [] (.tup [.sl ((255 : Nat)) ((0 : Nat)) ((5 : Nat)) (T.length) (none), .agg [I ((0 : Int)), I ((0 : Int))], I ((0 : Int))]) [(255, some (.vec ((39 : Nat)) ((5 : Nat)) (T.length) (fun q => renL [((10 : Nat), (255 : Nat))] (rowG encT T q))))])]⟩, ⟨300, [(1, .call [] (.tup [.sl ((355 : Nat)) ((0 : Nat)) ((5 : Nat)) (T.length) (none), .agg [I ((0 : Int)), I ((0 : Int))], I ((0 : Int))]) [(355, some (.vec ((39 : Nat)) ((5 : Nat)) (T.length) (fun q => renL [((10 : Nat), (355 : Nat))] (rowG encT T q))))])]⟩, ⟨400, [(13, .tt true)]⟩, ⟨500, []⟩] (r := B (false)) (hp := []) (ob := [CallOK Try.prog (15 : Nat) ([] ++ [AV.val (Value.string (str L))] ++ []) [] (AV.tup [AV.sl (255 : Nat) (0 : Nat) (5 : Nat) T.length none, AV.agg [AV.val (Value.int IntKind.i64 (0 : Int)), AV.val (Value.int IntKind.i64 (0 : Int))], AV.val (Value.int IntKind.i64 (0 : Int))]) [((255 : Nat), some (Ob.vec (39 : Nat) (5 : Nat) T.length fun q => renL [((10 : Nat), (255 : Nat))] (rowG encT T q)))], CallOK Try.prog (19 : Nat) ([] ++ [AV.val (Value.string (str L))] ++ []) [] (AV.tup [AV.sl (355 : Nat) (0 : Nat) (5 : Nat) T.length none, AV.agg [AV.val (Value.int IntKind.i64 (0 : Int)), AV.val (Value.int IntKind.i64 (0 : Int))], AV.val (Value.int IntKind.i64 (0 : Int))]) [((355 : Nat), some (Ob.vec (39 : Nat) (5 : Nat) T.length fun q => renL [((10 : Nat), (355 : Nat))] (rowG encT T q)))], (decide ¬(↑T.length : Int) = (↑T.length : Int)) = true]) rfl (by kernel_rfl) ⟨(CallOK.ren hA [(10, 255)] [10] rfl rfl rfl rfl trivial rfl ⟨rfl, fun _ => rfl, trivial⟩), (CallOK.ren hB [(10, 355)] [10] rfl rfl rfl rfl trivial rfl ⟨rfl, fun _ => rfl, trivial⟩), (decide_eq_true hc1), trivial⟩ ?_ trivial trivial rfl
      · exact absurd rfl hc1
      · exact Safe.leH (H 0 (Nat.zero_le _)) rfl (SlLe.refl _) ⟨⟨rfl, rfl, rfl, fun _ _ => rfl⟩, ⟨rfl, rfl, rfl, fun _ _ => rfl⟩, trivial⟩ rfl ⟨rfl, fun _ => rfl, rfl, fun _ => rfl, trivial⟩
set_option maxRecDepth 10000 in
set_option maxHeartbeats 8000000 in
theorem raw_any (L : List Int) (hL : Bts L) : CallOK Try.prog 3 [S (str L)] [] (B true) [] := by
  refine CallOK.intro Try.call3 Try.func3 rfl rfl trivial ?_
  have hsz := str_size L
  have hq : Bts [34] := bts_lit _
  have h1 : S ({ data := #[34] } ++ str L) = S (str (34 :: L)) := congrArg (fun x => S x) (str_app [34] L)
  have h2 : S (str (34 :: L) ++ { data := #[34] }) = S (str (34 :: L ++ [34])) := congrArg (fun x => S x) (str_app (34 :: L) [34])
  have hs1 : ByteArray.size { data := #[34] } = 1 := rfl
  have hs2 : (str (34 :: L)).size = L.length + 1 := str_size (34 :: L)
  by_cases h : ((str L).size : Int) > 400
  · skip
    refine Safe.ends mixed Go.Proofs.Try.func3 8 [⟨100, []⟩, ⟨200, [(2, .tt true)]⟩, ⟨300, [(0, .call [] (B (true)) [])]⟩] (r := B (true)) (hp := []) (ob := [decide ((↑(str L).size : Int) > (400 : Int)) = true, CallOK Try.prog (9 : Nat) ([] ++ [] ++ []) [] (AV.val (Value.bool true)) []]) rfl (by kernel_rfl) ⟨(decide_eq_true h), awake_any, trivial⟩ rfl trivial trivial rfl
  · have hA := agrees_any L hL (by omega)
    have hB := agrees_any (34 :: L ++ [34]) ((hq.app hL).app hq) (by simp; omega)
    refine Safe.ends mixed Go.Proofs.Try.func3 9 [⟨100, []⟩, ⟨200, [(2, .tt false)]⟩, ⟨300, [(1, .call [] (B (true)) []), (4, .is (S (str ((34 : Int) :: L)))), (5, .is (S (str ((34 : Int) :: L ++ [(34 : Int)])))), (6, .call [] (B (true)) []), (9, .call [] (B (true)) [])]⟩] (r := B (true)) (hp := []) (ob := [decide ((↑(str L).size : Int) > (400 : Int)) = false, CallOK Try.prog (10 : Nat) ([] ++ [AV.val (Value.string (str L))] ++ []) [] (AV.val (Value.bool true)) [], (ByteArray.mk #[(34 : UInt8)]).size + (str L).size ≤ (9223372036854775807 : Nat), AV.val (Value.string (ByteArray.mk #[(34 : UInt8)] ++ str L)) = AV.val (Value.string (str ((34 : Int) :: L))), (str ((34 : Int) :: L)).size + (ByteArray.mk #[(34 : UInt8)]).size ≤ (9223372036854775807 : Nat), AV.val (Value.string (str ((34 : Int) :: L) ++ ByteArray.mk #[(34 : UInt8)])) = AV.val (Value.string (str ((34 : Int) :: L ++ [(34 : Int)]))), CallOK Try.prog (10 : Nat) ([] ++ [AV.val (Value.string (str ((34 : Int) :: L ++ [(34 : Int)])))] ++ []) [] (AV.val (Value.bool true)) [], CallOK Try.prog (9 : Nat) ([] ++ [] ++ []) [] (AV.val (Value.bool true)) []]) rfl (by kernel_rfl) ⟨(decide_eq_false h), hA, (by first | omega | exact h1 | exact h2), (by first | omega | exact h1 | exact h2), (by first | omega | exact h1 | exact h2), (by first | omega | exact h1 | exact h2), hB, awake_any, trivial⟩ rfl trivial trivial rfl
end Go.Proofs.Ytnjidpidcmapkaa
