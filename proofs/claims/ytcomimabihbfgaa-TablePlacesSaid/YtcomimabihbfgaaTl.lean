/- Join: the program's and the reference's; Same, texts. -/
import Derived.Test.YtcomimabihbfgaaSyU
import Derived.KernelRfl
import Derived.Test.YtcomimabihbfgaaTk
namespace Go.Proofs.Ytcomimabihbfgaa
open Go.RowKit
set_option linter.unusedVariables false
set_option linter.unnecessarySimpa false
def joinR (L M : List Tg) : Nat → List Tg
  | 0 => L
  | k + 1 => joinR L M k ++ [⟨endF (joinR L M k), (getT M k).length, (getT M k).on, (getT M k).offset, (getT M k).fail⟩]
def joinF (L M : List Tg) : List Tg × Int := if checkF L ≠ 0 then ([], checkF L) else if checkF M ≠ 0 then ([], checkF M) else if L.length + M.length > 64 then ([], 4) else (joinR L M M.length, 0)
theorem joinR_len (L M : List Tg) : ∀ k, (joinR L M k).length = L.length + k
  | 0 => rfl
  | k + 1 => by simp only [joinR, List.length_append, joinR_len L M k, List.length_singleton]; omega
theorem joinR_end {L : List Tg} (M : List Tg) (hL : checkF L = 0) : ∀ k, endF (joinR L M k) = pre L L.length + pre M k
  | 0 => by rw [joinR, (tok_bd hL).2.2.1]; simp [pre]
  | k + 1 => by
    rw [joinR, endF_cat, joinR_end M hL k]
    simp only [pre]
    omega
theorem joinR_bd {L M : List Tg} (hL : checkF L = 0) (hM : checkF M = 0) (h64 : L.length + M.length ≤ 64) : ∀ k, k ≤ M.length → ∀ t ∈ joinR L M k, 0 ≤ t.start ∧ t.start ≤ 2000000000 ∧ 0 ≤ t.length ∧ t.length ≤ 2000000000
  | 0, _, t, ht => by
    have := (tok_bd hL).2.2.2.2.2.1 t ht
    omega
  | k + 1, hk, t, ht => by
    simp only [joinR, List.mem_append, List.mem_singleton] at ht
    rcases ht with ht | rfl
    · exact joinR_bd hL hM h64 k (by omega) t ht
    · have h1 := joinR_end M hL k
      have h2 := tok_bd hL
      have h3 := tok_bd hM
      have h4 := pre_bd h3.2.1 k (by omega)
      have h5 := pre_bd h2.2.1 L.length (Nat.le_refl _)
      have h6 := ck1_len (h3.2.1 k (by omega))
      dsimp only
      omega
set_option maxRecDepth 10000 in
set_option maxHeartbeats 4000000 in
theorem join_any (L M : List Tg) (hl : L.length ≤ 1000000) (hm : M.length ≤ 1000000) : CallOK Try.prog 19 [.sl 0 0 5 L.length none, .sl 1 0 5 M.length none] [(0, .ro 5 L.length (rowT L)), (1, .ro 5 M.length (rowT M))] (.tup [.sl 10 0 5 (joinF L M).1.length none, I (joinF L M).2]) [(10, some (.vec 45 5 (joinF L M).1.length (rowT (joinF L M).1)))] := by
  refine CallOK.intro Try.call19 Try.func19 rfl rfl ⟨rfl, fun _ => rfl, rfl, fun _ => rfl, trivial⟩ ?_
  refine Safe.withLoop (loopAt Try.f19 1) [0, 1, 10] 49 (fun k : Nat => [(9, .sl 10 0 5 (joinR L M k).length none), (34, .sl 1 0 5 M.length none), (35, I M.length), (36, I k)]) (fun k => [(0, .ro 5 L.length (rowT L)), (1, .ro 5 M.length (rowT M)), (10, .vec 45 5 (joinR L M k).length (rowT (joinR L M k)))]) (fun k => checkF L = 0 ∧ checkF M = 0 ∧ L.length + M.length ≤ 64 ∧ k ≤ M.length) (fun k => M.length - k) ?_ ?_
  · rintro k ⟨hv, hv2, h64, hk⟩ ih
    have hb := joinR_bd hv hv2 h64 k hk
    have hcl := joinR_len L M k
    have hF : joinF L M = (joinR L M M.length, 0) := by rw [joinF, if_neg (by omega), if_neg (by omega), if_neg (by omega)]
    refine (Classical.em ((↑k : Int) < (↑M.length : Int))).elim (fun hc1 => ?ga0) (fun hc1 => ?gb0)
    case' gb0 =>
      refine Safe.ends mixed Go.Proofs.Try.func19 7 [⟨1100, [(0, .tt false)]⟩, ⟨1200, []⟩] (r := .tup [.sl ((10 : Nat)) ((0 : Nat)) ((5 : Nat)) ((joinR L M k).length) (none), I ((0 : Int))]) (hp := [(0, .ro ((5 : Nat)) (L.length) (rowT L)), (1, .ro ((5 : Nat)) (M.length) (rowT M)), (10, .vec ((45 : Nat)) ((5 : Nat)) ((joinR L M k).length) (rowT (joinR L M k)))]) (ob := [decide ((↑k : Int) < (↑M.length : Int)) = false]) rfl (by kernel_rfl) ⟨(decide_eq_false hc1), trivial⟩ ?_ ⟨ObLe.refl _, ObLe.refl _, ?_, trivial⟩ ⟨rfl, fun _ => rfl, rfl, fun _ => rfl, rfl, fun _ => rfl, trivial⟩ rfl
    case' ga0 =>
      refine Safe.goto mixed 15 [⟨1100, [(0, .tt true)]⟩, ⟨1200, []⟩, ⟨1300, [(1, .call [10] (I (endF (joinR L M k))) [])]⟩, ⟨1400, []⟩, ⟨1500, []⟩] [9, 34, 35, 36] [0, 1, 1403] (todo' := loopAt Go.Proofs.Try.f19 1) (sl := slotsOf 49 [(9, .sl ((1403 : Nat)) ((0 : Nat)) ((5 : Nat)) (addN (joinR L M k).length (1 : Nat)) (none)), (34, .sl ((1 : Nat)) ((0 : Nat)) ((5 : Nat)) (M.length) (none)), (35, I ((↑M.length : Int))), (36, I ((↑k : Int) + (1 : Int)))]) (hp := [(0, .ro ((5 : Nat)) (L.length) (rowT L)), (1, .ro ((5 : Nat)) (M.length) (rowT M)), (1403, .vec ((45 : Nat)) ((5 : Nat)) (addN (joinR L M k).length (1 : Nat)) (catR (joinR L M k).length (rowT (joinR L M k)) (rowsOf [AV.val (Value.int IntKind.i64 (endF (joinR L M k))), AV.val (Value.int IntKind.i64 (getT M k).length), AV.val (Value.string (getT M k).on), AV.val (Value.int IntKind.i64 (getT M k).offset), AV.val (Value.bool (getT M k).fail)] (5 : Nat))))]) (ob := [decide ((↑k : Int) < (↑M.length : Int)) = true, (0 : Int) ≤ (↑k : Int) ∧ (↑k : Int) < (↑M.length : Int), k < M.length, CallOK Try.prog (36 : Nat) ([] ++ [AV.sl (10 : Nat) (0 : Nat) (5 : Nat) (joinR L M k).length none] ++ []) [((10 : Nat), Ob.vec (45 : Nat) (5 : Nat) (joinR L M k).length (rowT (joinR L M k)))] (AV.val (Value.int IntKind.i64 (endF (joinR L M k)))) [], (0 : Nat) + (1 : Nat) ≤ (1 : Nat), (joinR L M k).length = (joinR L M k).length, (joinR L M k).length + (1 : Nat) ≤ (1099511627776 : Nat), inK IntKind.i64 ((↑k : Int) + (1 : Int))]) rfl rfl (by kernel_rfl) ⟨(decide_eq_true hc1), (by first | omega | exact hb), (by first | omega | exact hb), (CallOK.ren (CallOK.own 45 0 rfl rfl rfl (end_any (joinR L M k) (by first | omega | exact hb) (by first | omega | exact hb))) [(0, 10)] [0] rfl rfl rfl rfl ⟨rfl, fun _ => rfl, trivial⟩ rfl ⟨rfl, fun _ => rfl, trivial⟩), (by first | omega | exact hb), (by first | omega | exact hb), (by first | omega | exact hb), (by simp only [inK]; first | omega | exact hb), trivial⟩ rfl ⟨rfl, fun _ => rfl, rfl, fun _ => rfl, rfl, closed_cat (fun _ => rfl) (closed_rows rfl), trivial⟩ ?_
      refine Safe.ren [(1403, 10)] rfl rfl rfl rfl ⟨rfl, fun _ => rfl, rfl, fun _ => rfl, rfl, closed_cat (fun _ => rfl) (closed_rows rfl), trivial⟩ ?_
    · skip
      have e2 : addN (joinR L M k).length 1 = (joinR L M (k + 1)).length := by rw [addN_eq, joinR_len, joinR_len]; omega
      rw [e2]
      refine Safe.leH (ih (k + 1) ⟨hv, hv2, h64, by omega⟩ (by omega)) rfl (SlLe.refl _) ⟨ObLe.refl _, ObLe.refl _, ?_, trivial⟩ rfl ⟨rfl, fun _ => rfl, rfl, fun _ => rfl, rfl, fun _ => rfl, trivial⟩
      exact ob_ren_one encT (joinR L M k) ⟨endF (joinR L M k), (getT M k).length, (getT M k).on, (getT M k).offset, (getT M k).fail⟩ _ (by rw [joinR_len, joinR_len]; omega) (fun _ => rfl) rfl
    · rw [hF, show k = M.length by omega]; rfl
    · rw [hF, show k = M.length by omega]; exact ObLe.refl _
  · intro H
    have r1 : checkF L ≠ 0 → joinF L M = ([], checkF L) := fun h => by rw [joinF, if_pos h]
    have r2 : checkF L = 0 → checkF M ≠ 0 → joinF L M = ([], checkF M) := fun h h2 => by rw [joinF, if_neg (by omega), if_pos h2]
    have r3 : checkF L = 0 → checkF M = 0 → L.length + M.length > 64 → joinF L M = ([], 4) := fun h h2 h3 => by rw [joinF, if_neg (by omega), if_neg (by omega), if_pos h3]
    refine (Classical.em (¬checkF L = (0 : Int))).elim (fun hc1 => ?ga1) (fun hc1 => ?gb1)
    case' gb1 =>
      refine (Classical.em (¬checkF M = (0 : Int))).elim (fun hc2 => ?ga2) (fun hc2 => ?gb2)
      case' gb2 =>
        refine (Classical.em ((↑L.length : Int) + (↑M.length : Int) > (64 : Int))).elim (fun hc3 => ?ga3) (fun hc3 => ?gb3)
        case' gb3 =>
          refine Safe.goto mixed 60 [⟨1100, []⟩, ⟨1200, []⟩, ⟨1300, []⟩, ⟨1400, []⟩, ⟨1500, [(1, .call [0] (I (checkF L)) [])]⟩, ⟨1600, [(1, .tt false)]⟩, ⟨1700, []⟩, ⟨1800, []⟩, ⟨1900, []⟩, ⟨2000, [(1, .call [1] (I (checkF M)) [])]⟩, ⟨2100, [(1, .tt false)]⟩, ⟨2200, []⟩, ⟨2300, []⟩, ⟨2400, [(5, .tt false)]⟩, ⟨2500, [(1, .call [0] (.sl ((2555 : Nat)) ((0 : Nat)) ((5 : Nat)) (L.length) (none)) [(2555, some (.vec ((45 : Nat)) ((5 : Nat)) (L.length) (fun q => renL [((0 : Nat), (0 : Nat)), ((10 : Nat), (2555 : Nat))] (rowG encT L q))))])]⟩, ⟨2600, []⟩] [9, 34, 35, 36] [0, 1, 2555] (todo' := loopAt Go.Proofs.Try.f19 1) (sl := slotsOf 49 [(9, .sl ((2555 : Nat)) ((0 : Nat)) ((5 : Nat)) (L.length) (none)), (34, .sl ((1 : Nat)) ((0 : Nat)) ((5 : Nat)) (M.length) (none)), (35, I ((↑M.length : Int))), (36, I ((0 : Int)))]) (hp := [(0, .ro ((5 : Nat)) (L.length) (rowT L)), (1, .ro ((5 : Nat)) (M.length) (rowT M)), (2555, .vec ((45 : Nat)) ((5 : Nat)) (L.length) (fun q => renL [((0 : Nat), (0 : Nat)), ((10 : Nat), (2555 : Nat))] (rowG encT L q)))]) (ob := [(0 : Int) ≤ (0 : Int) ∧ (0 : Int) < (↑(2 : Nat) : Int), (0 : Nat) < (2 : Nat), CallOK Try.prog (30 : Nat) ([] ++ [AV.sl (0 : Nat) (0 : Nat) (5 : Nat) L.length none] ++ []) [((0 : Nat), Ob.ro (5 : Nat) L.length (rowT L))] (AV.val (Value.int IntKind.i64 (checkF L))) [], (decide ¬checkF L = (0 : Int)) = false, inK IntKind.i64 ((0 : Int) + (1 : Int)), (0 : Int) ≤ (0 : Int) + (1 : Int) ∧ (0 : Int) + (1 : Int) < (↑(2 : Nat) : Int), (1 : Nat) < (2 : Nat), CallOK Try.prog (30 : Nat) ([] ++ [AV.sl (1 : Nat) (0 : Nat) (5 : Nat) M.length none] ++ []) [((1 : Nat), Ob.ro (5 : Nat) M.length (rowT M))] (AV.val (Value.int IntKind.i64 (checkF M))) [], (decide ¬checkF M = (0 : Int)) = false, inK IntKind.i64 ((0 : Int) + (1 : Int) + (1 : Int)), inK IntKind.i64 ((↑L.length : Int) + (↑M.length : Int)), decide ((↑L.length : Int) + (↑M.length : Int) > (64 : Int)) = false, CallOK Try.prog (39 : Nat) ([] ++ [AV.sl (0 : Nat) (0 : Nat) (5 : Nat) L.length none] ++ []) [((0 : Nat), Ob.ro (5 : Nat) L.length (rowT L))] (AV.sl (2555 : Nat) (0 : Nat) (5 : Nat) L.length none) [((2555 : Nat), some (Ob.vec (45 : Nat) (5 : Nat) L.length fun q => renL [((0 : Nat), (0 : Nat)), ((10 : Nat), (2555 : Nat))] (rowG encT L q)))]]) rfl rfl (by kernel_rfl) ⟨(by omega), (by omega), (CallOK.ren (check_any (L) (by omega)) [(0, 0)] [0] rfl rfl rfl rfl ⟨rfl, fun _ => rfl, trivial⟩ rfl ⟨rfl, fun _ => rfl, trivial⟩), (decide_eq_false hc1), (by simp only [inK]; omega), (by omega), (by omega), (CallOK.ren (check_any (M) (by omega)) [(0, 1)] [0] rfl rfl rfl rfl ⟨rfl, fun _ => rfl, trivial⟩ rfl ⟨rfl, fun _ => rfl, trivial⟩), (decide_eq_false hc2), (by simp only [inK]; omega), (by simp only [inK]; omega), (decide_eq_false hc3), (CallOK.ren (clone_any (L) (by omega)) [(0, 0), (10, 2555)] [0, 10] rfl rfl rfl rfl ⟨rfl, fun _ => rfl, trivial⟩ rfl ⟨rfl, fun _ => rfl, rfl, fun _ => rfl, trivial⟩), trivial⟩ rfl ⟨rfl, fun _ => rfl, rfl, fun _ => rfl, rfl, fun _ => rfl, trivial⟩ ?_
          refine Safe.ren [(2555, 10)] rfl rfl rfl rfl ⟨rfl, fun _ => rfl, rfl, fun _ => rfl, rfl, fun _ => rfl, trivial⟩ ?_
        case' ga3 =>
          refine Safe.gotoE mixed 54 [⟨1100, []⟩, ⟨1200, []⟩, ⟨1300, []⟩, ⟨1400, []⟩, ⟨1500, [(1, .call [0] (I (checkF L)) [])]⟩, ⟨1600, [(1, .tt false)]⟩, ⟨1700, []⟩, ⟨1800, []⟩, ⟨1900, []⟩, ⟨2000, [(1, .call [1] (I (checkF M)) [])]⟩, ⟨2100, [(1, .tt false)]⟩, ⟨2200, []⟩, ⟨2300, []⟩, ⟨2400, [(5, .tt true)]⟩, ⟨2500, []⟩] [4, 5] [0, 1] (sl := slotsOf 49 [(4, .val (Value.slice none (0 : Nat) (0 : Nat))), (5, I ((4 : Int)))]) (hp := [(0, .ro ((5 : Nat)) (L.length) (rowT L)), (1, .ro ((5 : Nat)) (M.length) (rowT M))]) (ob := [(0 : Int) ≤ (0 : Int) ∧ (0 : Int) < (↑(2 : Nat) : Int), (0 : Nat) < (2 : Nat), CallOK Try.prog (30 : Nat) ([] ++ [AV.sl (0 : Nat) (0 : Nat) (5 : Nat) L.length none] ++ []) [((0 : Nat), Ob.ro (5 : Nat) L.length (rowT L))] (AV.val (Value.int IntKind.i64 (checkF L))) [], (decide ¬checkF L = (0 : Int)) = false, inK IntKind.i64 ((0 : Int) + (1 : Int)), (0 : Int) ≤ (0 : Int) + (1 : Int) ∧ (0 : Int) + (1 : Int) < (↑(2 : Nat) : Int), (1 : Nat) < (2 : Nat), CallOK Try.prog (30 : Nat) ([] ++ [AV.sl (1 : Nat) (0 : Nat) (5 : Nat) M.length none] ++ []) [((1 : Nat), Ob.ro (5 : Nat) M.length (rowT M))] (AV.val (Value.int IntKind.i64 (checkF M))) [], (decide ¬checkF M = (0 : Int)) = false, inK IntKind.i64 ((0 : Int) + (1 : Int) + (1 : Int)), inK IntKind.i64 ((↑L.length : Int) + (↑M.length : Int)), decide ((↑L.length : Int) + (↑M.length : Int) > (64 : Int)) = true]) rfl rfl (by kernel_rfl) ⟨(by omega), (by omega), (CallOK.ren (check_any (L) (by omega)) [(0, 0)] [0] rfl rfl rfl rfl ⟨rfl, fun _ => rfl, trivial⟩ rfl ⟨rfl, fun _ => rfl, trivial⟩), (decide_eq_false hc1), (by simp only [inK]; omega), (by omega), (by omega), (CallOK.ren (check_any (M) (by omega)) [(0, 1)] [0] rfl rfl rfl rfl ⟨rfl, fun _ => rfl, trivial⟩ rfl ⟨rfl, fun _ => rfl, trivial⟩), (decide_eq_false hc2), (by simp only [inK]; omega), (by simp only [inK]; omega), (decide_eq_true hc3), trivial⟩ rfl ⟨rfl, fun _ => rfl, rfl, fun _ => rfl, trivial⟩ fun td htd => ?_
          refine Safe.nil 4 10 45 5 (fun _ => []) rfl rfl ⟨rfl, fun _ => rfl, rfl, fun _ => rfl, trivial⟩ ?_ rfl
          refine Safe.endsT Go.Proofs.Try.func19 htd (r := .tup [.sl ((10 : Nat)) ((0 : Nat)) ((5 : Nat)) ((0 : Nat)) (none), I ((4 : Int))]) (hp := [(0, .ro ((5 : Nat)) (L.length) (rowT L)), (1, .ro ((5 : Nat)) (M.length) (rowT M)), (10, .vec ((45 : Nat)) ((5 : Nat)) ((0 : Nat)) (fun q => []))]) (ob := []) rfl (by kernel_rfl) trivial ?_ ⟨ObLe.refl _, ObLe.refl _, ?_, trivial⟩ ⟨rfl, fun _ => rfl, rfl, fun _ => rfl, rfl, fun _ => rfl, trivial⟩ rfl
      case' ga2 =>
        refine Safe.gotoE mixed 41 [⟨1100, []⟩, ⟨1200, []⟩, ⟨1300, []⟩, ⟨1400, []⟩, ⟨1500, [(1, .call [0] (I (checkF L)) [])]⟩, ⟨1600, [(1, .tt false)]⟩, ⟨1700, []⟩, ⟨1800, []⟩, ⟨1900, []⟩, ⟨2000, [(1, .call [1] (I (checkF M)) [])]⟩, ⟨2100, [(1, .tt true)]⟩, ⟨2200, []⟩] [4, 5] [0, 1] (sl := slotsOf 49 [(4, .val (Value.slice none (0 : Nat) (0 : Nat))), (5, I (checkF M))]) (hp := [(0, .ro ((5 : Nat)) (L.length) (rowT L)), (1, .ro ((5 : Nat)) (M.length) (rowT M))]) (ob := [(0 : Int) ≤ (0 : Int) ∧ (0 : Int) < (↑(2 : Nat) : Int), (0 : Nat) < (2 : Nat), CallOK Try.prog (30 : Nat) ([] ++ [AV.sl (0 : Nat) (0 : Nat) (5 : Nat) L.length none] ++ []) [((0 : Nat), Ob.ro (5 : Nat) L.length (rowT L))] (AV.val (Value.int IntKind.i64 (checkF L))) [], (decide ¬checkF L = (0 : Int)) = false, inK IntKind.i64 ((0 : Int) + (1 : Int)), (0 : Int) ≤ (0 : Int) + (1 : Int) ∧ (0 : Int) + (1 : Int) < (↑(2 : Nat) : Int), (1 : Nat) < (2 : Nat), CallOK Try.prog (30 : Nat) ([] ++ [AV.sl (1 : Nat) (0 : Nat) (5 : Nat) M.length none] ++ []) [((1 : Nat), Ob.ro (5 : Nat) M.length (rowT M))] (AV.val (Value.int IntKind.i64 (checkF M))) [], (decide ¬checkF M = (0 : Int)) = true]) rfl rfl (by kernel_rfl) ⟨(by omega), (by omega), (CallOK.ren (check_any (L) (by omega)) [(0, 0)] [0] rfl rfl rfl rfl ⟨rfl, fun _ => rfl, trivial⟩ rfl ⟨rfl, fun _ => rfl, trivial⟩), (decide_eq_false hc1), (by simp only [inK]; omega), (by omega), (by omega), (CallOK.ren (check_any (M) (by omega)) [(0, 1)] [0] rfl rfl rfl rfl ⟨rfl, fun _ => rfl, trivial⟩ rfl ⟨rfl, fun _ => rfl, trivial⟩), (decide_eq_true hc2), trivial⟩ rfl ⟨rfl, fun _ => rfl, rfl, fun _ => rfl, trivial⟩ fun td htd => ?_
        refine Safe.nil 4 10 45 5 (fun _ => []) rfl rfl ⟨rfl, fun _ => rfl, rfl, fun _ => rfl, trivial⟩ ?_ rfl
        refine Safe.endsT Go.Proofs.Try.func19 htd (r := .tup [.sl ((10 : Nat)) ((0 : Nat)) ((5 : Nat)) ((0 : Nat)) (none), I (checkF M)]) (hp := [(0, .ro ((5 : Nat)) (L.length) (rowT L)), (1, .ro ((5 : Nat)) (M.length) (rowT M)), (10, .vec ((45 : Nat)) ((5 : Nat)) ((0 : Nat)) (fun q => []))]) (ob := []) rfl (by kernel_rfl) trivial ?_ ⟨ObLe.refl _, ObLe.refl _, ?_, trivial⟩ ⟨rfl, fun _ => rfl, rfl, fun _ => rfl, rfl, fun _ => rfl, trivial⟩ rfl
    case' ga1 =>
      refine Safe.gotoE mixed 23 [⟨1100, []⟩, ⟨1200, []⟩, ⟨1300, []⟩, ⟨1400, []⟩, ⟨1500, [(1, .call [0] (I (checkF L)) [])]⟩, ⟨1600, [(1, .tt true)]⟩, ⟨1700, []⟩] [4, 5] [0, 1] (sl := slotsOf 49 [(4, .val (Value.slice none (0 : Nat) (0 : Nat))), (5, I (checkF L))]) (hp := [(0, .ro ((5 : Nat)) (L.length) (rowT L)), (1, .ro ((5 : Nat)) (M.length) (rowT M))]) (ob := [(0 : Int) ≤ (0 : Int) ∧ (0 : Int) < (↑(2 : Nat) : Int), (0 : Nat) < (2 : Nat), CallOK Try.prog (30 : Nat) ([] ++ [AV.sl (0 : Nat) (0 : Nat) (5 : Nat) L.length none] ++ []) [((0 : Nat), Ob.ro (5 : Nat) L.length (rowT L))] (AV.val (Value.int IntKind.i64 (checkF L))) [], (decide ¬checkF L = (0 : Int)) = true]) rfl rfl (by kernel_rfl) ⟨(by omega), (by omega), (CallOK.ren (check_any (L) (by omega)) [(0, 0)] [0] rfl rfl rfl rfl ⟨rfl, fun _ => rfl, trivial⟩ rfl ⟨rfl, fun _ => rfl, trivial⟩), (decide_eq_true hc1), trivial⟩ rfl ⟨rfl, fun _ => rfl, rfl, fun _ => rfl, trivial⟩ fun td htd => ?_
      refine Safe.nil 4 10 45 5 (fun _ => []) rfl rfl ⟨rfl, fun _ => rfl, rfl, fun _ => rfl, trivial⟩ ?_ rfl
      refine Safe.endsT Go.Proofs.Try.func19 htd (r := .tup [.sl ((10 : Nat)) ((0 : Nat)) ((5 : Nat)) ((0 : Nat)) (none), I (checkF L)]) (hp := [(0, .ro ((5 : Nat)) (L.length) (rowT L)), (1, .ro ((5 : Nat)) (M.length) (rowT M)), (10, .vec ((45 : Nat)) ((5 : Nat)) ((0 : Nat)) (fun q => []))]) (ob := []) rfl (by kernel_rfl) trivial ?_ ⟨ObLe.refl _, ObLe.refl _, ?_, trivial⟩ ⟨rfl, fun _ => rfl, rfl, fun _ => rfl, rfl, fun _ => rfl, trivial⟩ rfl
    · rw [r1 (by omega)]; rfl
    · rw [r1 (by omega)]; exact ⟨rfl, rfl, rfl, fun q hq => by simp at hq⟩
    · rw [r2 (by omega) (by omega)]; rfl
    · rw [r2 (by omega) (by omega)]; exact ⟨rfl, rfl, rfl, fun q hq => by simp at hq⟩
    · rw [r3 (by omega) (by omega) (by omega)]; rfl
    · rw [r3 (by omega) (by omega) (by omega)]; exact ⟨rfl, rfl, rfl, fun q hq => by simp at hq⟩
    · exact Safe.leH (H 0 ⟨by omega, by omega, by omega, Nat.zero_le _⟩) rfl (SlLe.refl _) ⟨ObLe.refl _, ObLe.refl _, ⟨rfl, rfl, rfl, fun _ _ => rfl⟩, trivial⟩ rfl ⟨rfl, fun _ => rfl, rfl, fun _ => rfl, rfl, fun _ => rfl, trivial⟩
set_option maxRecDepth 10000 in
set_option maxHeartbeats 4000000 in
theorem rjoin_any (L M : List Tg) (hl : L.length ≤ 1000000) (hm : M.length ≤ 1000000) : CallOK Try.prog 29 [.sl 0 0 5 L.length none, .sl 1 0 5 M.length none] [(0, .ro 5 L.length (rowT L)), (1, .ro 5 M.length (rowT M))] (.tup [.sl 10 0 5 (joinF L M).1.length none, I (joinF L M).2]) [(10, some (.vec 45 5 (joinF L M).1.length (rowT (joinF L M).1)))] := by
  refine CallOK.intro Try.call29 Try.func29 rfl rfl ⟨rfl, fun _ => rfl, rfl, fun _ => rfl, trivial⟩ ?_
  refine Safe.withLoop (loopAt Try.f29 0) [0, 1, 11] 49 (fun k : Nat => [(1, .sl 1 0 5 M.length none), (8, .sl 11 0 5 (joinR L M k).length none), (9, I (sizeF L)), (10, I k)]) (fun k => [(0, .ro 5 L.length (rowT L)), (1, .ro 5 M.length (rowT M)), (11, .vec 45 5 (joinR L M k).length (rowT (joinR L M k)))]) (fun k => checkF L = 0 ∧ checkF M = 0 ∧ k ≤ M.length) (fun k => M.length - k) ?_ ?_
  · rintro k ⟨hv, hv2, hk⟩ ih
    have hcl := joinR_len L M k
    obtain ⟨t1, t2, t3, t4, t5, t6, t7⟩ := tok_bd hv
    obtain ⟨s1, s2, s3, s4, s5, s6, s7⟩ := tok_bd hv2
    have hs := sizeF_end hv
    have h4 := pre_bd s2 k hk
    have h6 := fun h : k < M.length => ck1_len (s2 k h)
    have hen := joinR_end M hv k
    have hF : joinF L M = if L.length + M.length > 64 then ([], 4) else (joinR L M M.length, 0) := by rw [joinF, if_neg (by omega), if_neg (by omega)]
    refine (Classical.em ((↑k : Int) < (↑M.length : Int))).elim (fun hc1 => ?ga4) (fun hc1 => ?gb4)
    case' gb4 =>
      refine (Classical.em ((↑(joinR L M k).length : Int) > (64 : Int))).elim (fun hc2 => ?ga5) (fun hc2 => ?gb5)
      case' gb5 =>
        refine Safe.gotoE mixed 12 [⟨1100, [(3, .tt false)]⟩, ⟨1200, [(2, .tt false)]⟩, ⟨1300, []⟩] [4, 5] [0, 1, 11] (sl := slotsOf 49 [(4, .sl ((11 : Nat)) ((0 : Nat)) ((5 : Nat)) ((joinR L M k).length) (none)), (5, I ((0 : Int)))]) (hp := [(0, .ro ((5 : Nat)) (L.length) (rowT L)), (1, .ro ((5 : Nat)) (M.length) (rowT M)), (11, .vec ((45 : Nat)) ((5 : Nat)) ((joinR L M k).length) (rowT (joinR L M k)))]) (ob := [decide ((↑k : Int) < (↑M.length : Int)) = false, decide ((↑(joinR L M k).length : Int) > (64 : Int)) = false]) rfl rfl (by kernel_rfl) ⟨(decide_eq_false hc1), (decide_eq_false hc2), trivial⟩ rfl ⟨rfl, fun _ => rfl, rfl, fun _ => rfl, rfl, fun _ => rfl, trivial⟩ fun td htd => ?_
        refine Safe.ren [(11, 10)] rfl rfl rfl rfl ⟨rfl, fun _ => rfl, rfl, fun _ => rfl, rfl, fun _ => rfl, trivial⟩ ?_
        refine Safe.endsT Go.Proofs.Try.func29 htd (r := .tup [.sl ((10 : Nat)) ((0 : Nat)) ((5 : Nat)) ((joinR L M k).length) (none), I ((0 : Int))]) (hp := [(0, .ro ((5 : Nat)) (L.length) (fun q => renL [((11 : Nat), (10 : Nat))] (rowT L q))), (1, .ro ((5 : Nat)) (M.length) (fun q => renL [((11 : Nat), (10 : Nat))] (rowT M q))), (10, .vec ((45 : Nat)) ((5 : Nat)) ((joinR L M k).length) (fun q => renL [((11 : Nat), (10 : Nat))] (rowT (joinR L M k) q)))]) (ob := []) rfl (by kernel_rfl) trivial ?_ ⟨⟨rfl, rfl, fun _ _ => rfl⟩, ⟨rfl, rfl, fun _ _ => rfl⟩, ?_, trivial⟩ ⟨rfl, fun _ => rfl, rfl, fun _ => rfl, rfl, fun _ => rfl, trivial⟩ rfl
      case' ga5 =>
        refine Safe.gotoE mixed 11 [⟨1100, [(3, .tt false)]⟩, ⟨1200, [(2, .tt true)]⟩, ⟨1300, []⟩] [4, 5] [0, 1] (sl := slotsOf 49 [(4, .val (Value.slice none (0 : Nat) (0 : Nat))), (5, I ((4 : Int)))]) (hp := [(0, .ro ((5 : Nat)) (L.length) (rowT L)), (1, .ro ((5 : Nat)) (M.length) (rowT M))]) (ob := [decide ((↑k : Int) < (↑M.length : Int)) = false, decide ((↑(joinR L M k).length : Int) > (64 : Int)) = true]) rfl rfl (by kernel_rfl) ⟨(decide_eq_false hc1), (decide_eq_true hc2), trivial⟩ rfl ⟨rfl, fun _ => rfl, rfl, fun _ => rfl, trivial⟩ fun td htd => ?_
        refine Safe.nil 4 10 45 5 (fun _ => []) rfl rfl ⟨rfl, fun _ => rfl, rfl, fun _ => rfl, trivial⟩ ?_ rfl
        refine Safe.endsT Go.Proofs.Try.func29 htd (r := .tup [.sl ((10 : Nat)) ((0 : Nat)) ((5 : Nat)) ((0 : Nat)) (none), I ((4 : Int))]) (hp := [(0, .ro ((5 : Nat)) (L.length) (rowT L)), (1, .ro ((5 : Nat)) (M.length) (rowT M)), (10, .vec ((45 : Nat)) ((5 : Nat)) ((0 : Nat)) (fun q => []))]) (ob := []) rfl (by kernel_rfl) trivial ?_ ⟨ObLe.refl _, ObLe.refl _, ?_, trivial⟩ ⟨rfl, fun _ => rfl, rfl, fun _ => rfl, rfl, fun _ => rfl, trivial⟩ rfl
    case' ga4 =>
      refine Safe.goto mixed 15 [⟨1100, [(3, .tt true)]⟩, ⟨1200, []⟩, ⟨1300, []⟩, ⟨1400, []⟩, ⟨1500, []⟩] [1, 8, 9, 10] [0, 1, 1403] (todo' := loopAt Go.Proofs.Try.f29 0) (sl := slotsOf 49 [(1, .sl ((1 : Nat)) ((0 : Nat)) ((5 : Nat)) (M.length) (none)), (8, .sl ((1403 : Nat)) ((0 : Nat)) ((5 : Nat)) (addN (joinR L M k).length (1 : Nat)) (none)), (9, I (sizeF L)), (10, I ((↑k : Int) + (1 : Int)))]) (hp := [(0, .ro ((5 : Nat)) (L.length) (rowT L)), (1, .ro ((5 : Nat)) (M.length) (rowT M)), (1403, .vec ((45 : Nat)) ((5 : Nat)) (addN (joinR L M k).length (1 : Nat)) (catR (joinR L M k).length (rowT (joinR L M k)) (rowsOf [AV.val (Value.int IntKind.i64 ((getT M k).start + sizeF L)), AV.val (Value.int IntKind.i64 (getT M k).length), AV.val (Value.string (getT M k).on), AV.val (Value.int IntKind.i64 (getT M k).offset), AV.val (Value.bool (getT M k).fail)] (5 : Nat))))]) (ob := [decide ((↑k : Int) < (↑M.length : Int)) = true, (0 : Int) ≤ (↑k : Int) ∧ (↑k : Int) < (↑M.length : Int), k < M.length, inK IntKind.i64 ((getT M k).start + sizeF L), (0 : Nat) + (1 : Nat) ≤ (1 : Nat), (joinR L M k).length = (joinR L M k).length, (joinR L M k).length + (1 : Nat) ≤ (1099511627776 : Nat), inK IntKind.i64 ((↑k : Int) + (1 : Int))]) rfl rfl (by kernel_rfl) ⟨(decide_eq_true hc1), (by omega), (by omega), (by simp only [inK]; omega), (by omega), (by omega), (by omega), (by simp only [inK]; omega), trivial⟩ rfl ⟨rfl, fun _ => rfl, rfl, fun _ => rfl, rfl, closed_cat (fun _ => rfl) (closed_rows rfl), trivial⟩ ?_
      refine Safe.ren [(1403, 11)] rfl rfl rfl rfl ⟨rfl, fun _ => rfl, rfl, fun _ => rfl, rfl, closed_cat (fun _ => rfl) (closed_rows rfl), trivial⟩ ?_
    · skip
      have e2 : addN (joinR L M k).length 1 = (joinR L M (k + 1)).length := by rw [addN_eq, joinR_len, joinR_len]; omega
      rw [e2]
      refine Safe.leH (ih (k + 1) ⟨hv, hv2, by omega⟩ (by omega)) rfl (SlLe.refl _) ⟨ObLe.refl _, ObLe.refl _, ?_, trivial⟩ rfl ⟨rfl, fun _ => rfl, rfl, fun _ => rfl, rfl, fun _ => rfl, trivial⟩
      have hst : (getT M k).start + sizeF L = endF (joinR L M k) := by have := h6 (by omega); omega
      rw [hst]
      exact ob_ren_one encT (joinR L M k) ⟨endF (joinR L M k), (getT M k).length, (getT M k).on, (getT M k).offset, (getT M k).fail⟩ _ (by rw [joinR_len, joinR_len]; omega) (fun _ => rfl) rfl
    · rw [hF, if_pos (by omega)]; rfl
    · rw [hF, if_pos (by omega)]; exact ⟨rfl, rfl, rfl, fun q hq => by simp at hq⟩
    · rw [hF, if_neg (by omega), show k = M.length by omega]; rfl
    · rw [hF, if_neg (by omega), show k = M.length by omega]; exact ⟨rfl, rfl, rfl, fun _ _ => rfl⟩
  · intro H
    have r1 : checkF L ≠ 0 → joinF L M = ([], checkF L) := fun h => by rw [joinF, if_pos h]
    have r2 : checkF L = 0 → checkF M ≠ 0 → joinF L M = ([], checkF M) := fun h h2 => by rw [joinF, if_neg (by omega), if_pos h2]
    refine (Classical.em (¬checkF L = (0 : Int))).elim (fun hc1 => ?ga6) (fun hc1 => ?gb6)
    case' gb6 =>
      refine (Classical.em (¬checkF M = (0 : Int))).elim (fun hc2 => ?ga7) (fun hc2 => ?gb7)
      case' gb7 =>
        refine Safe.goto mixed 25 [⟨1100, []⟩, ⟨1200, [(1, .call [0] (I (checkF L)) [])]⟩, ⟨1300, [(1, .tt false)]⟩, ⟨1400, [(1, .call [1] (I (checkF M)) [])]⟩, ⟨1500, [(1, .tt false)]⟩, ⟨1600, []⟩, ⟨1700, [(1, .call [0] (I (sizeF L)) [])]⟩, ⟨1800, []⟩] [1, 8, 9, 10] [0, 1, 1601] (todo' := loopAt Go.Proofs.Try.f29 0) (sl := slotsOf 49 [(1, .sl ((1 : Nat)) ((0 : Nat)) ((5 : Nat)) (M.length) (none)), (8, .sl ((1601 : Nat)) ((0 : Nat)) ((5 : Nat)) (L.length) (none)), (9, I (sizeF L)), (10, I ((0 : Int)))]) (hp := [(0, .ro ((5 : Nat)) (L.length) (rowT L)), (1, .ro ((5 : Nat)) (M.length) (rowT M)), (1601, .vec ((45 : Nat)) ((5 : Nat)) (L.length) (rowT L))]) (ob := [CallOK Try.prog (13 : Nat) ([] ++ [AV.sl (0 : Nat) (0 : Nat) (5 : Nat) L.length none] ++ []) [((0 : Nat), Ob.ro (5 : Nat) L.length (rowT L))] (AV.val (Value.int IntKind.i64 (checkF L))) [], (decide ¬checkF L = (0 : Int)) = false, CallOK Try.prog (13 : Nat) ([] ++ [AV.sl (1 : Nat) (0 : Nat) (5 : Nat) M.length none] ++ []) [((1 : Nat), Ob.ro (5 : Nat) M.length (rowT M))] (AV.val (Value.int IntKind.i64 (checkF M))) [], (decide ¬checkF M = (0 : Int)) = false, (0 : Nat) + L.length ≤ L.length, L.length ≤ (1099511627776 : Nat), CallOK Try.prog (14 : Nat) ([] ++ [AV.sl (0 : Nat) (0 : Nat) (5 : Nat) L.length none] ++ []) [((0 : Nat), Ob.ro (5 : Nat) L.length (rowT L))] (AV.val (Value.int IntKind.i64 (sizeF L))) []]) rfl rfl (by kernel_rfl) ⟨(CallOK.ren (rcheck_any (L) (by omega)) [(0, 0)] [0] rfl rfl rfl rfl ⟨rfl, fun _ => rfl, trivial⟩ rfl ⟨rfl, fun _ => rfl, trivial⟩), (decide_eq_false hc1), (CallOK.ren (rcheck_any (M) (by omega)) [(0, 1)] [0] rfl rfl rfl rfl ⟨rfl, fun _ => rfl, trivial⟩ rfl ⟨rfl, fun _ => rfl, trivial⟩), (decide_eq_false hc2), (by omega), (by omega), (CallOK.ren (rsize_any (L) (by omega)) [(0, 0)] [0] rfl rfl rfl rfl ⟨rfl, fun _ => rfl, trivial⟩ rfl ⟨rfl, fun _ => rfl, trivial⟩), trivial⟩ rfl ⟨rfl, fun _ => rfl, rfl, fun _ => rfl, rfl, fun _ => rfl, trivial⟩ ?_
        refine Safe.ren [(1601, 11)] rfl rfl rfl rfl ⟨rfl, fun _ => rfl, rfl, fun _ => rfl, rfl, fun _ => rfl, trivial⟩ ?_
      case' ga7 =>
        refine Safe.gotoE mixed 17 [⟨1100, []⟩, ⟨1200, [(1, .call [0] (I (checkF L)) [])]⟩, ⟨1300, [(1, .tt false)]⟩, ⟨1400, [(1, .call [1] (I (checkF M)) [])]⟩, ⟨1500, [(1, .tt true)]⟩, ⟨1600, []⟩] [4, 5] [0, 1] (sl := slotsOf 49 [(4, .val (Value.slice none (0 : Nat) (0 : Nat))), (5, I (checkF M))]) (hp := [(0, .ro ((5 : Nat)) (L.length) (rowT L)), (1, .ro ((5 : Nat)) (M.length) (rowT M))]) (ob := [CallOK Try.prog (13 : Nat) ([] ++ [AV.sl (0 : Nat) (0 : Nat) (5 : Nat) L.length none] ++ []) [((0 : Nat), Ob.ro (5 : Nat) L.length (rowT L))] (AV.val (Value.int IntKind.i64 (checkF L))) [], (decide ¬checkF L = (0 : Int)) = false, CallOK Try.prog (13 : Nat) ([] ++ [AV.sl (1 : Nat) (0 : Nat) (5 : Nat) M.length none] ++ []) [((1 : Nat), Ob.ro (5 : Nat) M.length (rowT M))] (AV.val (Value.int IntKind.i64 (checkF M))) [], (decide ¬checkF M = (0 : Int)) = true]) rfl rfl (by kernel_rfl) ⟨(CallOK.ren (rcheck_any (L) (by omega)) [(0, 0)] [0] rfl rfl rfl rfl ⟨rfl, fun _ => rfl, trivial⟩ rfl ⟨rfl, fun _ => rfl, trivial⟩), (decide_eq_false hc1), (CallOK.ren (rcheck_any (M) (by omega)) [(0, 1)] [0] rfl rfl rfl rfl ⟨rfl, fun _ => rfl, trivial⟩ rfl ⟨rfl, fun _ => rfl, trivial⟩), (decide_eq_true hc2), trivial⟩ rfl ⟨rfl, fun _ => rfl, rfl, fun _ => rfl, trivial⟩ fun td htd => ?_
        refine Safe.nil 4 10 45 5 (fun _ => []) rfl rfl ⟨rfl, fun _ => rfl, rfl, fun _ => rfl, trivial⟩ ?_ rfl
        refine Safe.endsT Go.Proofs.Try.func29 htd (r := .tup [.sl ((10 : Nat)) ((0 : Nat)) ((5 : Nat)) ((0 : Nat)) (none), I (checkF M)]) (hp := [(0, .ro ((5 : Nat)) (L.length) (rowT L)), (1, .ro ((5 : Nat)) (M.length) (rowT M)), (10, .vec ((45 : Nat)) ((5 : Nat)) ((0 : Nat)) (fun q => []))]) (ob := []) rfl (by kernel_rfl) trivial ?_ ⟨ObLe.refl _, ObLe.refl _, ?_, trivial⟩ ⟨rfl, fun _ => rfl, rfl, fun _ => rfl, rfl, fun _ => rfl, trivial⟩ rfl
    case' ga6 =>
      refine Safe.gotoE mixed 10 [⟨1100, []⟩, ⟨1200, [(1, .call [0] (I (checkF L)) [])]⟩, ⟨1300, [(1, .tt true)]⟩, ⟨1400, []⟩] [4, 5] [0, 1] (sl := slotsOf 49 [(4, .val (Value.slice none (0 : Nat) (0 : Nat))), (5, I (checkF L))]) (hp := [(0, .ro ((5 : Nat)) (L.length) (rowT L)), (1, .ro ((5 : Nat)) (M.length) (rowT M))]) (ob := [CallOK Try.prog (13 : Nat) ([] ++ [AV.sl (0 : Nat) (0 : Nat) (5 : Nat) L.length none] ++ []) [((0 : Nat), Ob.ro (5 : Nat) L.length (rowT L))] (AV.val (Value.int IntKind.i64 (checkF L))) [], (decide ¬checkF L = (0 : Int)) = true]) rfl rfl (by kernel_rfl) ⟨(CallOK.ren (rcheck_any (L) (by omega)) [(0, 0)] [0] rfl rfl rfl rfl ⟨rfl, fun _ => rfl, trivial⟩ rfl ⟨rfl, fun _ => rfl, trivial⟩), (decide_eq_true hc1), trivial⟩ rfl ⟨rfl, fun _ => rfl, rfl, fun _ => rfl, trivial⟩ fun td htd => ?_
      refine Safe.nil 4 10 45 5 (fun _ => []) rfl rfl ⟨rfl, fun _ => rfl, rfl, fun _ => rfl, trivial⟩ ?_ rfl
      refine Safe.endsT Go.Proofs.Try.func29 htd (r := .tup [.sl ((10 : Nat)) ((0 : Nat)) ((5 : Nat)) ((0 : Nat)) (none), I (checkF L)]) (hp := [(0, .ro ((5 : Nat)) (L.length) (rowT L)), (1, .ro ((5 : Nat)) (M.length) (rowT M)), (10, .vec ((45 : Nat)) ((5 : Nat)) ((0 : Nat)) (fun q => []))]) (ob := []) rfl (by kernel_rfl) trivial ?_ ⟨ObLe.refl _, ObLe.refl _, ?_, trivial⟩ ⟨rfl, fun _ => rfl, rfl, fun _ => rfl, rfl, fun _ => rfl, trivial⟩ rfl
    · rw [r1 (by omega)]; rfl
    · rw [r1 (by omega)]; exact ⟨rfl, rfl, rfl, fun q hq => by simp at hq⟩
    · rw [r2 (by omega) (by omega)]; rfl
    · rw [r2 (by omega) (by omega)]; exact ⟨rfl, rfl, rfl, fun q hq => by simp at hq⟩
    · exact Safe.leH (H 0 ⟨by omega, by omega, Nat.zero_le _⟩) rfl (SlLe.refl _) ⟨ObLe.refl _, ObLe.refl _, ⟨rfl, rfl, rfl, fun _ _ => rfl⟩, trivial⟩ rfl ⟨rfl, fun _ => rfl, rfl, fun _ => rfl, rfl, fun _ => rfl, trivial⟩
set_option maxRecDepth 10000 in
set_option maxHeartbeats 4000000 in
theorem same_any (L : List Tg) (hl : L.length ≤ 1000000) : CallOK Try.prog 22 [.sl 0 0 5 L.length none, .sl 1 0 5 L.length none] [(0, .ro 5 L.length (rowT L)), (1, .ro 5 L.length (rowT L))] (B true) [] := by
  refine CallOK.intro Try.call22 Try.func22 rfl rfl ⟨rfl, fun _ => rfl, rfl, fun _ => rfl, trivial⟩ ?_
  refine Safe.withLoop (loopAt Try.f22 0) [0, 1] 26 (fun k : Nat => [(0, .sl 0 0 5 L.length none), (1, .sl 1 0 5 L.length none), (5, I k)]) (fun k => [(0, .ro 5 L.length (rowT L)), (1, .ro 5 L.length (rowT L))]) (fun k => k ≤ L.length) (fun k => L.length - k) ?_ ?_
  · rintro k hk ih
    refine (Classical.em ((↑k : Int) < (↑L.length : Int))).elim (fun hc1 => ?ga8) (fun hc1 => ?gb8)
    case' gb8 =>
      refine Safe.ends mixed Go.Proofs.Try.func22 7 [⟨1100, [(3, .tt false)]⟩, ⟨1200, []⟩] (r := B (true)) (hp := [(0, .ro ((5 : Nat)) (L.length) (rowT L)), (1, .ro ((5 : Nat)) (L.length) (rowT L))]) (ob := [decide ((↑k : Int) < (↑L.length : Int)) = false]) rfl (by kernel_rfl) ⟨(decide_eq_false hc1), trivial⟩ rfl ⟨ObLe.refl _, ObLe.refl _, trivial⟩ ⟨rfl, fun _ => rfl, rfl, fun _ => rfl, trivial⟩ rfl
    case' ga8 =>
      refine (Classical.em ((!(decide ((getT L k).start = (getT L k).start) && (decide ((getT L k).length = (getT L k).length) && (decide ((getT L k).on = (getT L k).on) && (decide ((getT L k).offset = (getT L k).offset) && ((getT L k).fail == (getT L k).fail && true)))))) = true)).elim (fun hc2 => ?ga9) (fun hc2 => ?gb9)
      case' gb9 =>
        refine Safe.goto mixed 14 [⟨1100, [(3, .tt true)]⟩, ⟨1200, [(8, .tt false)]⟩, ⟨1300, []⟩] [0, 1, 5] [0, 1] (todo' := loopAt Go.Proofs.Try.f22 0) (sl := slotsOf 26 [(0, .sl ((0 : Nat)) ((0 : Nat)) ((5 : Nat)) (L.length) (none)), (1, .sl ((1 : Nat)) ((0 : Nat)) ((5 : Nat)) (L.length) (none)), (5, I ((↑k : Int) + (1 : Int)))]) (hp := [(0, .ro ((5 : Nat)) (L.length) (rowT L)), (1, .ro ((5 : Nat)) (L.length) (rowT L))]) (ob := [decide ((↑k : Int) < (↑L.length : Int)) = true, (0 : Int) ≤ (↑k : Int) ∧ (↑k : Int) < (↑L.length : Int), k < L.length, (0 : Int) ≤ (↑k : Int) ∧ (↑k : Int) < (↑L.length : Int), k < L.length, (!(decide ((getT L k).start = (getT L k).start) && (decide ((getT L k).length = (getT L k).length) && (decide ((getT L k).on = (getT L k).on) && (decide ((getT L k).offset = (getT L k).offset) && ((getT L k).fail == (getT L k).fail && true)))))) = false, inK IntKind.i64 ((↑k : Int) + (1 : Int))]) rfl rfl (by kernel_rfl) ⟨(decide_eq_true hc1), (by omega), (by omega), (by omega), (by omega), (by simpa using hc2), (by simp only [inK]; omega), trivial⟩ rfl ⟨rfl, fun _ => rfl, rfl, fun _ => rfl, trivial⟩ ?_
      case' ga9 =>
        refine Safe.ends mixed Go.Proofs.Try.func22 12 [⟨1100, [(3, .tt true)]⟩, ⟨1200, [(8, .tt true)]⟩, ⟨1300, []⟩] (r := B (false)) (hp := [(0, .ro ((5 : Nat)) (L.length) (rowT L)), (1, .ro ((5 : Nat)) (L.length) (rowT L))]) (ob := [decide ((↑k : Int) < (↑L.length : Int)) = true, (0 : Int) ≤ (↑k : Int) ∧ (↑k : Int) < (↑L.length : Int), k < L.length, (0 : Int) ≤ (↑k : Int) ∧ (↑k : Int) < (↑L.length : Int), k < L.length, (!(decide ((getT L k).start = (getT L k).start) && (decide ((getT L k).length = (getT L k).length) && (decide ((getT L k).on = (getT L k).on) && (decide ((getT L k).offset = (getT L k).offset) && ((getT L k).fail == (getT L k).fail && true)))))) = true]) rfl (by kernel_rfl) ⟨(decide_eq_true hc1), (by omega), (by omega), (by omega), (by omega), hc2, trivial⟩ ?_ ⟨ObLe.refl _, ObLe.refl _, trivial⟩ ⟨rfl, fun _ => rfl, rfl, fun _ => rfl, trivial⟩ rfl
    · exact absurd hc2 (by simp)
    · exact ih (k + 1) (by omega) (by omega)
  · intro H
    refine (Classical.em (¬(↑L.length : Int) = (↑L.length : Int))).elim (fun hc1 => ?ga10) (fun hc1 => ?gb10)
    case' gb10 =>
      refine Safe.goto mixed 12 [⟨1100, []⟩, ⟨1200, [(4, .tt false)]⟩, ⟨1300, []⟩] [0, 1, 5] [0, 1] (todo' := loopAt Go.Proofs.Try.f22 0) (sl := slotsOf 26 [(0, .sl ((0 : Nat)) ((0 : Nat)) ((5 : Nat)) (L.length) (none)), (1, .sl ((1 : Nat)) ((0 : Nat)) ((5 : Nat)) (L.length) (none)), (5, I ((0 : Int)))]) (hp := [(0, .ro ((5 : Nat)) (L.length) (rowT L)), (1, .ro ((5 : Nat)) (L.length) (rowT L))]) (ob := [(decide ¬(↑L.length : Int) = (↑L.length : Int)) = false]) rfl rfl (by kernel_rfl) ⟨(decide_eq_false hc1), trivial⟩ rfl ⟨rfl, fun _ => rfl, rfl, fun _ => rfl, trivial⟩ ?_
    case' ga10 =>
      refine Safe.ends mixed Go.Proofs.Try.func22 8 [⟨1100, []⟩, ⟨1200, [(4, .tt true)]⟩, ⟨1300, []⟩] (r := B (false)) (hp := [(0, .ro ((5 : Nat)) (L.length) (rowT L)), (1, .ro ((5 : Nat)) (L.length) (rowT L))]) (ob := [(decide ¬(↑L.length : Int) = (↑L.length : Int)) = true]) rfl (by kernel_rfl) ⟨(decide_eq_true hc1), trivial⟩ ?_ ⟨ObLe.refl _, ObLe.refl _, trivial⟩ ⟨rfl, fun _ => rfl, rfl, fun _ => rfl, trivial⟩ rfl
    · exact absurd rfl hc1
    · exact H 0 (Nat.zero_le _)
set_option maxRecDepth 10000 in
set_option maxHeartbeats 4000000 in
theorem texts_any (L : List ByteArray) (hl : L.length ≤ 1000000) : CallOK Try.prog 31 [.sl 0 0 1 L.length none, .sl 1 0 1 L.length none] [(0, .ro 1 L.length (rowG encS L)), (1, .ro 1 L.length (rowG encS L))] (B true) [] := by
  refine CallOK.intro Try.call31 Try.func31 rfl rfl ⟨rfl, fun _ => rfl, rfl, fun _ => rfl, trivial⟩ ?_
  refine Safe.withLoop (loopAt Try.f31 0) [0, 1] 26 (fun k : Nat => [(0, .sl 0 0 1 L.length none), (1, .sl 1 0 1 L.length none), (5, I k)]) (fun k => [(0, .ro 1 L.length (rowG encS L)), (1, .ro 1 L.length (rowG encS L))]) (fun k => k ≤ L.length) (fun k => L.length - k) ?_ ?_
  · rintro k hk ih
    refine (Classical.em ((↑k : Int) < (↑L.length : Int))).elim (fun hc1 => ?ga11) (fun hc1 => ?gb11)
    case' gb11 =>
      refine Safe.ends mixed Go.Proofs.Try.func31 7 [⟨1100, [(3, .tt false)]⟩, ⟨1200, []⟩] (r := B (true)) (hp := [(0, .ro ((1 : Nat)) (L.length) (rowG encS L)), (1, .ro ((1 : Nat)) (L.length) (rowG encS L))]) (ob := [decide ((↑k : Int) < (↑L.length : Int)) = false]) rfl (by kernel_rfl) ⟨(decide_eq_false hc1), trivial⟩ rfl ⟨ObLe.refl _, ObLe.refl _, trivial⟩ ⟨rfl, fun _ => rfl, rfl, fun _ => rfl, trivial⟩ rfl
    case' ga11 =>
      refine (Classical.em (¬L.getD k default = L.getD k default)).elim (fun hc2 => ?ga12) (fun hc2 => ?gb12)
      case' gb12 =>
        refine Safe.goto mixed 14 [⟨1100, [(3, .tt true)]⟩, ⟨1200, [(8, .tt false)]⟩, ⟨1300, []⟩] [0, 1, 5] [0, 1] (todo' := loopAt Go.Proofs.Try.f31 0) (sl := slotsOf 26 [(0, .sl ((0 : Nat)) ((0 : Nat)) ((1 : Nat)) (L.length) (none)), (1, .sl ((1 : Nat)) ((0 : Nat)) ((1 : Nat)) (L.length) (none)), (5, I ((↑k : Int) + (1 : Int)))]) (hp := [(0, .ro ((1 : Nat)) (L.length) (rowG encS L)), (1, .ro ((1 : Nat)) (L.length) (rowG encS L))]) (ob := [decide ((↑k : Int) < (↑L.length : Int)) = true, (0 : Int) ≤ (↑k : Int) ∧ (↑k : Int) < (↑L.length : Int), k < L.length, (0 : Int) ≤ (↑k : Int) ∧ (↑k : Int) < (↑L.length : Int), k < L.length, (decide ¬L.getD k default = L.getD k default) = false, inK IntKind.i64 ((↑k : Int) + (1 : Int))]) rfl rfl (by kernel_rfl) ⟨(decide_eq_true hc1), (by omega), (by omega), (by omega), (by omega), (decide_eq_false hc2), (by simp only [inK]; omega), trivial⟩ rfl ⟨rfl, fun _ => rfl, rfl, fun _ => rfl, trivial⟩ ?_
      case' ga12 =>
        refine Safe.ends mixed Go.Proofs.Try.func31 12 [⟨1100, [(3, .tt true)]⟩, ⟨1200, [(8, .tt true)]⟩, ⟨1300, []⟩] (r := B (false)) (hp := [(0, .ro ((1 : Nat)) (L.length) (rowG encS L)), (1, .ro ((1 : Nat)) (L.length) (rowG encS L))]) (ob := [decide ((↑k : Int) < (↑L.length : Int)) = true, (0 : Int) ≤ (↑k : Int) ∧ (↑k : Int) < (↑L.length : Int), k < L.length, (0 : Int) ≤ (↑k : Int) ∧ (↑k : Int) < (↑L.length : Int), k < L.length, (decide ¬L.getD k default = L.getD k default) = true]) rfl (by kernel_rfl) ⟨(decide_eq_true hc1), (by omega), (by omega), (by omega), (by omega), (decide_eq_true hc2), trivial⟩ ?_ ⟨ObLe.refl _, ObLe.refl _, trivial⟩ ⟨rfl, fun _ => rfl, rfl, fun _ => rfl, trivial⟩ rfl
    · exact absurd hc2 (by simp)
    · exact ih (k + 1) (by omega) (by omega)
  · intro H
    refine (Classical.em (¬(↑L.length : Int) = (↑L.length : Int))).elim (fun hc1 => ?ga13) (fun hc1 => ?gb13)
    case' gb13 =>
      refine Safe.goto mixed 12 [⟨1100, []⟩, ⟨1200, [(4, .tt false)]⟩, ⟨1300, []⟩] [0, 1, 5] [0, 1] (todo' := loopAt Go.Proofs.Try.f31 0) (sl := slotsOf 26 [(0, .sl ((0 : Nat)) ((0 : Nat)) ((1 : Nat)) (L.length) (none)), (1, .sl ((1 : Nat)) ((0 : Nat)) ((1 : Nat)) (L.length) (none)), (5, I ((0 : Int)))]) (hp := [(0, .ro ((1 : Nat)) (L.length) (rowG encS L)), (1, .ro ((1 : Nat)) (L.length) (rowG encS L))]) (ob := [(decide ¬(↑L.length : Int) = (↑L.length : Int)) = false]) rfl rfl (by kernel_rfl) ⟨(decide_eq_false hc1), trivial⟩ rfl ⟨rfl, fun _ => rfl, rfl, fun _ => rfl, trivial⟩ ?_
    case' ga13 =>
      refine Safe.ends mixed Go.Proofs.Try.func31 8 [⟨1100, []⟩, ⟨1200, [(4, .tt true)]⟩, ⟨1300, []⟩] (r := B (false)) (hp := [(0, .ro ((1 : Nat)) (L.length) (rowG encS L)), (1, .ro ((1 : Nat)) (L.length) (rowG encS L))]) (ob := [(decide ¬(↑L.length : Int) = (↑L.length : Int)) = true]) rfl (by kernel_rfl) ⟨(decide_eq_true hc1), trivial⟩ ?_ ⟨ObLe.refl _, ObLe.refl _, trivial⟩ ⟨rfl, fun _ => rfl, rfl, fun _ => rfl, trivial⟩ rfl
    · exact absurd rfl hc1
    · exact H 0 (Nat.zero_le _)
end Go.Proofs.Ytcomimabihbfgaa
