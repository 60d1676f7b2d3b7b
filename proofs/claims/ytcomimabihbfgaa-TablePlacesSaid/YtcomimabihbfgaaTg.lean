/- Split. -/
import Derived.Test.YtcomimabihbfgaaSyU
import Derived.KernelRfl
import Derived.Test.YtcomimabihbfgaaTf
namespace Go.Proofs.Ytcomimabihbfgaa
open Go.RowKit
set_option linter.unusedVariables false
/-- a piece -/
structure Pc where
  target : Int
  at' : Int
  length : Int
instance : Inhabited Pc := ⟨⟨0, 0, 0⟩⟩
def encP (p : Pc) : List AV := [I p.target, I p.at', I p.length]
def getP (l : List Pc) (q : Nat) : Pc := l.getD q default
/-- the piece of n sectors from a on that lies in a target -/
def pc (t : Tg) (i : Nat) (a n : Int) : List Pc := if max a t.start < min (a + n) (t.start + t.length) then [⟨i, max a t.start - t.start, min (a + n) (t.start + t.length) - max a t.start⟩] else []
def splR (L : List Tg) (a n : Int) : Nat → List Pc
  | 0 => []
  | k + 1 => splR L a n k ++ pc (getT L k) k a n
def splitF (L : List Tg) (a n : Int) : List Pc × Int := if checkF L ≠ 0 then ([], checkF L) else if n < 0 ∨ a < 0 ∨ a > endF L ∨ n > endF L - a then ([], 1) else (splR L a n L.length, 0)
theorem splR_tail (L : List Tg) (a n : Int) (j : Nat) : ∀ d, (∀ i, j ≤ i → i < j + d → pc (getT L i) i a n = []) → splR L a n (j + d) = splR L a n j
  | 0, _ => rfl
  | d + 1, h => by
    rw [show j + (d + 1) = (j + d) + 1 by omega]
    simp only [splR]
    rw [h (j + d) (by omega) (by omega), List.append_nil]
    exact splR_tail L a n j d fun i h1 h2 => h i h1 (by omega)
theorem splR_nil (L : List Tg) (a n : Int) (j : Nat) (h : ∀ i, i < j → pc (getT L i) i a n = []) : splR L a n j = [] := by
  have := splR_tail L a n 0 j (fun i _ h2 => h i (by omega))
  rw [Nat.zero_add] at this
  exact this
theorem splR_len (L : List Tg) (a n : Int) : ∀ k, (splR L a n k).length ≤ k
  | 0 => Nat.le_refl _
  | k + 1 => by
    have := splR_len L a n k
    simp only [splR, List.length_append]
    have : (pc (getT L k) k a n).length ≤ 1 := by unfold pc; split <;> simp
    omega
theorem fnd_uniq {L : List Tg} (h : TOK L) {at' : Int} {r : Nat} (hr : r ≤ L.length) (hs : ∀ k, k < L.length → (at' < te L k ↔ r ≤ k)) : fnd L at' = r := by
  have g := fnd_spec h at'
  rcases Nat.lt_trichotomy (fnd L at') r with h1 | h1 | h1
  · have a1 := g.2 (fnd L at') (by omega)
    have a2 := hs (fnd L at') (by omega)
    omega
  · exact h1
  · have a1 := g.2 r (by omega)
    have a2 := hs r (by omega)
    omega
theorem fnd_lt {L : List Tg} (h : TOK L) {at' : Int} (h0 : 0 ≤ at') (h1 : at' < pre L L.length) : fnd L at' < L.length ∧ pre L (fnd L at') ≤ at' ∧ at' < pre L (fnd L at' + 1) := by
  have g := fnd_spec h at'
  have hlen : L.length ≠ 0 := fun e => by rw [e] at h1; simp [pre] at h1; omega
  have g7 : fnd L at' < L.length := by
    rcases Nat.lt_or_ge (fnd L at') L.length with h | h2
    · exact h
    · have h8 := (g.2 (L.length - 1) (by omega)).1 (by rw [te_pre h _ (by omega), show L.length - 1 + 1 = L.length by omega]; omega)
      omega
  refine ⟨g7, ?_, ?_⟩
  · cases hf : fnd L at' with
    | zero => simpa [pre] using h0
    | succ k =>
      have := g.2 k (by omega)
      rw [te_pre h k (by omega)] at this
      omega
  · have := (g.2 _ g7).2 (Nat.le_refl _)
    rw [te_pre h _ g7] at this
    exact this
theorem split_step {L : List Tg} (h : TOK L) {a n a' n' : Int} (hn : 0 < n') (ha0 : 0 ≤ a) (ha : a ≤ a') (hs : a' + n' = a + n) (hl : a + n ≤ pre L L.length) (hc : a' = a ∨ a' = pre L (fnd L a')) :
    fnd L a' < L.length ∧ (getT L (fnd L a')).start ≤ a' ∧ a' < (getT L (fnd L a')).start + (getT L (fnd L a')).length ∧ (getT L (fnd L a')).start = pre L (fnd L a') ∧ 0 ≤ pre L (fnd L a') ∧ 
    pc (getT L (fnd L a')) (fnd L a') a n = [⟨fnd L a', a' - (getT L (fnd L a')).start, min ((getT L (fnd L a')).length - (a' - (getT L (fnd L a')).start)) n'⟩] ∧
    (min ((getT L (fnd L a')).length - (a' - (getT L (fnd L a')).start)) n' = n' → splR L a n L.length = splR L a n (fnd L a' + 1)) ∧
    (min ((getT L (fnd L a')).length - (a' - (getT L (fnd L a')).start)) n' < n' → fnd L (a' + min ((getT L (fnd L a')).length - (a' - (getT L (fnd L a')).start)) n') = fnd L a' + 1 ∧ a' + min ((getT L (fnd L a')).length - (a' - (getT L (fnd L a')).start)) n' = pre L (fnd L a' + 1)) := by
  obtain ⟨h1, h2, h3⟩ := fnd_lt h (at' := a') (by omega) (by omega)
  generalize hj : fnd L a' = j at *
  have h4 := ck1_len (h j h1)
  have h5 : pre L (j + 1) = pre L j + (getT L j).length := rfl
  have h6 := pre_bd h j (by omega)
  refine ⟨h1, by omega, by omega, h4.2.2, h6.1, ?_, fun hm => ?_, fun hm => ?_⟩
  · unfold pc
    have e1 : max a (getT L j).start = a' := by omega
    rw [e1, if_pos (by omega)]
    congr 2
    omega
  · have := splR_tail L a n (j + 1) (L.length - (j + 1)) fun i g1 g2 => by
      have g3 := ck1_len (h i (by omega))
      have g4 := pre_mono h (j + 1) (i - (j + 1)) (by omega)
      rw [show j + 1 + (i - (j + 1)) = i by omega] at g4
      unfold pc
      rw [if_neg (by omega)]
    rw [show j + 1 + (L.length - (j + 1)) = L.length by omega] at this
    exact this
  · have e : a' + min ((getT L j).length - (a' - (getT L j).start)) n' = pre L (j + 1) := by omega
    refine ⟨fnd_uniq h (by omega) fun k hk => ?_, e⟩
    rw [e, te_pre h k hk]
    rcases Nat.lt_or_ge k (j + 1) with g | g
    · have := pre_mono h (k + 1) (j + 1 - (k + 1)) (by omega)
      rw [show k + 1 + (j + 1 - (k + 1)) = j + 1 by omega] at this
      omega
    · have := pre_mono h (j + 1) (k + 1 - (j + 1)) (by omega)
      rw [show j + 1 + (k + 1 - (j + 1)) = k + 1 by omega] at this
      omega
theorem split_first {L : List Tg} (h : TOK L) {a n : Int} (ha0 : 0 ≤ a) (hn : 0 ≤ n) (hl : a + n ≤ pre L L.length) : splR L a n (fnd L a) = [] ∧ (n = 0 → splR L a n L.length = []) := by
  constructor
  · refine splR_nil L a n _ fun i hi => ?_
    have g := fnd_spec h a
    have g2 := g.2 i (by omega)
    rw [te_pre h i (by omega)] at g2
    have g3 := ck1_len (h i (by omega))
    have g5 : pre L (i + 1) = pre L i + (getT L i).length := rfl
    unfold pc
    rw [if_neg (by omega)]
  · intro h0
    refine splR_nil L a n _ fun i hi => ?_
    unfold pc
    rw [if_neg (by omega)]
theorem tok_bd {L : List Tg} (h : checkF L = 0) : L.length ≤ 64 ∧ TOK L ∧ endF L = pre L L.length ∧ 0 ≤ pre L L.length ∧ pre L L.length ≤ 1073741824 ∧ (∀ t ∈ L, 0 ≤ t.start ∧ t.start ≤ 2000000000 ∧ 0 ≤ t.length ∧ t.length ≤ 2000000000) ∧ (∀ k, k < L.length → -9223372036854775808 ≤ te L k ∧ te L k ≤ 9223372036854775807) := by
  obtain ⟨h2, h3⟩ := (check_iff L).1 h
  have h6 := pre_bd h3 L.length (Nat.le_refl _)
  refine ⟨h2, h3, end_pre h3, h6.1, by omega, fun t ht => ?_, fun k hk => ?_⟩
  · obtain ⟨k, hk, rfl⟩ := List.getElem_of_mem ht
    have h4 := ck1_len (h3 k hk)
    have h5 := pre_bd h3 k (by omega)
    have : getT L k = L[k] := by unfold getT; rw [List.getD_eq_getElem?_getD, List.getElem?_eq_getElem hk]; rfl
    rw [this] at h4
    omega
  · have := pre_bd h3 (k + 1) (by omega)
    rw [te_pre h3 k hk]; omega
set_option maxRecDepth 10000 in
set_option maxHeartbeats 4000000 in
theorem split_any (L : List Tg) (a n : Int) (hl : L.length ≤ 1000000) (ha : -9223372036854775808 ≤ a ∧ a ≤ 9223372036854775807) (hn : -9223372036854775808 ≤ n ∧ n ≤ 9223372036854775807) : CallOK Try.prog 20 [.sl 0 0 5 L.length none, I a, I n] [(0, .ro 5 L.length (rowT L))] (.tup [.sl 10 0 3 (splitF L a n).1.length none, I (splitF L a n).2]) [(10, some (.vec 43 3 (splitF L a n).1.length (rowG encP (splitF L a n).1)))] := by
  refine CallOK.intro Try.call20 Try.func20 rfl rfl ⟨rfl, fun _ => rfl, trivial⟩ ?_
  have h0 : checkF L = 0 → L.length ≤ 1000 ∧ endF L = pre L L.length ∧ 0 ≤ pre L L.length ∧ pre L L.length ≤ 1073741824 := fun h => by have := tok_bd h; omega
  refine Safe.withLoop (loopAt Try.f20 0) [0, 10] 75 (fun g : Int × Int × Nat => [(0, .sl 0 0 5 L.length none), (1, I g.1), (2, I g.2.1), (9, .sl 10 0 3 (splR L a n g.2.2).length none)]) (fun g => [(0, .ro 5 L.length (rowT L)), (10, .vec 43 3 (splR L a n g.2.2).length (rowG encP (splR L a n g.2.2)))])
    (fun g => checkF L = 0 ∧ 0 ≤ n ∧ 0 ≤ a ∧ a + n ≤ pre L L.length ∧ a ≤ g.1 ∧ 0 ≤ g.2.1 ∧ g.1 + g.2.1 = a + n ∧ g.2.2 ≤ L.length ∧ (g.2.1 = 0 → splR L a n L.length = splR L a n g.2.2) ∧ (0 < g.2.1 → g.2.2 = fnd L g.1 ∧ (g.1 = a ∨ g.1 = pre L g.2.2))) (fun g => g.2.1.toNat) ?_ ?_
  · rintro ⟨a', n', j⟩ ⟨hv, q1, q2, q3, q4, q5, q6, q7, q8, q9⟩ ih
    dsimp only at q4 q5 q6 q7 q8 q9 ih ⊢
    obtain ⟨t1, t2, t3, t4, t5, t6, t7⟩ := tok_bd hv
    have fs := fnd_spec t2 a'
    have hlj := splR_len L a n j
    have st := fun g : 0 < n' => split_step t2 (a := a) (n := n) (a' := a') (n' := n') g q2 q4 q6 q3 (by have := q9 g; rw [← this.1]; exact this.2)
    have hstA : 0 < n' → fnd L a' < L.length ∧ (getT L (fnd L a')).start ≤ a' ∧ a' < (getT L (fnd L a')).start + (getT L (fnd L a')).length ∧ (getT L (fnd L a')).start = pre L (fnd L a') ∧ 0 ≤ pre L (fnd L a') ∧ (getT L (fnd L a')).length ≤ 16777216 := fun g => by have := st g; exact ⟨this.1, this.2.1, this.2.2.1, this.2.2.2.1, this.2.2.2.2.1, (ck1_len (t2 _ this.1)).2.1⟩
    refine (Classical.em (n' > (0 : Int))).elim (fun hc1 => ?ga0) (fun hc1 => ?gb0)
    case' gb0 =>
      refine Safe.ends mixed Go.Proofs.Try.func20 7 [⟨1100, [(1, .tt false)]⟩, ⟨1200, []⟩] (r := .tup [.sl ((10 : Nat)) ((0 : Nat)) ((3 : Nat)) ((splR L a n j).length) (none), I ((0 : Int))]) (hp := [(0, .ro ((5 : Nat)) (L.length) (rowT L)), (10, .vec ((43 : Nat)) ((3 : Nat)) ((splR L a n j).length) (rowG encP (splR L a n j)))]) (ob := [decide (n' > (0 : Int)) = false]) rfl (by kernel_rfl) ⟨(decide_eq_false hc1), trivial⟩ ?_ ⟨ObLe.refl _, ?_, trivial⟩ ⟨rfl, fun _ => rfl, rfl, fun _ => rfl, trivial⟩ rfl
    case' ga0 =>
      refine Safe.goto mixed 17 [⟨1100, [(1, .tt true)]⟩, ⟨1200, [(2, .call [0] (I ((↑(fnd L a') : Int))) [])]⟩, ⟨1300, []⟩, ⟨1400, []⟩, ⟨1500, []⟩, ⟨1600, []⟩] [0, 1, 2, 9] [0, 1503] (todo' := loopAt Go.Proofs.Try.f20 0) (sl := slotsOf 75 [(0, .sl ((0 : Nat)) ((0 : Nat)) ((5 : Nat)) (L.length) (none)), (1, I (a' + min ((getT L (fnd L a')).length - (a' - (getT L (fnd L a')).start)) n')), (2, I (n' - min ((getT L (fnd L a')).length - (a' - (getT L (fnd L a')).start)) n')), (9, .sl ((1503 : Nat)) ((0 : Nat)) ((3 : Nat)) (addN (splR L a n j).length (1 : Nat)) (none))]) (hp := [(0, .ro ((5 : Nat)) (L.length) (rowT L)), (1503, .vec ((43 : Nat)) ((3 : Nat)) (addN (splR L a n j).length (1 : Nat)) (catR (splR L a n j).length (rowG encP (splR L a n j)) (rowsOf [AV.val (Value.int IntKind.i64 (↑(fnd L a') : Int)), AV.val (Value.int IntKind.i64 (a' - (getT L (fnd L a')).start)), AV.val (Value.int IntKind.i64 (min ((getT L (fnd L a')).length - (a' - (getT L (fnd L a')).start)) n'))] (3 : Nat))))]) (ob := [decide (n' > (0 : Int)) = true, CallOK Try.prog (40 : Nat) ([] ++ [AV.sl (0 : Nat) (0 : Nat) (5 : Nat) L.length none, AV.val (Value.int IntKind.i64 a')] ++ []) [((0 : Nat), Ob.ro (5 : Nat) L.length (rowT L))] (AV.val (Value.int IntKind.i64 (↑(fnd L a') : Int))) [], (0 : Int) ≤ (↑(fnd L a') : Int) ∧ (↑(fnd L a') : Int) < (↑L.length : Int), fnd L a' < L.length, inK IntKind.i64 (a' - (getT L (fnd L a')).start), (0 : Int) ≤ (↑(fnd L a') : Int) ∧ (↑(fnd L a') : Int) < (↑L.length : Int), fnd L a' < L.length, inK IntKind.i64 ((getT L (fnd L a')).length - (a' - (getT L (fnd L a')).start)), (0 : Nat) + (1 : Nat) ≤ (1 : Nat), (splR L a n j).length = (splR L a n j).length, (splR L a n j).length + (1 : Nat) ≤ (1099511627776 : Nat), inK IntKind.i64 (a' + min ((getT L (fnd L a')).length - (a' - (getT L (fnd L a')).start)) n'), inK IntKind.i64 (n' - min ((getT L (fnd L a')).length - (a' - (getT L (fnd L a')).start)) n')]) rfl rfl (by kernel_rfl) ⟨(decide_eq_true hc1), (CallOK.ren (find_any L L.length a' (fnd L a') fs.1 hl fs.2 t7) [(0, 0)] [0] rfl rfl rfl rfl ⟨rfl, fun _ => rfl, trivial⟩ rfl ⟨rfl, fun _ => rfl, trivial⟩), (by omega), (by omega), (by simp only [inK]; omega), (by omega), (by omega), (by simp only [inK]; omega), (by omega), (by omega), (by omega), (by simp only [inK]; omega), (by simp only [inK]; omega), trivial⟩ rfl ⟨rfl, fun _ => rfl, rfl, closed_cat (fun _ => rfl) (closed_rows rfl), trivial⟩ ?_
      refine Safe.ren [(1503, 10)] rfl rfl rfl rfl ⟨rfl, fun _ => rfl, rfl, closed_cat (fun _ => rfl) (closed_rows rfl), trivial⟩ ?_
    · obtain ⟨u1, u2, u3, u4, u5, u6, u7, u8⟩ := st (by omega)
      obtain ⟨rfl, q9b⟩ := q9 (by omega)
      have e1 : splR L a n (fnd L a' + 1) = splR L a n (fnd L a') ++ [⟨fnd L a', a' - (getT L (fnd L a')).start, min ((getT L (fnd L a')).length - (a' - (getT L (fnd L a')).start)) n'⟩] := by
        rw [← u6]; rfl
      have e2 : addN (splR L a n (fnd L a')).length 1 = (splR L a n (fnd L a' + 1)).length := by rw [addN_eq, e1, List.length_append]; rfl
      rw [e2]
      have hh := ih (a' + min ((getT L (fnd L a')).length - (a' - (getT L (fnd L a')).start)) n', n' - min ((getT L (fnd L a')).length - (a' - (getT L (fnd L a')).start)) n', fnd L a' + 1) ⟨hv, q1, q2, q3, ?_, ?_, ?_, ?_, fun h => ?_, fun h => ?_⟩ ?_
      · refine Safe.leH hh rfl (SlLe.refl _) ⟨ObLe.refl _, ?_, trivial⟩ rfl ⟨rfl, fun _ => rfl, rfl, fun _ => rfl, trivial⟩
        show ObLe _ (Ob.vec 43 3 (splR L a n (fnd L a' + 1)).length (rowG encP (splR L a n (fnd L a' + 1))))
        rw [e1]
        exact ob_ren_one encP _ _ _ (by rw [List.length_append]; rfl) (fun _ => rfl) rfl
      all_goals dsimp only
      · omega
      · omega
      · omega
      · omega
      · dsimp only at h; exact u7 (by omega)
      · dsimp only at h; have := u8 (by omega)
        exact ⟨this.1.symm, .inr this.2⟩
      · omega
    · have e := q8 (by omega)
      have : splitF L a n = (splR L a n j, 0) := by unfold splitF; rw [if_neg (by omega), if_neg (by omega), e]
      rw [this]; rfl
    · have e := q8 (by omega)
      have : splitF L a n = (splR L a n j, 0) := by unfold splitF; rw [if_neg (by omega), if_neg (by omega), e]
      rw [this]; exact ObLe.refl _
  · intro H
    have r1 : checkF L ≠ 0 → splitF L a n = ([], checkF L) := fun h => by unfold splitF; rw [if_pos h]
    have r2 : checkF L = 0 → (n < 0 ∨ a < 0 ∨ a > endF L ∨ n > endF L - a) → splitF L a n = ([], 1) := fun h h2 => by unfold splitF; rw [if_neg (by omega), if_pos h2]
    refine (Classical.em (¬checkF L = (0 : Int))).elim (fun hc1 => ?ga1) (fun hc1 => ?gb1)
    case' gb1 =>
      refine (Classical.em (n < (0 : Int))).elim (fun hc2 => ?ga2) (fun hc2 => ?gb2)
      case' gb2 =>
        refine (Classical.em (a < (0 : Int))).elim (fun hc3 => ?ga3) (fun hc3 => ?gb3)
        case' gb3 =>
          refine (Classical.em (a > endF L)).elim (fun hc4 => ?ga4) (fun hc4 => ?gb4)
          case' gb4 =>
            refine (Classical.em (n > endF L - a)).elim (fun hc5 => ?ga5) (fun hc5 => ?gb5)
            case' gb5 =>
              refine Safe.goto mixed 19 [⟨1100, []⟩, ⟨1200, [(1, .call [0] (I (checkF L)) [])]⟩, ⟨1300, [(1, .tt false)]⟩, ⟨1400, [(1, .tt false), (4, .tt false), (9, .call [0] (I (endF L)) []), (10, .tt false), (15, .call [0] (I (endF L)) []), (18, .tt false)]⟩, ⟨1500, []⟩] [0, 1, 2, 9] [0] (todo' := loopAt Go.Proofs.Try.f20 0) (sl := slotsOf 75 [(0, .sl ((0 : Nat)) ((0 : Nat)) ((5 : Nat)) (L.length) (none)), (1, I (a)), (2, I (n)), (9, .val (Value.slice none (0 : Nat) (0 : Nat)))]) (hp := [(0, .ro ((5 : Nat)) (L.length) (rowT L))]) (ob := [CallOK Try.prog (30 : Nat) ([] ++ [AV.sl (0 : Nat) (0 : Nat) (5 : Nat) L.length none] ++ []) [((0 : Nat), Ob.ro (5 : Nat) L.length (rowT L))] (AV.val (Value.int IntKind.i64 (checkF L))) [], (decide ¬checkF L = (0 : Int)) = false, decide (n < (0 : Int)) = false, decide (a < (0 : Int)) = false, CallOK Try.prog (36 : Nat) ([] ++ [AV.sl (0 : Nat) (0 : Nat) (5 : Nat) L.length none] ++ []) [((0 : Nat), Ob.ro (5 : Nat) L.length (rowT L))] (AV.val (Value.int IntKind.i64 (endF L))) [], decide (a > endF L) = false, CallOK Try.prog (36 : Nat) ([] ++ [AV.sl (0 : Nat) (0 : Nat) (5 : Nat) L.length none] ++ []) [((0 : Nat), Ob.ro (5 : Nat) L.length (rowT L))] (AV.val (Value.int IntKind.i64 (endF L))) [], inK IntKind.i64 (endF L - a), decide (n > endF L - a) = false]) rfl rfl (by kernel_rfl) ⟨(CallOK.ren (check_any (L) (by first | omega | exact (h0 (by omega)).1 | exact (tok_bd (by omega)).2.2.2.2.2.1)) [(0, 0)] [0] rfl rfl rfl rfl ⟨rfl, fun _ => rfl, trivial⟩ rfl ⟨rfl, fun _ => rfl, trivial⟩), (decide_eq_false hc1), (decide_eq_false hc2), (decide_eq_false hc3), (CallOK.ren (end_any (L) (by first | omega | exact (h0 (by omega)).1 | exact (tok_bd (by omega)).2.2.2.2.2.1) (by first | omega | exact (h0 (by omega)).1 | exact (tok_bd (by omega)).2.2.2.2.2.1)) [(0, 0)] [0] rfl rfl rfl rfl ⟨rfl, fun _ => rfl, trivial⟩ rfl ⟨rfl, fun _ => rfl, trivial⟩), (decide_eq_false hc4), (CallOK.ren (end_any (L) (by first | omega | exact (h0 (by omega)).1 | exact (tok_bd (by omega)).2.2.2.2.2.1) (by first | omega | exact (h0 (by omega)).1 | exact (tok_bd (by omega)).2.2.2.2.2.1)) [(0, 0)] [0] rfl rfl rfl rfl ⟨rfl, fun _ => rfl, trivial⟩ rfl ⟨rfl, fun _ => rfl, trivial⟩), (by simp only [inK]; first | omega | exact (h0 (by omega)).1 | exact (tok_bd (by omega)).2.2.2.2.2.1), (decide_eq_false hc5), trivial⟩ rfl ⟨rfl, fun _ => rfl, trivial⟩ ?_
            case' ga5 =>
              refine Safe.gotoE mixed 15 [⟨1100, []⟩, ⟨1200, [(1, .call [0] (I (checkF L)) [])]⟩, ⟨1300, [(1, .tt false)]⟩, ⟨1400, [(1, .tt false), (4, .tt false), (9, .call [0] (I (endF L)) []), (10, .tt false), (15, .call [0] (I (endF L)) []), (18, .tt true)]⟩, ⟨1500, []⟩] [6, 7] [0] (sl := slotsOf 75 [(6, .val (Value.slice none (0 : Nat) (0 : Nat))), (7, I ((1 : Int)))]) (hp := [(0, .ro ((5 : Nat)) (L.length) (rowT L))]) (ob := [CallOK Try.prog (30 : Nat) ([] ++ [AV.sl (0 : Nat) (0 : Nat) (5 : Nat) L.length none] ++ []) [((0 : Nat), Ob.ro (5 : Nat) L.length (rowT L))] (AV.val (Value.int IntKind.i64 (checkF L))) [], (decide ¬checkF L = (0 : Int)) = false, decide (n < (0 : Int)) = false, decide (a < (0 : Int)) = false, CallOK Try.prog (36 : Nat) ([] ++ [AV.sl (0 : Nat) (0 : Nat) (5 : Nat) L.length none] ++ []) [((0 : Nat), Ob.ro (5 : Nat) L.length (rowT L))] (AV.val (Value.int IntKind.i64 (endF L))) [], decide (a > endF L) = false, CallOK Try.prog (36 : Nat) ([] ++ [AV.sl (0 : Nat) (0 : Nat) (5 : Nat) L.length none] ++ []) [((0 : Nat), Ob.ro (5 : Nat) L.length (rowT L))] (AV.val (Value.int IntKind.i64 (endF L))) [], inK IntKind.i64 (endF L - a), decide (n > endF L - a) = true]) rfl rfl (by kernel_rfl) ⟨(CallOK.ren (check_any (L) (by first | omega | exact (h0 (by omega)).1 | exact (tok_bd (by omega)).2.2.2.2.2.1)) [(0, 0)] [0] rfl rfl rfl rfl ⟨rfl, fun _ => rfl, trivial⟩ rfl ⟨rfl, fun _ => rfl, trivial⟩), (decide_eq_false hc1), (decide_eq_false hc2), (decide_eq_false hc3), (CallOK.ren (end_any (L) (by first | omega | exact (h0 (by omega)).1 | exact (tok_bd (by omega)).2.2.2.2.2.1) (by first | omega | exact (h0 (by omega)).1 | exact (tok_bd (by omega)).2.2.2.2.2.1)) [(0, 0)] [0] rfl rfl rfl rfl ⟨rfl, fun _ => rfl, trivial⟩ rfl ⟨rfl, fun _ => rfl, trivial⟩), (decide_eq_false hc4), (CallOK.ren (end_any (L) (by first | omega | exact (h0 (by omega)).1 | exact (tok_bd (by omega)).2.2.2.2.2.1) (by first | omega | exact (h0 (by omega)).1 | exact (tok_bd (by omega)).2.2.2.2.2.1)) [(0, 0)] [0] rfl rfl rfl rfl ⟨rfl, fun _ => rfl, trivial⟩ rfl ⟨rfl, fun _ => rfl, trivial⟩), (by simp only [inK]; first | omega | exact (h0 (by omega)).1 | exact (tok_bd (by omega)).2.2.2.2.2.1), (decide_eq_true hc5), trivial⟩ rfl ⟨rfl, fun _ => rfl, trivial⟩ fun td htd => ?_
              refine Safe.nil 6 10 43 3 (fun _ => []) rfl rfl ⟨rfl, fun _ => rfl, trivial⟩ ?_ rfl
              refine Safe.endsT Go.Proofs.Try.func20 htd (r := .tup [.sl ((10 : Nat)) ((0 : Nat)) ((3 : Nat)) ((0 : Nat)) (none), I ((1 : Int))]) (hp := [(0, .ro ((5 : Nat)) (L.length) (rowT L)), (10, .vec ((43 : Nat)) ((3 : Nat)) ((0 : Nat)) (fun q => []))]) (ob := []) rfl (by kernel_rfl) trivial ?_ ⟨ObLe.refl _, ?_, trivial⟩ ⟨rfl, fun _ => rfl, rfl, fun _ => rfl, trivial⟩ rfl
          case' ga4 =>
            refine Safe.gotoE mixed 15 [⟨1100, []⟩, ⟨1200, [(1, .call [0] (I (checkF L)) [])]⟩, ⟨1300, [(1, .tt false)]⟩, ⟨1400, [(1, .tt false), (4, .tt false), (9, .call [0] (I (endF L)) []), (10, .tt true)]⟩, ⟨1500, []⟩] [6, 7] [0] (sl := slotsOf 75 [(6, .val (Value.slice none (0 : Nat) (0 : Nat))), (7, I ((1 : Int)))]) (hp := [(0, .ro ((5 : Nat)) (L.length) (rowT L))]) (ob := [CallOK Try.prog (30 : Nat) ([] ++ [AV.sl (0 : Nat) (0 : Nat) (5 : Nat) L.length none] ++ []) [((0 : Nat), Ob.ro (5 : Nat) L.length (rowT L))] (AV.val (Value.int IntKind.i64 (checkF L))) [], (decide ¬checkF L = (0 : Int)) = false, decide (n < (0 : Int)) = false, decide (a < (0 : Int)) = false, CallOK Try.prog (36 : Nat) ([] ++ [AV.sl (0 : Nat) (0 : Nat) (5 : Nat) L.length none] ++ []) [((0 : Nat), Ob.ro (5 : Nat) L.length (rowT L))] (AV.val (Value.int IntKind.i64 (endF L))) [], decide (a > endF L) = true]) rfl rfl (by kernel_rfl) ⟨(CallOK.ren (check_any (L) (by first | omega | exact (h0 (by omega)).1 | exact (tok_bd (by omega)).2.2.2.2.2.1)) [(0, 0)] [0] rfl rfl rfl rfl ⟨rfl, fun _ => rfl, trivial⟩ rfl ⟨rfl, fun _ => rfl, trivial⟩), (decide_eq_false hc1), (decide_eq_false hc2), (decide_eq_false hc3), (CallOK.ren (end_any (L) (by first | omega | exact (h0 (by omega)).1 | exact (tok_bd (by omega)).2.2.2.2.2.1) (by first | omega | exact (h0 (by omega)).1 | exact (tok_bd (by omega)).2.2.2.2.2.1)) [(0, 0)] [0] rfl rfl rfl rfl ⟨rfl, fun _ => rfl, trivial⟩ rfl ⟨rfl, fun _ => rfl, trivial⟩), (decide_eq_true hc4), trivial⟩ rfl ⟨rfl, fun _ => rfl, trivial⟩ fun td htd => ?_
            refine Safe.nil 6 10 43 3 (fun _ => []) rfl rfl ⟨rfl, fun _ => rfl, trivial⟩ ?_ rfl
            refine Safe.endsT Go.Proofs.Try.func20 htd (r := .tup [.sl ((10 : Nat)) ((0 : Nat)) ((3 : Nat)) ((0 : Nat)) (none), I ((1 : Int))]) (hp := [(0, .ro ((5 : Nat)) (L.length) (rowT L)), (10, .vec ((43 : Nat)) ((3 : Nat)) ((0 : Nat)) (fun q => []))]) (ob := []) rfl (by kernel_rfl) trivial ?_ ⟨ObLe.refl _, ?_, trivial⟩ ⟨rfl, fun _ => rfl, rfl, fun _ => rfl, trivial⟩ rfl
        case' ga3 =>
          refine Safe.gotoE mixed 15 [⟨1100, []⟩, ⟨1200, [(1, .call [0] (I (checkF L)) [])]⟩, ⟨1300, [(1, .tt false)]⟩, ⟨1400, [(1, .tt false), (4, .tt true)]⟩, ⟨1500, []⟩] [6, 7] [0] (sl := slotsOf 75 [(6, .val (Value.slice none (0 : Nat) (0 : Nat))), (7, I ((1 : Int)))]) (hp := [(0, .ro ((5 : Nat)) (L.length) (rowT L))]) (ob := [CallOK Try.prog (30 : Nat) ([] ++ [AV.sl (0 : Nat) (0 : Nat) (5 : Nat) L.length none] ++ []) [((0 : Nat), Ob.ro (5 : Nat) L.length (rowT L))] (AV.val (Value.int IntKind.i64 (checkF L))) [], (decide ¬checkF L = (0 : Int)) = false, decide (n < (0 : Int)) = false, decide (a < (0 : Int)) = true]) rfl rfl (by kernel_rfl) ⟨(CallOK.ren (check_any (L) (by first | omega | exact (h0 (by omega)).1 | exact (tok_bd (by omega)).2.2.2.2.2.1)) [(0, 0)] [0] rfl rfl rfl rfl ⟨rfl, fun _ => rfl, trivial⟩ rfl ⟨rfl, fun _ => rfl, trivial⟩), (decide_eq_false hc1), (decide_eq_false hc2), (decide_eq_true hc3), trivial⟩ rfl ⟨rfl, fun _ => rfl, trivial⟩ fun td htd => ?_
          refine Safe.nil 6 10 43 3 (fun _ => []) rfl rfl ⟨rfl, fun _ => rfl, trivial⟩ ?_ rfl
          refine Safe.endsT Go.Proofs.Try.func20 htd (r := .tup [.sl ((10 : Nat)) ((0 : Nat)) ((3 : Nat)) ((0 : Nat)) (none), I ((1 : Int))]) (hp := [(0, .ro ((5 : Nat)) (L.length) (rowT L)), (10, .vec ((43 : Nat)) ((3 : Nat)) ((0 : Nat)) (fun q => []))]) (ob := []) rfl (by kernel_rfl) trivial ?_ ⟨ObLe.refl _, ?_, trivial⟩ ⟨rfl, fun _ => rfl, rfl, fun _ => rfl, trivial⟩ rfl
      case' ga2 =>
        refine Safe.gotoE mixed 15 [⟨1100, []⟩, ⟨1200, [(1, .call [0] (I (checkF L)) [])]⟩, ⟨1300, [(1, .tt false)]⟩, ⟨1400, [(1, .tt true)]⟩, ⟨1500, []⟩] [6, 7] [0] (sl := slotsOf 75 [(6, .val (Value.slice none (0 : Nat) (0 : Nat))), (7, I ((1 : Int)))]) (hp := [(0, .ro ((5 : Nat)) (L.length) (rowT L))]) (ob := [CallOK Try.prog (30 : Nat) ([] ++ [AV.sl (0 : Nat) (0 : Nat) (5 : Nat) L.length none] ++ []) [((0 : Nat), Ob.ro (5 : Nat) L.length (rowT L))] (AV.val (Value.int IntKind.i64 (checkF L))) [], (decide ¬checkF L = (0 : Int)) = false, decide (n < (0 : Int)) = true]) rfl rfl (by kernel_rfl) ⟨(CallOK.ren (check_any (L) (by first | omega | exact (h0 (by omega)).1 | exact (tok_bd (by omega)).2.2.2.2.2.1)) [(0, 0)] [0] rfl rfl rfl rfl ⟨rfl, fun _ => rfl, trivial⟩ rfl ⟨rfl, fun _ => rfl, trivial⟩), (decide_eq_false hc1), (decide_eq_true hc2), trivial⟩ rfl ⟨rfl, fun _ => rfl, trivial⟩ fun td htd => ?_
        refine Safe.nil 6 10 43 3 (fun _ => []) rfl rfl ⟨rfl, fun _ => rfl, trivial⟩ ?_ rfl
        refine Safe.endsT Go.Proofs.Try.func20 htd (r := .tup [.sl ((10 : Nat)) ((0 : Nat)) ((3 : Nat)) ((0 : Nat)) (none), I ((1 : Int))]) (hp := [(0, .ro ((5 : Nat)) (L.length) (rowT L)), (10, .vec ((43 : Nat)) ((3 : Nat)) ((0 : Nat)) (fun q => []))]) (ob := []) rfl (by kernel_rfl) trivial ?_ ⟨ObLe.refl _, ?_, trivial⟩ ⟨rfl, fun _ => rfl, rfl, fun _ => rfl, trivial⟩ rfl
    case' ga1 =>
      refine Safe.gotoE mixed 10 [⟨1100, []⟩, ⟨1200, [(1, .call [0] (I (checkF L)) [])]⟩, ⟨1300, [(1, .tt true)]⟩, ⟨1400, []⟩] [6, 7] [0] (sl := slotsOf 75 [(6, .val (Value.slice none (0 : Nat) (0 : Nat))), (7, I (checkF L))]) (hp := [(0, .ro ((5 : Nat)) (L.length) (rowT L))]) (ob := [CallOK Try.prog (30 : Nat) ([] ++ [AV.sl (0 : Nat) (0 : Nat) (5 : Nat) L.length none] ++ []) [((0 : Nat), Ob.ro (5 : Nat) L.length (rowT L))] (AV.val (Value.int IntKind.i64 (checkF L))) [], (decide ¬checkF L = (0 : Int)) = true]) rfl rfl (by kernel_rfl) ⟨(CallOK.ren (check_any (L) (by first | omega | exact (h0 (by omega)).1 | exact (tok_bd (by omega)).2.2.2.2.2.1)) [(0, 0)] [0] rfl rfl rfl rfl ⟨rfl, fun _ => rfl, trivial⟩ rfl ⟨rfl, fun _ => rfl, trivial⟩), (decide_eq_true hc1), trivial⟩ rfl ⟨rfl, fun _ => rfl, trivial⟩ fun td htd => ?_
      refine Safe.nil 6 10 43 3 (fun _ => []) rfl rfl ⟨rfl, fun _ => rfl, trivial⟩ ?_ rfl
      refine Safe.endsT Go.Proofs.Try.func20 htd (r := .tup [.sl ((10 : Nat)) ((0 : Nat)) ((3 : Nat)) ((0 : Nat)) (none), I (checkF L)]) (hp := [(0, .ro ((5 : Nat)) (L.length) (rowT L)), (10, .vec ((43 : Nat)) ((3 : Nat)) ((0 : Nat)) (fun q => []))]) (ob := []) rfl (by kernel_rfl) trivial ?_ ⟨ObLe.refl _, ?_, trivial⟩ ⟨rfl, fun _ => rfl, rfl, fun _ => rfl, trivial⟩ rfl
    · rw [r1 (by omega)]; rfl
    · rw [r1 (by omega)]; exact ⟨rfl, rfl, rfl, fun q hq => by simp at hq⟩
    · rw [r2 (by omega) (by omega)]; rfl
    · rw [r2 (by omega) (by omega)]; exact ⟨rfl, rfl, rfl, fun q hq => by simp at hq⟩
    · rw [r2 (by omega) (by omega)]; rfl
    · rw [r2 (by omega) (by omega)]; exact ⟨rfl, rfl, rfl, fun q hq => by simp at hq⟩
    · rw [r2 (by omega) (by omega)]; rfl
    · rw [r2 (by omega) (by omega)]; exact ⟨rfl, rfl, rfl, fun q hq => by simp at hq⟩
    · rw [r2 (by omega) (by omega)]; rfl
    · rw [r2 (by omega) (by omega)]; exact ⟨rfl, rfl, rfl, fun q hq => by simp at hq⟩
    · have g1 := h0 (by omega)
      have g2 := (tok_bd (L := L) (by omega)).2.1
      have g3 := split_first (L := L) (a := a) (n := n) g2 (by omega) (by omega) (by omega)
      have g4 : splR L a n (if n = 0 then 0 else fnd L a) = [] := by split <;> first | rfl | exact g3.1
      refine Safe.nil 9 10 43 3 (rowG encP []) rfl rfl ⟨rfl, fun _ => rfl, trivial⟩ ?_ rfl
      have hh := H (a, n, if n = 0 then 0 else fnd L a) ⟨by omega, by omega, by omega, by omega, Int.le_refl _, by dsimp only; omega, rfl, ?_, fun h => ?_, fun h => ?_⟩
      · dsimp only at hh
        rw [g4] at hh
        exact Safe.leH hh rfl (SlLe.refl _) ⟨ObLe.refl _, ObLe.refl _, trivial⟩ rfl ⟨rfl, fun _ => rfl, rfl, fun _ => rfl, trivial⟩
      · dsimp only; have := (fnd_spec g2 a).1; split <;> omega
      · dsimp only at h ⊢; rw [g3.2 h, g4]
      · dsimp only at h ⊢; rw [if_neg (by omega)]; exact ⟨rfl, .inl rfl⟩
end Go.Proofs.Ytcomimabihbfgaa
