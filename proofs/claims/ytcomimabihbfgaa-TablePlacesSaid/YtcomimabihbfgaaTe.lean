/- Tables that are valid; Size, Find, goesOn. -/
import Derived.Test.YtcomimabihbfgaaSyU
import Derived.KernelRfl
import Derived.Test.YtcomimabihbfgaaTd
namespace Go.Proofs.Ytcomimabihbfgaa
open Go.RowKit
set_option linter.unusedVariables false
/-- the sum of the first k lengths -/
def pre (L : List Tg) : Nat → Int
  | 0 => 0
  | k + 1 => pre L k + (getT L k).length
theorem getT_drop (L : List Tg) (j k : Nat) : getT (L.drop j) k = getT L (j + k) := by
  unfold getT
  simp only [List.getD_eq_getElem?_getD, List.getElem?_drop]
/-- what is known of the targets of a table -/
def TOK (L : List Tg) : Prop := ∀ k, k < L.length → ck1 (getT L k) (pre L k) = 0
theorem chk_tok (L : List Tg) : ∀ (d k : Nat), k + d = L.length → (chk (L.drop k) (pre L k) = 0 ↔ ∀ j, k ≤ j → j < L.length → ck1 (getT L j) (pre L j) = 0)
  | 0, k, h => by
    rw [show k = L.length by omega, List.drop_length]
    exact ⟨fun _ j h1 h2 => by omega, fun _ => rfl⟩
  | d + 1, k, h => by
    have ih := chk_tok L d (k + 1) (by omega)
    rw [chk_drop L k _ (by omega)]
    by_cases h0 : ck1 (getT L k) (pre L k) = 0
    · rw [if_pos h0]
      show chk (L.drop (k + 1)) (pre L (k + 1)) = 0 ↔ _
      rw [ih]
      constructor
      · intro hh j h1 h2
        rcases Nat.lt_or_eq_of_le h1 with h3 | h3
        · exact hh j h3 h2
        · rw [← h3]; exact h0
      · exact fun hh j h1 h2 => hh j (by omega) h2
    · rw [if_neg h0]
      exact ⟨fun hh => absurd hh h0, fun hh => absurd (hh k (Nat.le_refl _) (by omega)) h0⟩
theorem check_iff (L : List Tg) : checkF L = 0 ↔ L.length ≤ 64 ∧ TOK L := by
  unfold checkF TOK
  by_cases h : L.length > 64
  · rw [if_pos h]; omega
  · rw [if_neg h]
    have := chk_tok L L.length 0 (by omega)
    rw [List.drop_zero] at this
    show chk L (pre L 0) = 0 ↔ _
    rw [this]
    exact ⟨fun hh => ⟨by omega, fun k hk => hh k (Nat.zero_le _) hk⟩, fun hh j _ hj => hh.2 j hj⟩
theorem pre_bd {L : List Tg} (h : TOK L) : ∀ k, k ≤ L.length → 0 ≤ pre L k ∧ pre L k ≤ 16777216 * k
  | 0, _ => by simp [pre]
  | k + 1, hk => by
    have ih := pre_bd h k (by omega)
    have := ck1_len (h k (by omega))
    simp only [pre]
    omega
theorem te_pre {L : List Tg} (h : TOK L) (k : Nat) (hk : k < L.length) : te L k = pre L (k + 1) := by
  have := ck1_len (h k hk)
  unfold te
  simp only [pre]
  omega
theorem pre_mono {L : List Tg} (h : TOK L) (j : Nat) : ∀ d, j + d ≤ L.length → pre L j + d ≤ pre L (j + d)
  | 0, _ => by simp
  | d + 1, hd => by
    have ih := pre_mono h j d (by omega)
    have := ck1_len (h (j + d) (by omega))
    rw [show j + (d + 1) = (j + d) + 1 by omega]
    simp only [pre]
    omega
theorem end_pre {L : List Tg} (h : TOK L) : endF L = pre L L.length := by
  unfold endF
  by_cases h0 : L.length = 0
  · rw [if_pos h0, h0]; rfl
  · rw [if_neg h0]
    have := te_pre h (L.length - 1) (by omega)
    rw [show L.length - 1 + 1 = L.length by omega] at this
    exact this
/-- the number of targets that end at or ahead of a sector -/
def fnd (L : List Tg) (at' : Int) : Nat := ((List.range L.length).filter fun k => te L k ≤ at').length
theorem fnd_spec {L : List Tg} (h : TOK L) (at' : Int) : fnd L at' ≤ L.length ∧ ∀ k, k < L.length → (at' < te L k ↔ fnd L at' ≤ k) := by
  have key : ∀ n, n ≤ L.length → ∃ r, r ≤ n ∧ ((List.range n).filter fun k => decide (te L k ≤ at')).length = r ∧ ∀ k, k < n → (at' < te L k ↔ r ≤ k) := by
    intro n
    induction n with
    | zero => intro _; exact ⟨0, Nat.le_refl _, rfl, fun k hk => by omega⟩
    | succ n ih =>
      intro hn
      obtain ⟨r, h1, h2, h3⟩ := ih (by omega)
      rw [List.range_succ, List.filter_append, List.length_append, h2]
      by_cases hc : te L n ≤ at'
      · -- then all ahead end there too
        have : r = n := by
          rcases Nat.lt_or_ge r n with hlt | hge
          · have h4 := (h3 r hlt).2 (Nat.le_refl _)
            have h5 := te_pre h r (by omega)
            have h6 := te_pre h n (by omega)
            have h7 := pre_mono h (r + 1) (n - r) (by omega)
            rw [show r + 1 + (n - r) = n + 1 by omega] at h7
            omega
          · omega
        subst this
        refine ⟨r + 1, by omega, by simp [hc], fun k hk => ?_⟩
        rcases Nat.lt_or_eq_of_le (Nat.le_of_lt_succ hk) with h8 | h8
        · have := h3 k h8; omega
        · rw [h8]; omega
      · refine ⟨r, by omega, by simp [hc], fun k hk => ?_⟩
        rcases Nat.lt_or_eq_of_le (Nat.le_of_lt_succ hk) with h8 | h8
        · exact h3 k h8
        · rw [h8]; omega
  obtain ⟨r, h1, h2, h3⟩ := key L.length (Nat.le_refl _)
  unfold fnd
  rw [h2]
  exact ⟨h1, h3⟩
def sizeF (L : List Tg) : Int := if checkF L = 0 then endF L else 0
def findF (L : List Tg) (at' : Int) : Int × Int × Bool := if at' < 0 ∨ at' ≥ sizeF L then (0, 0, false) else ((fnd L at' : Int), at' - (getT L (fnd L at')).start, true)
set_option maxRecDepth 10000 in
set_option maxHeartbeats 4000000 in
theorem size_any (L : List Tg) (hl : L.length ≤ 1000000) : CallOK Try.prog 15 [.sl 0 0 5 L.length none] [(0, .ro 5 L.length (rowT L))] (I (sizeF L)) [] := by
  refine CallOK.intro Try.call15 Try.func15 rfl rfl ⟨rfl, fun _ => rfl, trivial⟩ ?_
  have h1 : checkF L = 0 → L.length ≤ 1000 ∧ ∀ t ∈ L, 0 ≤ t.start ∧ t.start ≤ 2000000000 ∧ 0 ≤ t.length ∧ t.length ≤ 2000000000 := fun h => by
    obtain ⟨h2, h3⟩ := (check_iff L).1 h
    refine ⟨by omega, fun t ht => ?_⟩
    obtain ⟨k, hk, rfl⟩ := List.getElem_of_mem ht
    have h4 := ck1_len (h3 k hk)
    have h5 := pre_bd h3 k (by omega)
    have : getT L k = L[k] := by unfold getT; rw [List.getD_eq_getElem?_getD, List.getElem?_eq_getElem hk]; rfl
    rw [this] at h4
    omega
  refine (Classical.em (¬checkF L = (0 : Int))).elim (fun hc1 => ?ga0) (fun hc1 => ?gb0)
  case' gb0 =>
    refine Safe.ends mixed Go.Proofs.Try.func15 9 [⟨1100, []⟩, ⟨1200, [(1, .call [0] (I (checkF L)) []), (2, .tt false)]⟩, ⟨1300, [(1, .call [0] (I (endF L)) [])]⟩] (r := I (endF L)) (hp := [(0, .ro ((5 : Nat)) (L.length) (rowT L))]) (ob := [CallOK Try.prog (30 : Nat) ([] ++ [AV.sl (0 : Nat) (0 : Nat) (5 : Nat) L.length none] ++ []) [((0 : Nat), Ob.ro (5 : Nat) L.length (rowT L))] (AV.val (Value.int IntKind.i64 (checkF L))) [], (decide ¬checkF L = (0 : Int)) = false, CallOK Try.prog (36 : Nat) ([] ++ [AV.sl (0 : Nat) (0 : Nat) (5 : Nat) L.length none] ++ []) [((0 : Nat), Ob.ro (5 : Nat) L.length (rowT L))] (AV.val (Value.int IntKind.i64 (endF L))) []]) rfl (by kernel_rfl) ⟨(CallOK.ren (check_any (L) (by first | omega | exact (h1 (by omega)).1 | exact (h1 (by omega)).2)) [(0, 0)] [0] rfl rfl rfl rfl ⟨rfl, fun _ => rfl, trivial⟩ rfl ⟨rfl, fun _ => rfl, trivial⟩), (decide_eq_false hc1), (CallOK.ren (end_any (L) (by first | omega | exact (h1 (by omega)).1 | exact (h1 (by omega)).2) (by first | omega | exact (h1 (by omega)).1 | exact (h1 (by omega)).2)) [(0, 0)] [0] rfl rfl rfl rfl ⟨rfl, fun _ => rfl, trivial⟩ rfl ⟨rfl, fun _ => rfl, trivial⟩), trivial⟩ ?_ ⟨ObLe.refl _, trivial⟩ ⟨rfl, fun _ => rfl, trivial⟩ rfl
  case' ga0 =>
    refine Safe.ends mixed Go.Proofs.Try.func15 8 [⟨1100, []⟩, ⟨1200, [(1, .call [0] (I (checkF L)) []), (2, .tt true)]⟩, ⟨1300, []⟩] (r := I ((0 : Int))) (hp := [(0, .ro ((5 : Nat)) (L.length) (rowT L))]) (ob := [CallOK Try.prog (30 : Nat) ([] ++ [AV.sl (0 : Nat) (0 : Nat) (5 : Nat) L.length none] ++ []) [((0 : Nat), Ob.ro (5 : Nat) L.length (rowT L))] (AV.val (Value.int IntKind.i64 (checkF L))) [], (decide ¬checkF L = (0 : Int)) = true]) rfl (by kernel_rfl) ⟨(CallOK.ren (check_any (L) (by first | omega | exact (h1 (by omega)).1 | exact (h1 (by omega)).2)) [(0, 0)] [0] rfl rfl rfl rfl ⟨rfl, fun _ => rfl, trivial⟩ rfl ⟨rfl, fun _ => rfl, trivial⟩), (decide_eq_true hc1), trivial⟩ ?_ ⟨ObLe.refl _, trivial⟩ ⟨rfl, fun _ => rfl, trivial⟩ rfl
  all_goals (show I _ = I _; unfold sizeF; simp_all)
set_option maxRecDepth 10000 in
set_option maxHeartbeats 4000000 in
theorem findc_any (L : List Tg) (at' : Int) (hl : L.length ≤ 1000000) (hat : -9223372036854775808 ≤ at' ∧ at' ≤ 9223372036854775807) : CallOK Try.prog 25 [.sl 0 0 5 L.length none, I at'] [(0, .ro 5 L.length (rowT L))] (.tup [I (findF L at').1, I (findF L at').2.1, B (findF L at').2.2]) [] := by
  refine CallOK.intro Try.call25 Try.func25 rfl rfl ⟨rfl, fun _ => rfl, trivial⟩ ?_
  have hS : ¬ at' < 0 → ¬ at' ≥ sizeF L → L.length ≤ 64 ∧ fnd L at' < L.length ∧ (∀ k, k < L.length → (at' < te L k ↔ fnd L at' ≤ k)) ∧ (∀ k, k < L.length → -9223372036854775808 ≤ te L k ∧ te L k ≤ 9223372036854775807) ∧ 0 ≤ (getT L (fnd L at')).start ∧ (getT L (fnd L at')).start ≤ 2000000000 := fun g1 g2 => by
    by_cases hv : checkF L = 0
    · obtain ⟨g3, g4⟩ := (check_iff L).1 hv
      have g5 := fnd_spec g4 at'
      have g6 : sizeF L = pre L L.length := by unfold sizeF; rw [if_pos hv, end_pre g4]
      have hlen : L.length ≠ 0 := fun e => by rw [e] at g6; simp [pre] at g6; omega
      have g7 : fnd L at' < L.length := by
        rcases Nat.lt_or_ge (fnd L at') L.length with h | h
        · exact h
        · have h8 := (g5.2 (L.length - 1) (by omega)).1 (by rw [te_pre g4 _ (by omega), show L.length - 1 + 1 = L.length by omega]; omega)
          omega
      refine ⟨g3, g7, g5.2, fun k hk => ?_, ?_⟩
      · have := pre_bd g4 (k + 1) (by omega)
        rw [te_pre g4 k hk]; omega
      · have h9 := pre_bd g4 _ (Nat.le_of_lt g7)
        have h10 := ck1_len (g4 _ g7)
        omega
    · have : sizeF L = 0 := by unfold sizeF; rw [if_neg hv]
      omega
  have hF : ¬ at' < 0 → ¬ at' ≥ sizeF L → findF L at' = ((fnd L at' : Int), at' - (getT L (fnd L at')).start, true) := fun g1 g2 => by unfold findF; rw [if_neg (by omega)]
  have hS' : ¬ at' < 0 → ¬ at' ≥ sizeF L → fnd L at' < L.length ∧ 0 ≤ (getT L (fnd L at')).start ∧ (getT L (fnd L at')).start ≤ 2000000000 := fun g1 g2 => by
    have := hS g1 g2; omega
  refine (Classical.em (at' < (0 : Int))).elim (fun hc1 => ?ga1) (fun hc1 => ?gb1)
  case' gb1 =>
    refine (Classical.em (at' ≥ sizeF L)).elim (fun hc2 => ?ga2) (fun hc2 => ?gb2)
    case' gb2 =>
      refine Safe.ends mixed Go.Proofs.Try.func25 11 [⟨1100, []⟩, ⟨1200, [(1, .tt false), (5, .call [0] (I (sizeF L)) []), (6, .tt false)]⟩, ⟨1300, [(2, .call [0] (I ((↑(fnd L at') : Int))) [])]⟩, ⟨1400, []⟩] (r := .tup [I ((↑(fnd L at') : Int)), I (at' - (getT L (fnd L at')).start), B (true)]) (hp := [(0, .ro ((5 : Nat)) (L.length) (rowT L))]) (ob := [decide (at' < (0 : Int)) = false, CallOK Try.prog (15 : Nat) ([] ++ [AV.sl (0 : Nat) (0 : Nat) (5 : Nat) L.length none] ++ []) [((0 : Nat), Ob.ro (5 : Nat) L.length (rowT L))] (AV.val (Value.int IntKind.i64 (sizeF L))) [], decide (at' ≥ sizeF L) = false, CallOK Try.prog (40 : Nat) ([] ++ [AV.sl (0 : Nat) (0 : Nat) (5 : Nat) L.length none, AV.val (Value.int IntKind.i64 at')] ++ []) [((0 : Nat), Ob.ro (5 : Nat) L.length (rowT L))] (AV.val (Value.int IntKind.i64 (↑(fnd L at') : Int))) [], (0 : Int) ≤ (↑(fnd L at') : Int) ∧ (↑(fnd L at') : Int) < (↑L.length : Int), fnd L at' < L.length, inK IntKind.i64 (at' - (getT L (fnd L at')).start)]) rfl (by kernel_rfl) ⟨(decide_eq_false hc1), (CallOK.ren (size_any (L) (by first | omega | exact (hS (by assumption) (by assumption)).2.2.1 | exact (hS (by assumption) (by assumption)).2.2.2.1)) [(0, 0)] [0] rfl rfl rfl rfl ⟨rfl, fun _ => rfl, trivial⟩ rfl ⟨rfl, fun _ => rfl, trivial⟩), (decide_eq_false hc2), (CallOK.ren ((find_any L L.length at' (fnd L at')) (by first | omega | exact (hS (by assumption) (by assumption)).2.2.1 | exact (hS (by assumption) (by assumption)).2.2.2.1) (by first | omega | exact (hS (by assumption) (by assumption)).2.2.1 | exact (hS (by assumption) (by assumption)).2.2.2.1) (by first | omega | exact (hS (by assumption) (by assumption)).2.2.1 | exact (hS (by assumption) (by assumption)).2.2.2.1) (by first | omega | exact (hS (by assumption) (by assumption)).2.2.1 | exact (hS (by assumption) (by assumption)).2.2.2.1)) [(0, 0)] [0] rfl rfl rfl rfl ⟨rfl, fun _ => rfl, trivial⟩ rfl ⟨rfl, fun _ => rfl, trivial⟩), (by first | omega | exact (hS (by assumption) (by assumption)).2.2.1 | exact (hS (by assumption) (by assumption)).2.2.2.1), (by first | omega | exact (hS (by assumption) (by assumption)).2.2.1 | exact (hS (by assumption) (by assumption)).2.2.2.1), (by simp only [inK]; first | omega | exact (hS (by assumption) (by assumption)).2.2.1 | exact (hS (by assumption) (by assumption)).2.2.2.1), trivial⟩ ?_ ⟨ObLe.refl _, trivial⟩ ⟨rfl, fun _ => rfl, trivial⟩ rfl
    case' ga2 =>
      refine Safe.ends mixed Go.Proofs.Try.func25 8 [⟨1100, []⟩, ⟨1200, [(1, .tt false), (5, .call [0] (I (sizeF L)) []), (6, .tt true)]⟩, ⟨1300, []⟩] (r := .tup [I ((0 : Int)), I ((0 : Int)), B (false)]) (hp := [(0, .ro ((5 : Nat)) (L.length) (rowT L))]) (ob := [decide (at' < (0 : Int)) = false, CallOK Try.prog (15 : Nat) ([] ++ [AV.sl (0 : Nat) (0 : Nat) (5 : Nat) L.length none] ++ []) [((0 : Nat), Ob.ro (5 : Nat) L.length (rowT L))] (AV.val (Value.int IntKind.i64 (sizeF L))) [], decide (at' ≥ sizeF L) = true]) rfl (by kernel_rfl) ⟨(decide_eq_false hc1), (CallOK.ren (size_any (L) (by first | omega | exact (hS (by assumption) (by assumption)).2.2.1 | exact (hS (by assumption) (by assumption)).2.2.2.1)) [(0, 0)] [0] rfl rfl rfl rfl ⟨rfl, fun _ => rfl, trivial⟩ rfl ⟨rfl, fun _ => rfl, trivial⟩), (decide_eq_true hc2), trivial⟩ ?_ ⟨ObLe.refl _, trivial⟩ ⟨rfl, fun _ => rfl, trivial⟩ rfl
  case' ga1 =>
    refine Safe.ends mixed Go.Proofs.Try.func25 8 [⟨1100, []⟩, ⟨1200, [(1, .tt true)]⟩, ⟨1300, []⟩] (r := .tup [I ((0 : Int)), I ((0 : Int)), B (false)]) (hp := [(0, .ro ((5 : Nat)) (L.length) (rowT L))]) (ob := [decide (at' < (0 : Int)) = true]) rfl (by kernel_rfl) ⟨(decide_eq_true hc1), trivial⟩ ?_ ⟨ObLe.refl _, trivial⟩ ⟨rfl, fun _ => rfl, trivial⟩ rfl
  · show _ = _
    unfold findF; rw [if_pos (by omega)]
  · show _ = _
    unfold findF; rw [if_pos (by omega)]
  · show _ = _
    rw [hF (by assumption) (by assumption)]
/-- are two targets one run? -/
def goesF (a b : Tg) : Bool := decide (a.fail = b.fail) && (decide (a.on = b.on) && ((decide (a.on = { data := #[] }) || decide (b.offset = a.offset + a.length)) && decide (a.length + b.length ≤ 16777216)))
set_option maxRecDepth 10000 in
set_option maxHeartbeats 4000000 in
theorem goes_any (a b d a2 b2 d2 : Int) (c c2 : ByteArray) (e e2 : Bool) (h1 : -1000000000000 ≤ b ∧ b ≤ 1000000000000) (h2 : -1000000000000 ≤ b2 ∧ b2 ≤ 1000000000000) (h3 : -1000000000000 ≤ d ∧ d ≤ 1000000000000) (h4 : -1000000000000 ≤ d2 ∧ d2 ≤ 1000000000000) :
    CallOK Try.prog 38 [.agg [I a, I b, S c, I d, B e], .agg [I a2, I b2, S c2, I d2, B e2]] [] (B (goesF ⟨a, b, c, d, e⟩ ⟨a2, b2, c2, d2, e2⟩)) [] := by
  refine CallOK.intro Try.call38 Try.func38 rfl rfl trivial ?_
  refine (Classical.em ((e == e2) = true)).elim (fun hc1 => ?ga3) (fun hc1 => ?gb3)
  case' gb3 =>
    refine Safe.ends mixed Go.Proofs.Try.func38 4 [⟨100, []⟩, ⟨200, [(4, .tt false)]⟩] (r := B (false)) (hp := []) (ob := [(e == e2) = false]) rfl (by kernel_rfl) ⟨(by simpa using hc1), trivial⟩ ?_ trivial trivial rfl
  case' ga3 =>
    refine (Classical.em (c = c2)).elim (fun hc2 => ?ga4) (fun hc2 => ?gb4)
    case' gb4 =>
      refine Safe.ends mixed Go.Proofs.Try.func38 4 [⟨100, []⟩, ⟨200, [(4, .tt true), (10, .tt false)]⟩] (r := B (false)) (hp := []) (ob := [(e == e2) = true, decide (c = c2) = false]) rfl (by kernel_rfl) ⟨hc1, (decide_eq_false hc2), trivial⟩ ?_ trivial trivial rfl
    case' ga4 =>
      refine (Classical.em (c = { data := #[] })).elim (fun hc3 => ?ga5) (fun hc3 => ?gb5)
      case' gb5 =>
        refine (Classical.em (d2 = d + b)).elim (fun hc4 => ?ga6) (fun hc4 => ?gb6)
        case' gb6 =>
          refine Safe.ends mixed Go.Proofs.Try.func38 4 [⟨100, []⟩, ⟨200, [(4, .tt true), (10, .tt true), (15, .tt false), (24, .tt false)]⟩] (r := B (false)) (hp := []) (ob := [(e == e2) = true, decide (c = c2) = true, decide (c = { data := #[] }) = false, inK IntKind.i64 (d + b), decide (d2 = d + b) = false]) rfl (by kernel_rfl) ⟨hc1, (decide_eq_true hc2), (decide_eq_false hc3), (by simp only [inK]; omega), (decide_eq_false hc4), trivial⟩ ?_ trivial trivial rfl
        case' ga6 =>
          refine Safe.ends mixed Go.Proofs.Try.func38 4 [⟨100, []⟩, ⟨200, [(4, .tt true), (10, .tt true), (15, .tt false), (24, .tt true)]⟩] (r := B (decide (b + b2 ≤ (16777216 : Int)))) (hp := []) (ob := [(e == e2) = true, decide (c = c2) = true, decide (c = { data := #[] }) = false, inK IntKind.i64 (d + b), decide (d2 = d + b) = true, inK IntKind.i64 (b + b2)]) rfl (by kernel_rfl) ⟨hc1, (decide_eq_true hc2), (decide_eq_false hc3), (by simp only [inK]; omega), (decide_eq_true hc4), (by simp only [inK]; omega), trivial⟩ ?_ trivial trivial rfl
      case' ga5 =>
        refine Safe.ends mixed Go.Proofs.Try.func38 4 [⟨100, []⟩, ⟨200, [(4, .tt true), (10, .tt true), (15, .tt true)]⟩] (r := B (decide (b + b2 ≤ (16777216 : Int)))) (hp := []) (ob := [(e == e2) = true, decide (c = c2) = true, decide (c = { data := #[] }) = true, inK IntKind.i64 (b + b2)]) rfl (by kernel_rfl) ⟨hc1, (decide_eq_true hc2), (decide_eq_true hc3), (by simp only [inK]; omega), trivial⟩ ?_ trivial trivial rfl
  all_goals (show B _ = B _; unfold goesF; simp_all)
end Go.Proofs.Ytcomimabihbfgaa
