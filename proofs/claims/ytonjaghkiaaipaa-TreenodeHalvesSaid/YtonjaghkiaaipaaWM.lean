/- slices.Insert at entries. No conditions but those of each theorem. -/
import Derived.Test.YtonjaghkiaaipaaSyZ
import Derived.KernelRfl
import Derived.Test.YtonjaghkiaaipaaWB
import Derived.Shelf.Spec.SlicesInsert
import Derived.Lib.AppendZerosOnto
import Derived.Laws.NewBlocks
import Derived.Laws.CopyRow
namespace Go.Proofs.Ytonjaghkiaaipaa
open Go.RowKit Go.Shelf Go.Lib
set_option linter.unusedVariables false
set_option linter.unnecessarySimpa false
set_option linter.unusedSimpArgs false
theorem copy2 (w : World) (ty : TypeId) (g o dLen dCap : Nat) (a : Addr) (sLen sCap : Nat) (cur : Array Value) (t : TypeId) (cs : List Value)
    (hg : w.heap[g]? = some (.cells cur t (0, 0))) (hn : cs.length = Nat.min sLen dLen * 2)
    (hsrc : ∀ j v, cs[j]? = some v → w.cell? (a.add j) = some v) (hfit : o + cs.length ≤ cur.size) (h1 : ∀ v ∈ cs, v.oneCell' = true) :
    (Builtin.copy_ #[25, 25] ty #[.slice (some ⟨g, o, none⟩) dLen dCap, .slice (some a) sLen sCap]).run Try.prog w =
      .ok (goInt (Nat.min sLen dLen)) (w.setRow g (cur.toList.take o ++ cs ++ cur.toList.drop (o + cs.length)).toArray) := by
  have hl := run_loadCells_list (P := Try.prog) w a cs hsrc
  have hst := run_storeCells_at Try.prog g o t cs 0 cur w hg (by simpa using hfit) h1
  have hs : (Try.prog.info? 52).map (·.size) = some 2 := by kernel_rfl
  cases hq : Try.prog.info? 52 with
  | none => simp [hq] at hs
  | some i =>
    have hi : i.size = 2 := by simpa [hq] using hs
    simp [Builtin.copy_, run_underlying Try.underlying25, Builtin.lenOf, Builtin.firstCells, sizeOf, typeInfo, hq, hi, ← hn, hl, hst]
theorem size52 (w : World) : (Go.sizeOf 52).run Try.prog w = .ok 2 w := by
  have hs : (Try.prog.info? 52).map (·.size) = some 2 := by kernel_rfl
  cases hq : Try.prog.info? 52 with
  | none => simp [hq] at hs
  | some i =>
    have hi : i.size = 2 := by simpa [hq] using hs
    simp [sizeOf, typeInfo, hq, hi]
theorem shift_list (l cv : List Value) (n m i c : Nat) (hi : i < n) (hroom : n + m ≤ c) (hl : l.length = c * 2) (hv : m * 2 ≤ cv.length) :
    (((l.take ((i + m) * 2) ++ (l.drop (i * 2)).take ((n - i) * 2) ++ l.drop ((i + m) * 2 + (n - i) * 2)).take (i * 2) ++ cv.take (m * 2) ++ (l.take ((i + m) * 2) ++ (l.drop (i * 2)).take ((n - i) * 2) ++ l.drop ((i + m) * 2 + (n - i) * 2)).drop (i * 2 + m * 2))).take ((n + m) * 2)
      = l.take (i * 2) ++ cv.take (m * 2) ++ (l.drop (i * 2)).take ((n - i) * 2) := by
  apply List.ext_getElem?
  intro j
  simp only [List.getElem?_take, List.getElem?_append, List.length_append, List.length_take, List.length_drop, List.getElem?_drop, hl]
  by_cases h1 : j < i * 2
  · rw [if_pos (by omega)]
    repeat (first | rw [if_pos (by omega)] | rw [if_neg (by omega)])
  · by_cases h2 : j < i * 2 + m * 2
    · rw [if_pos (by omega)]
      repeat (first | rw [if_pos (by omega)] | rw [if_neg (by omega)])
      congr 1
      omega
    · by_cases h3 : j < (n + m) * 2
      · rw [if_pos h3]
        repeat (first | rw [if_pos (by omega)] | rw [if_neg (by omega)])
        congr 1
        omega
      · rw [if_neg h3]
        repeat (first | rw [if_pos (by omega)] | rw [if_neg (by omega)])
set_option maxHeartbeats 4000000 in
set_option maxRecDepth 100000 in
theorem ins_shift (b n c i vb m vc : Nat) (cur cv : Array Value) (w : World) (hi : i < n) (hm : 0 < m) (hroom : n + m ≤ c) (hc63 : c ≤ 9223372036854775807) (hvb : vb ≠ b)
    (hg : w.heap[b]? = some (.cells cur 52 (0, 0))) (hsz : cur.size = c * 2) (hv : w.heap[vb]? = some (.cells cv 52 (0, 0))) (hvs : m * 2 ≤ cv.size)
    (h1c : ∀ u ∈ cur.toList.take (n * 2), u.oneCell' = true) (h1v : ∀ u ∈ cv.toList.take (m * 2), u.oneCell' = true) :
    Calls Try.prog 48 #[.slice (some ⟨b, 0, none⟩) n c, .int .i64 i, .slice (some ⟨vb, 0, none⟩) m vc] w fun e w' =>
      e = .returned (.slice (some ⟨b, 0, none⟩) (n + m) c) ∧ ∃ cur', w'.heap[b]? = some (.cells cur' 52 (0, 0)) ∧ cur'.size = c * 2 ∧
        cur'.toList.take ((n + m) * 2) = cur.toList.take (i * 2) ++ cv.toList.take (m * 2) ++ (cur.toList.drop (i * 2)).take ((n - i) * 2) ∧ w.grownBy w' (some b) := by
  have hov : ∀ o lb cb, (callFunc 60 #[.slice (some ⟨vb, 0, none⟩) m vc, .slice (some ⟨b, o, none⟩) lb cb]).run Try.prog w = .ok (.value (.bool false)) w := fun o lb cb => by
    rw [run_callFunc_extern Try.func60 (by kernel_rfl) (by kernel_rfl) (by kernel_rfl) (e := Extern.SlicesOverlaps.overlaps #[25, 25] #[4]) (by kernel_rfl),
      Lib.run_overlaps_apart w 25 4 52 Try.underlying25 2 size52 ⟨vb, 0, none⟩ ⟨b, o, none⟩ m vc lb cb hvb 52 52 cv.size cur.size (by simp [World.shape?, hv]) (by simp [World.shape?, hg]) (by omega) (by simp [World.frozen?, hv]) (by simp [World.frozen?, hv])]
    rfl
  have hz1 : ¬ ((m : Int) = 0) := by omega
  have hz2 : ¬ ((i : Int) = (n : Int)) := by omega
  have mixed := mixed
  have hw1 : IntKind.i64.wrap ((i : Int) + (m : Int)) = (i : Int) + (m : Int) := by rw [IntKind.wrap_i64]; omega
  have hw2 : IntKind.i64.wrap ((n : Int) + (m : Int)) = (n : Int) + (m : Int) := by rw [IntKind.wrap_i64]; omega
  have hb1 : (0 : Int) ≤ (i : Int) + (m : Int) := by omega
  have hin : i ≤ n := by omega
  have htn : ((i : Int) + (m : Int)).toNat = i + m := by omega
  have hb2 : ¬ (c = i + m) := by omega
  have hb3 : (i : Int) ≤ (n : Int) + (m : Int) := by omega
  have hb4 : ¬ (c = i) := by omega
  have hcl : cur.toList.length = c * 2 := by rw [Array.length_toList, hsz]
  have hvl : m * 2 ≤ cv.toList.length := by rw [Array.length_toList]; exact hvs
  obtain ⟨l, hl⟩ : ∃ l, cur.toList = l := ⟨_, rfl⟩
  obtain ⟨lv, hlv⟩ : ∃ l, cv.toList = l := ⟨_, rfl⟩
  have hcell : ∀ j v, l[j]? = some v → w.cell? ⟨b, j, none⟩ = some v := fun j v h => by rw [cell_of_row w b j cur 52 (0, 0) hg, ← Array.getElem?_toList, hl]; exact h
  have hcellv : ∀ j v, lv[j]? = some v → w.cell? ⟨vb, j, none⟩ = some v := fun j v h => by rw [cell_of_row w vb j cv 52 (0, 0) hv, ← Array.getElem?_toList, hlv]; exact h
  rw [hl] at hcl h1c ⊢
  rw [hlv] at hvl h1v ⊢
  obtain ⟨cs1, hcs1⟩ : ∃ x, (l.drop (i * 2)).take ((n - i) * 2) = x := ⟨_, rfl⟩
  have hcs1l : cs1.length = (n - i) * 2 := by rw [← hcs1, List.length_take, List.length_drop]; omega
  obtain ⟨cur1, hcur1⟩ : ∃ x, (l.take ((i + m) * 2) ++ cs1 ++ l.drop ((i + m) * 2 + cs1.length)).toArray = x := ⟨_, rfl⟩
  have hcp1 : ∀ ty dc sc, (Builtin.copy_ #[25, 25] ty #[.slice (some ⟨b, (i + m) * 2, none⟩) (n + m - (i + m)) dc, .slice (some ⟨b, i * 2, none⟩) (n + m - i) sc]).run Try.prog w.drew = .ok (goInt (Nat.min (n + m - i) (n + m - (i + m)))) (w.drew.setRow b cur1) := fun ty dc sc => by
    have := copy2 w.drew ty b ((i + m) * 2) (n + m - (i + m)) dc ⟨b, i * 2, none⟩ (n + m - i) sc cur 52 cs1 hg (by rw [hcs1l]; simp only [Nat.min_def]; split <;> omega) (fun j v hj => by
      rw [Addr.add_lit]
      refine hcell _ v ?_
      rw [← hcs1, List.getElem?_take] at hj
      split at hj
      · rwa [List.getElem?_drop] at hj
      · cases hj) (by rw [hcs1l]; omega) (fun u hu => by
        rw [← hcs1] at hu
        obtain ⟨j, hj⟩ := List.getElem?_of_mem hu
        rw [List.getElem?_take] at hj
        split at hj
        · rw [List.getElem?_drop] at hj
          exact h1c u (List.mem_of_getElem? (i := i * 2 + j) (by rw [List.getElem?_take_of_lt (by omega)]; exact hj))
        · cases hj)
    rw [hl, hcur1] at this
    exact this
  have hcur1s : cur1.toList = l.take ((i + m) * 2) ++ cs1 ++ l.drop ((i + m) * 2 + cs1.length) := by rw [← hcur1]
  have hcur1l : cur1.toList.length = c * 2 := by rw [hcur1s]; simp only [List.length_append, List.length_take, List.length_drop]; omega
  obtain ⟨cur2, hcur2⟩ : ∃ x, (cur1.toList.take (i * 2) ++ lv.take (m * 2) ++ cur1.toList.drop (i * 2 + (lv.take (m * 2)).length)).toArray = x := ⟨_, rfl⟩
  obtain ⟨W1, hW1⟩ : ∃ W1, W1 = w.drew.setRow b cur1 := ⟨_, rfl⟩
  have hW1b : W1.heap[b]? = some (.cells cur1 52 (0, 0)) := by rw [hW1]; exact setRow_heap w.drew b cur cur1 52 _ hg
  have hW1v : W1.heap[vb]? = some (.cells cv 52 (0, 0)) := by rw [hW1, setRow_other w.drew b vb cur1 hvb]; exact hv
  have hvm : (lv.take (m * 2)).length = m * 2 := by rw [List.length_take]; omega
  have hcp2 : ∀ (W : World), W.heap = W1.heap → ∀ ty dc, (Builtin.copy_ #[25, 25] ty #[.slice (some ⟨b, i * 2, none⟩) (n + m - i) dc, .slice (some ⟨vb, 0, none⟩) m vc]).run Try.prog W = .ok (goInt (Nat.min m (n + m - i))) (W.setRow b cur2) := fun W hW ty dc => by
    have := copy2 W ty b (i * 2) (n + m - i) dc ⟨vb, 0, none⟩ m vc cur1 52 (lv.take (m * 2)) (by rw [hW]; exact hW1b) (by rw [hvm]; simp only [Nat.min_def]; split <;> omega) (fun j v hj => by
      rw [Addr.add_lit, Nat.zero_add, cell_of_row W vb j cv 52 (0, 0) (by rw [hW]; exact hW1v), ← Array.getElem?_toList, hlv]
      rw [List.getElem?_take] at hj
      split at hj
      · exact hj
      · cases hj) (by rw [hvm, ← Array.length_toList, hcur1l]; omega) h1v
    rw [hcur2] at this
    exact this
  rw [← hW1] at hcp1
  go_enter Try.func48, Try.ntmps48
  go_wp2_with (simp only [hov])
  go_region_law_o (refine step_copy_runI rfl _ _ 25 25 rfl _ _ (by simp [Act.eval, Act.put]) (by simp [Act.eval, Act.put]) (hcp1 _ _ _) ?_)
  go_wp2_with (at_builtin; refine wpList_copy_runI _ rfl _ _ 25 25 rfl _ _ rfl rfl (hcp2 _ rfl _ _) ?_)
  go_ret
  refine ⟨rfl, cur2, setRow_heap _ b cur1 cur2 52 _ (by rw [← hW1]; exact hW1b), ?_, ?_, ?_⟩
  · rw [← Array.length_toList, ← hcur2]
    simp only [List.length_append, List.length_take, List.length_drop, hcur1l]
    omega
  · rw [← hcur2, hcur1s, hvm, hcs1l, ← hcs1]
    exact shift_list l lv n m i c hi hroom hcl hvl
  · refine ⟨rfl, rfl, rfl, by simp, fun k hk hne => ?_⟩
    have hkb : k ≠ b := fun e => hne (by rw [e])
    rw [setRow_other _ b k cur2 hkb, setRow_other _ b k cur1 hkb]
    rfl
theorem grow_list (l cv z1 z2 : List Value) (n m i G : Nat) (hi : i < n) (hG : n + m ≤ G) (hl : n * 2 ≤ l.length) (hv : m * 2 ≤ cv.length) (h1 : z1.length = (n + m - i) * 2) (h2 : z2.length = (G - (n + m)) * 2) :
    ((((l.take (i * 2) ++ z1 ++ z2).take (i * 2) ++ cv.take (m * 2) ++ (l.take (i * 2) ++ z1 ++ z2).drop (i * 2 + m * 2)).take ((i + m) * 2) ++ (l.drop (i * 2)).take ((n - i) * 2) ++ ((l.take (i * 2) ++ z1 ++ z2).take (i * 2) ++ cv.take (m * 2) ++ (l.take (i * 2) ++ z1 ++ z2).drop (i * 2 + m * 2)).drop ((i + m) * 2 + (n - i) * 2))).take ((n + m) * 2)
      = l.take (i * 2) ++ cv.take (m * 2) ++ (l.drop (i * 2)).take ((n - i) * 2) := by
  apply List.ext_getElem?
  intro j
  simp only [List.getElem?_take, List.getElem?_append, List.length_append, List.length_take, List.length_drop, List.getElem?_drop, h1, h2]
  by_cases g1 : j < i * 2
  · rw [if_pos (by omega)]
    repeat (first | rw [if_pos (by omega)] | rw [if_neg (by omega)])
  · by_cases g2 : j < i * 2 + m * 2
    · rw [if_pos (by omega)]
      repeat (first | rw [if_pos (by omega)] | rw [if_neg (by omega)])
      congr 1
      omega
    · by_cases g3 : j < (n + m) * 2
      · rw [if_pos g3]
        repeat (first | rw [if_pos (by omega)] | rw [if_neg (by omega)])
        congr 1
        omega
      · rw [if_neg g3]
        repeat (first | rw [if_pos (by omega)] | rw [if_neg (by omega)])
theorem zeros_size (z : Array Value) (n : Nat) : (Builtin.zeroCells z n).toList.length = n * z.size := by simp [Builtin.zeroCells]
set_option maxHeartbeats 4000000 in
set_option maxRecDepth 100000 in
theorem ins_grow (b n c i vb m vc : Nat) (cur cv : Array Value) (w : World) (hi : i < n) (hm : 0 < m) (hnc : n ≤ c) (hroom : c < n + m) (hbig : n + m ≤ 1000000) (hvb : vb ≠ b)
    (hg : w.heap[b]? = some (.cells cur 52 (0, 0))) (hsz : cur.size = c * 2) (hv : w.heap[vb]? = some (.cells cv 52 (0, 0))) (hvs : m * 2 ≤ cv.size)
    (h1c : ∀ u ∈ cur.toList.take (n * 2), u.oneCell' = true) (h1v : ∀ u ∈ cv.toList.take (m * 2), u.oneCell' = true) :
    Calls Try.prog 48 #[.slice (some ⟨b, 0, none⟩) n c, .int .i64 i, .slice (some ⟨vb, 0, none⟩) m vc] w fun e w' =>
      ∃ G, n + m ≤ G ∧ G ≤ maxLen ∧ e = .returned (.slice (some ⟨w.heap.size, 0, none⟩) (n + m) G) ∧ ∃ cur', w'.heap[w.heap.size]? = some (.cells cur' 52 (0, 0)) ∧ cur'.size = G * 2 ∧
        cur'.toList.take ((n + m) * 2) = cur.toList.take (i * 2) ++ cv.toList.take (m * 2) ++ (cur.toList.drop (i * 2)).take ((n - i) * 2) ∧ w.grownBy w' none := by
  obtain ⟨i0, hi0, hz0, hzs, hzb⟩ := OldB.info_parts (show (Try.prog.info? 52).map (fun i => (i.zero, i.size, i.bytes)) = some (some (.agg #[.int .i64 0, .int .u64 0]), 2, 16) by kernel_rfl)
  have hz1 : ¬ ((m : Int) = 0) := by omega
  have hz2 : ¬ ((i : Int) = (n : Int)) := by omega
  have hz3 : (c : Int) < (n : Int) + (m : Int) := by omega
  have hbw : b < w.heap.size := (Array.getElem?_eq_some_iff.1 hg).1
  have hvw : vb < w.heap.size := (Array.getElem?_eq_some_iff.1 hv).1
  have hkk : (n : Int) + (m : Int) - (i : Int) = ((n + m - i : Nat) : Int) := by omega
  have hik : i + (n + m - i) = n + m := by omega
  have mixed := mixed
  have hw2 : IntKind.i64.wrap ((n : Int) + (m : Int)) = (n : Int) + (m : Int) := by rw [IntKind.wrap_i64]; omega
  have hw3 : IntKind.i64.wrap ((n : Int) + (m : Int) - (i : Int)) = (n : Int) + (m : Int) - (i : Int) := by rw [IntKind.wrap_i64]; omega
  have hcl : cur.toList.length = c * 2 := by rw [Array.length_toList, hsz]
  have hvl : m * 2 ≤ cv.toList.length := by rw [Array.length_toList]; exact hvs
  obtain ⟨l, hl⟩ : ∃ l, cur.toList = l := ⟨_, rfl⟩
  obtain ⟨lv, hlv⟩ : ∃ l, cv.toList = l := ⟨_, rfl⟩
  have hcell : ∀ j v, l[j]? = some v → w.cell? ⟨b, j, none⟩ = some v := fun j v h => by rw [cell_of_row w b j cur 52 (0, 0) hg, ← Array.getElem?_toList, hl]; exact h
  rw [hl] at hcl h1c ⊢
  rw [hlv] at hvl h1v ⊢
  have hold : (Builtin.firstCells i0.size i (.slice (some ⟨b, 0, none⟩) i c)).run Try.prog w.drew = .ok (l.take (i * 2)).toArray w.drew := by
    rw [hzs]
    exact run_firstCells_some w.drew 2 i ⟨b, 0, none⟩ i c (l.take (i * 2)) (by rw [List.length_take]; omega) (fun j v hj => by
      rw [Addr.add_lit, Nat.zero_add]
      rw [List.getElem?_take] at hj
      split at hj
      · exact hcell j v hj
      · cases hj)
  have hrz : ∀ ty, (Builtin.append_ #[25, 3] ty #[.slice (some ⟨b, 0, none⟩) i c, .int .i64 ((n : Int) + (m : Int) - (i : Int))]).run Try.prog w =
      .ok (.slice (some ⟨w.heap.size, 0, none⟩) (n + m) (grownCap w (n + m) c 52)) (w.drew.alloc (.cells ((l.take (i * 2)).toArray ++ Builtin.zeroCells (Value.agg #[.int .i64 0, .int .u64 0]).cells (n + m - i) ++ Builtin.zeroCells (Value.agg #[.int .i64 0, .int .u64 0]).cells (grownCap w (n + m) c 52 - (n + m))) 52)) := fun ty => by
    have h := Lib.run_append_grow_zeros w 25 3 ty 52 i0 _ .i64 .i64 Try.underlying25 Try.underlying3 hi0 hz0 (some ⟨b, 0, none⟩) i c (l.take (i * 2)) hold (n + m - i) (by omega) (by omega) (by omega) (by omega) (by rw [hzb]; omega) (by rw [hzb, hik]; exact growslice_fits hroom (by omega))
    rw [hik] at h
    rw [hkk]
    exact h
  obtain ⟨G, hG⟩ : ∃ G, G = grownCap w (n + m) c 52 := ⟨_, rfl⟩
  have hGn : n + m ≤ G := by rw [hG]; exact grownCap_ge w _ _ _
  have hG63 : G ≤ maxLen := by
    rw [hG]
    exact grownCap_le_maxLen w (n + m) c 52 (by unfold maxLen; omega)
  obtain ⟨ROW, hROW⟩ : ∃ ROW : Array Value, ROW = (l.take (i * 2)).toArray ++ Builtin.zeroCells (Value.agg #[.int .i64 0, .int .u64 0]).cells (n + m - i) ++ Builtin.zeroCells (Value.agg #[.int .i64 0, .int .u64 0]).cells (G - (n + m)) := ⟨_, rfl⟩
  rw [← hG] at hrz
  rw [← hROW] at hrz
  obtain ⟨z1, hz1'⟩ : ∃ z1, (Builtin.zeroCells (Value.agg #[.int .i64 0, .int .u64 0]).cells (n + m - i)).toList = z1 := ⟨_, rfl⟩
  obtain ⟨z2, hz2'⟩ : ∃ z2, (Builtin.zeroCells (Value.agg #[.int .i64 0, .int .u64 0]).cells (G - (n + m))).toList = z2 := ⟨_, rfl⟩
  have hz1l : z1.length = (n + m - i) * 2 := by rw [← hz1', zeros_size]; rfl
  have hz2l : z2.length = (G - (n + m)) * 2 := by rw [← hz2', zeros_size]; rfl
  have hRl : ROW.toList = l.take (i * 2) ++ z1 ++ z2 := by rw [hROW, Array.toList_append, Array.toList_append, hz1', hz2']
  have hRs : ROW.toList.length = G * 2 := by rw [hRl]; simp only [List.length_append, List.length_take]; omega
  clear hROW
  obtain ⟨W1, hW1⟩ : ∃ W1, W1 = w.drew.alloc (.cells ROW 52) := ⟨_, rfl⟩
  rw [← hW1] at hrz
  have hW1g : W1.heap[w.heap.size]? = some (.cells ROW 52 (0, 0)) := by rw [hW1]; exact heap_alloc_new w.drew _
  have hW1o : ∀ k, k < w.heap.size → W1.heap[k]? = w.heap[k]? := fun k hk => by rw [hW1]; exact Below.heap_alloc w.drew _ k hk
  have hvm : (lv.take (m * 2)).length = m * 2 := by rw [List.length_take]; omega
  obtain ⟨curA, hcurA⟩ : ∃ x, (ROW.toList.take (i * 2) ++ lv.take (m * 2) ++ ROW.toList.drop (i * 2 + (lv.take (m * 2)).length)).toArray = x := ⟨_, rfl⟩
  have hcurAs : curA.toList = ROW.toList.take (i * 2) ++ lv.take (m * 2) ++ ROW.toList.drop (i * 2 + (lv.take (m * 2)).length) := by rw [← hcurA]
  have hcurAl : curA.toList.length = G * 2 := by rw [hcurAs]; simp only [List.length_append, List.length_take, List.length_drop, hRs]; omega
  have hcpA : ∀ (W : World), W.heap = W1.heap → ∀ ty dc, (Builtin.copy_ #[25, 25] ty #[.slice (some ⟨w.heap.size, i * 2, none⟩) (n + m - i) dc, .slice (some ⟨vb, 0, none⟩) m vc]).run Try.prog W = .ok (goInt (Nat.min m (n + m - i))) (W.setRow w.heap.size curA) := fun W hW ty dc => by
    have := copy2 W ty w.heap.size (i * 2) (n + m - i) dc ⟨vb, 0, none⟩ m vc ROW 52 (lv.take (m * 2)) (by rw [hW]; exact hW1g) (by rw [hvm]; simp only [Nat.min_def]; split <;> omega) (fun j v hj => by
      rw [Addr.add_lit, Nat.zero_add, cell_of_row W vb j cv 52 (0, 0) (by rw [hW, hW1o vb hvw]; exact hv), ← Array.getElem?_toList, hlv]
      rw [List.getElem?_take] at hj
      split at hj
      · exact hj
      · cases hj) (by rw [hvm, ← Array.length_toList, hRs]; omega) h1v
    rw [hcurA] at this
    exact this
  obtain ⟨cs1, hcs1⟩ : ∃ x, (l.drop (i * 2)).take ((n - i) * 2) = x := ⟨_, rfl⟩
  have hcs1l : cs1.length = (n - i) * 2 := by rw [← hcs1, List.length_take, List.length_drop]; omega
  obtain ⟨curB, hcurB⟩ : ∃ x, (curA.toList.take ((i + m) * 2) ++ cs1 ++ curA.toList.drop ((i + m) * 2 + cs1.length)).toArray = x := ⟨_, rfl⟩
  have hW2g : ∀ W : World, W.heap = W1.heap → (W.setRow w.heap.size curA).heap[w.heap.size]? = some (.cells curA 52 (0, 0)) := fun W hW => setRow_heap W w.heap.size ROW curA 52 _ (by rw [hW]; exact hW1g)
  have hbN : b ≠ w.heap.size := by omega
  have hcpB : ∀ (W : World), W.heap = (W1.setRow w.heap.size curA).heap → ∀ ty dc sc, (Builtin.copy_ #[25, 25] ty #[.slice (some ⟨w.heap.size, (i + m) * 2, none⟩) (n + m - (i + m)) dc, .slice (some ⟨b, i * 2, none⟩) (n - i) sc]).run Try.prog W = .ok (goInt (Nat.min (n - i) (n + m - (i + m)))) (W.setRow w.heap.size curB) := fun W hW ty dc sc => by
    have := copy2 W ty w.heap.size ((i + m) * 2) (n + m - (i + m)) dc ⟨b, i * 2, none⟩ (n - i) sc curA 52 cs1 (by rw [hW]; exact hW2g W1 rfl) (by rw [hcs1l]; simp only [Nat.min_def]; split <;> omega) (fun j v hj => by
      rw [Addr.add_lit, cell_of_row W b _ cur 52 (0, 0) (by rw [hW, setRow_other W1 _ b curA hbN, hW1o b hbw]; exact hg), ← Array.getElem?_toList, hl]
      rw [← hcs1, List.getElem?_take] at hj
      split at hj
      · rwa [List.getElem?_drop] at hj
      · cases hj) (by rw [hcs1l, ← Array.length_toList, hcurAl]; omega) (fun u hu => by
        rw [← hcs1] at hu
        obtain ⟨j, hj⟩ := List.getElem?_of_mem hu
        rw [List.getElem?_take] at hj
        split at hj
        · rw [List.getElem?_drop] at hj
          exact h1c u (List.mem_of_getElem? (i := i * 2 + j) (by rw [List.getElem?_take_of_lt (by omega)]; exact hj))
        · cases hj)
    rw [hcurB] at this
    exact this
  have hG64 : G ≤ 9223372036854775807 := by unfold maxLen at hG63; omega
  have hGi : ¬ (G = i) := by omega
  have hGim : ¬ (G = i + m) := by omega
  have hci : ¬ (c = i) := by omega
  have hw1 : IntKind.i64.wrap ((i : Int) + (m : Int)) = (i : Int) + (m : Int) := by rw [IntKind.wrap_i64]; omega
  have hb1 : (0 : Int) ≤ (i : Int) + (m : Int) := by omega
  have hin : i ≤ n := by omega
  have htn : ((i : Int) + (m : Int)).toNat = i + m := by omega
  have hb3 : (i : Int) ≤ (n : Int) := by omega
  have HF := OldB.hid (show curB.toList.length = G * 2 ∧ curB.toList.take ((n + m) * 2) = l.take (i * 2) ++ lv.take (m * 2) ++ (l.drop (i * 2)).take ((n - i) * 2) by
    rw [← hcurB]
    refine ⟨by simp only [List.length_append, List.length_take, List.length_drop, hcurAl]; omega, ?_⟩
    rw [hcurAs, hRl, hvm, hcs1l, ← hcs1]
    exact grow_list l lv z1 z2 n m i G hi hGn (by omega) hvl hz1l hz2l)
  clear hG hkk hik hold hRl hcurAs hcurA hcurB hcs1 hRs hcurAl hz1l hz2l hz1' hz2'
  subst hW1
  have hE1 : ((w.alloc (.cells ROW 52)).drew).heap = (w.drew.alloc (.cells ROW 52)).heap := rfl
  have hF1 : (((w.alloc (.cells ROW 52)).drew.setRow w.heap.size curA).drew).heap = ((w.drew.alloc (.cells ROW 52)).setRow w.heap.size curA).heap := rfl
  go_enter Try.func48, Try.ntmps48
  go_wp2_with (first
    | (at_builtin; refine Lib.wpList_append_run _ rfl _ _ _ _ rfl _ _ rfl rfl _ _ (hrz _) ?_)
    | (at_builtin; refine wpList_copy_runI _ rfl _ _ 25 25 rfl _ _ rfl rfl (hcpA _ hE1 _ _) ?_)
    | (at_builtin; refine wpList_copy_runI _ rfl _ _ 25 25 rfl _ _ rfl rfl (hcpB _ rfl _ _ _) ?_))
  go_region_law_o (refine step_copy_runI rfl _ _ 25 25 rfl (.slice (some ⟨w.heap.size, (i + m) * 2, none⟩) (n + m - (i + m)) (G - (i + m))) (.slice (some ⟨b, i * 2, none⟩) (n - i) (c - i)) (by simp [Act.eval, Act.put]) (by simp [Act.eval, Act.put]) (hcpB _ hF1 3 (G - (i + m)) (c - i)) ?_)
  go_wp2
  go_ret
  refine ⟨G, hGn, hG63, rfl, curB, ?_, by rw [← Array.length_toList]; exact HF.out.1, HF.out.2, ?_⟩
  · exact setRow_heap _ w.heap.size curA curB 52 _ (hW2g ((w.alloc (.cells ROW 52)).drew) hE1)
  · refine ⟨rfl, rfl, rfl, by simp, fun k hk _ => ?_⟩
    have hkb : k ≠ w.heap.size := by omega
    rw [setRow_other _ _ k curB hkb]
    show (((w.alloc (.cells ROW 52)).drew).setRow w.heap.size curA).heap[k]? = _
    rw [setRow_other _ _ k curA hkb]
    exact hW1o k hk
end Go.Proofs.Ytonjaghkiaaipaa
