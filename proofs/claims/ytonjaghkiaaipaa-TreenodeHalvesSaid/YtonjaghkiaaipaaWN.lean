/- slices.Insert at entries, told by objects; Put in the middle. No conditions but those of each theorem. -/
import Derived.Test.YtonjaghkiaaipaaSyZ
import Derived.KernelRfl
import Derived.Test.YtonjaghkiaaipaaWM
namespace Go.Proofs.Ytonjaghkiaaipaa
open Go.RowKit
set_option linter.unusedVariables false
set_option linter.unnecessarySimpa false
set_option linter.unusedSimpArgs false
theorem cells_ins (xs vs : List Value) (N i q : Nat) (hi : i < N) (hx : xs.length = N * 2) (hv : vs.length = 2) (hq : q < N + 1) :
    cellsAt (xs.take (i * 2) ++ vs ++ xs.drop (i * 2)) 2 q = if q < i then cellsAt xs 2 q else if q = i then cellsAt vs 2 0 else cellsAt xs 2 (q - 1) := by
  apply List.ext_getElem?
  intro j
  unfold cellsAt
  by_cases hj : j < 2
  · rw [List.getElem?_take_of_lt hj, List.getElem?_drop]
    simp only [List.getElem?_append, List.length_append, List.length_take, hx, hv]
    by_cases h1 : q < i
    · rw [if_pos h1, if_pos (by omega), if_pos (by omega), List.getElem?_take_of_lt (by omega), List.getElem?_take_of_lt hj, List.getElem?_drop]
    · rw [if_neg h1]
      by_cases h2 : q = i
      · rw [if_pos h2, if_pos (by omega), if_neg (by omega), List.getElem?_take_of_lt hj, List.getElem?_drop]
        congr 1
        omega
      · rw [if_neg h2, if_neg (by omega), List.getElem?_drop, List.getElem?_take_of_lt hj, List.getElem?_drop]
        congr 1
        omega
  · rw [List.getElem?_eq_none (by rw [List.length_take]; omega)]
    split
    · rw [List.getElem?_eq_none (by rw [List.length_take]; omega)]
    · split
      · rw [List.getElem?_eq_none (by rw [List.length_take]; omega)]
      · rw [List.getElem?_eq_none (by rw [List.length_take]; omega)]
/-- an own slice with elements: its block -/
theorem vec_block {E : Env} {W : World} {id n : Nat} {row : Nat → List AV} {c : Value} (hn : 0 < n) (hh : Holds E W id (.vec 52 2 n row)) (hc : RV E (.sl id 0 2 n none) c) :
    ∃ g cap cur, E id = some (some ⟨g, 0, none⟩, cap) ∧ c = .slice (some ⟨g, 0, none⟩) n cap ∧ W.heap[g]? = some (.cells cur 52 (0, 0)) ∧ n ≤ cap ∧ cap ≤ maxLen ∧ cur.size = cap * 2 ∧ (∀ u ∈ cur.toList.take (n * 2), u.oneCell' = true) ∧ RowsOK E 2 n row (cur.toList.take (n * 2)) := by
  obtain ⟨b, k, xs, h1, h2, h3, h4⟩ := hh
  rcases h2 with ⟨hl, ⟨_, h0⟩ | ⟨g, cap, cur, hv, _, hcur, hc1, hm, hs, ht⟩⟩
  · omega
  simp only [Value.slice.injEq, true_and] at hv
  obtain ⟨rfl, rfl⟩ := hv
  simp only [RV] at hc
  obtain ⟨b2, k2, h6, h7⟩ := hc
  rw [h1] at h6
  simp only [Option.some.injEq, Prod.mk.injEq] at h6
  obtain ⟨rfl, rfl⟩ := h6
  obtain ⟨o, m, rfl, h8, h9, h10, h11⟩ := h7
  have hmk : m = k := by simpa using h11
  subst hmk
  have ho := h10 (by omega)
  simp at ho
  subst ho
  subst ht
  exact ⟨g, m, cur, h1, rfl, hcur, hc1, hm, hs, h3, h4⟩
theorem rvs_encE (E E' : Env) (e : En) (l : List Value) (h : RVs E (encE e) l) : RVs E' (encE e) l := by
  simp only [encE, RVs, RV] at h ⊢
  exact h
theorem insE_mid (key value : Int) (L : List En) (N i : Nat) (hL : L.length = N) (hN : N ≤ 1000) (hi : i < N) : CallOK Try.prog 48 [.sl 0 0 2 N none, I i, .sl 1 0 2 1 none] [(0, .vec 52 2 N (rowG encE L)), (1, .vec 52 2 1 (rowsOf [I key, U value] 2))] (.sl 10 0 2 (N + 1) none) [(0, none), (10, some (.vec 52 2 (N + 1) (rowG encE (putL L i i key value))))] := by
  refine ⟨enters_of Try.func48 (by kernel_rfl) rfl, fun E W cargs ha hr hn => ?_⟩
  simp only [RVs] at ha
  obtain ⟨c1, l1, rfl, g1, c2, l2, rfl, g2, c3, l3, rfl, g3, rfl⟩ := ha
  simp only [RV] at g2
  subst g2
  have hh0 := hr.holds 0 _ rfl
  have hh1 := hr.holds 1 _ rfl
  obtain ⟨b, c, cur, e0, rfl, hcur, hnc, hcm, hsz, ho, hrow⟩ := vec_block (by omega) hh0 g1
  obtain ⟨vb, vc, cv, e1, rfl, hcv, hvc, hvm, hvs, hvo, hvrow⟩ := vec_block (by omega) hh1 g3
  have hvb : vb ≠ b := fun e => hr.apart 0 1 _ _ rfl rfl (by omega) rfl b (by simp [blkOf, e0]) (by simp [blkOf, e1, e])
  have hn10 : E 10 = none := hn 10 (by show 10 ∈ [10]; simp)
  have hnw : newIds [(0, Ob.vec 52 2 N (rowG encE L)), (1, Ob.vec 52 2 1 (rowsOf [I key, U value] 2))] [(0, none), (10, some (.vec 52 2 (N + 1) (rowG encE (putL L i i key value))))] = [10] := rfl
  have happ : applyO [(0, Ob.vec 52 2 N (rowG encE L)), (1, Ob.vec 52 2 1 (rowsOf [I key, U value] 2))] [(0, none), (10, some (.vec 52 2 (N + 1) (rowG encE (putL L i i key value))))] = [(1, Ob.vec 52 2 1 (rowsOf [I key, U value] 2)), (10, .vec 52 2 (N + 1) (rowG encE (putL L i i key value)))] := rfl
  rw [hnw, happ]
  have hcl : cur.toList.length = c * 2 := by rw [Array.length_toList, hsz]
  have hvl : cv.toList.length = vc * 2 := by rw [Array.length_toList, hvs]
  have fin : ∀ (W' : World) (gg G : Nat) (cur' : Array Value) (row : Option Nat), W'.heap[gg]? = some (.cells cur' 52 (0, 0)) → cur'.size = G * 2 → N + 1 ≤ G → G ≤ maxLen →
      cur'.toList.take ((N + 1) * 2) = cur.toList.take (i * 2) ++ cv.toList.take (1 * 2) ++ (cur.toList.drop (i * 2)).take ((N - i) * 2) → W.grownBy W' row → (row = some b ∨ row = none) → (row = some gg ∨ W.heap.size ≤ gg) →
      ∃ cv' E', (Ending.returned (.slice (some ⟨gg, 0, none⟩) (N + 1) G)) = .returned cv' ∧ Ext E E' [10] ∧ RV E' (.sl 10 0 2 (N + 1) none) cv' ∧ RH E' [(1, Ob.vec 52 2 1 (rowsOf [I key, U value] 2)), (10, .vec 52 2 (N + 1) (rowG encE (putL L i i key value)))] W' ∧ Mod E [(0, Ob.vec 52 2 N (rowG encE L)), (1, Ob.vec 52 2 1 (rowsOf [I key, U value] 2))] W E' [(1, Ob.vec 52 2 1 (rowsOf [I key, U value] 2)), (10, .vec 52 2 (N + 1) (rowG encE (putL L i i key value)))] W' := by
    intro W' gg G cur' row hc' hs' hG1 hG2 ht hgr hrw hrw2
    have hxt := nw_set E 10 (some ⟨gg, 0, none⟩, G) hn10
    have ht2 : cur'.toList.take ((N + 1) * 2) = (cur.toList.take (N * 2)).take (i * 2) ++ cv.toList.take (1 * 2) ++ (cur.toList.take (N * 2)).drop (i * 2) := by
      rw [ht, List.take_take, Nat.min_eq_left (by omega), List.drop_take, show N * 2 - i * 2 = (N - i) * 2 by omega]
    have hone : ∀ u ∈ cur'.toList.take ((N + 1) * 2), u.oneCell' = true := fun u hu => by
      rw [ht2] at hu
      rcases List.mem_append.1 hu with h | h
      · rcases List.mem_append.1 h with h | h
        · exact ho u (List.mem_of_mem_take h)
        · exact hvo u h
      · exact ho u (List.mem_of_mem_drop h)
    have hxl : (cur.toList.take (N * 2)).length = N * 2 := by rw [List.length_take]; omega
    have hvl2 : (cv.toList.take (1 * 2)).length = 2 := by rw [List.length_take]; omega
    have hrows : ∀ E' : Env, RowsOK E' 2 (N + 1) (rowG encE (putL L i i key value)) (cur'.toList.take ((N + 1) * 2)) := fun E' q hq => by
      rw [ht2, cells_ins _ _ N i q hi hxl hvl2 hq]
      show RVs E' (encE ((putL L i i key value).getD q default)) _
      rw [putL, hL, ins_at L i i (N - i) q (key, value) (by omega) (by omega)]
      by_cases h1 : q < i
      · rw [if_pos h1, if_pos h1]
        exact rvs_encE E E' _ _ (hrow q (by omega))
      · rw [if_neg h1, if_neg h1]
        by_cases h2 : q = i
        · rw [if_pos h2, if_pos h2]
          exact rvs_encE E E' (key, value) _ (hvrow 0 (by omega))
        · rw [if_neg h2, if_neg h2, show i + (q - (i + 1)) = q - 1 by omega]
          exact rvs_encE E E' _ _ (hrow (q - 1) (by omega))
    have hhold : Holds (fun y => if y = 10 then some (some ⟨gg, 0, none⟩, G) else E y) W' 10 (.vec 52 2 (N + 1) (rowG encE (putL L i i key value))) :=
      ⟨some ⟨gg, 0, none⟩, G, _, if_pos rfl, ⟨by rw [List.length_take, Array.length_toList, hs']; omega, .inr ⟨gg, G, cur', rfl, Nat.zero_le _, hc', hG1, hG2, hs', rfl⟩⟩, hone, hrows _⟩
    obtain ⟨q1, q2⟩ := RH.change (h' := [(1, Ob.vec 52 2 1 (rowsOf [I key, U value] 2)), (10, .vec 52 2 (N + 1) (rowG encE (putL L i i key value)))]) (id := 10) (o := .vec 52 2 (N + 1) (rowG encE (putL L i i key value))) (row := row) hr hxt hgr
      (fun b' hb' => by
        rcases hrw with h | h
        · rw [h] at hb'
          cases hb'
          exact ⟨0, _, rfl, rfl, by simp [blkOf, e0], .inr rfl⟩
        · rw [h] at hb'; cases hb')
      rfl (fun x hx y hy => by
        simp only [find] at hy ⊢
        by_cases h1 : (1 == x) = true
        · rw [if_pos h1] at hy
          have : x = 1 := (beq_iff_eq.1 h1).symm
          subst this
          exact hy
        · rw [if_neg h1] at hy
          rw [if_neg (by simpa using fun e => hx e.symm)] at hy
          cases hy) hhold
      (fun b' hb' => by
        simp only [blkOf, if_pos] at hb'
        simp at hb'
        subst hb'
        exact hrw2)
    refine ⟨_, _, rfl, hxt, ?_, q1, q2⟩
    simp only [RV]
    exact ⟨some ⟨gg, 0, none⟩, G, by simp, 0, G, rfl, hG1, by omega, fun _ => by simp, by simp⟩
  by_cases hroom : N + 1 ≤ c
  · refine (ins_shift b N c i vb 1 vc cur cv W hi (by omega) hroom (by unfold maxLen at hcm; omega) hvb hcur hsz hcv (by omega) ho hvo).mono ?_
    rintro e W' ⟨rfl, cur', k1, k2, k3, k4⟩
    exact fin W' b c cur' (some b) k1 k2 hroom hcm k3 k4 (.inl rfl) (.inl rfl)
  · refine (ins_grow b N c i vb 1 vc cur cv W hi (by omega) hnc (by omega) (by omega) hvb hcur hsz hcv (by omega) ho hvo).mono ?_
    rintro e W' ⟨G, k5, k6, rfl, cur', k1, k2, k3, k4⟩
    exact fin W' W.heap.size G cur' none k1 k2 k5 k6 k3 k4 (.inr rfl) (.inr (Nat.le_refl _))
set_option maxRecDepth 10000 in
set_option maxHeartbeats 4000000 in
theorem put_mid (l s key value : Int) (L : List En) (p m : Nat) (he : putErr L key = 0) (hf : findF L key + 1 = p) (hx : exactF L key = false) (hp : p < L.length) (hm : m = L.length + 1) : CallOK Try.prog 33 [.agg [I l, I s, .sl 1 0 2 L.length none], I key, U value] [(1, .ro 2 L.length (rowG encE L))] (.tup [.agg [I l, I s, .sl 10 0 2 m none], I 0]) [(10, some (.vec 52 2 m (rowG encE (putL L p p key value))))] := by
  subst hm
  refine CallOK.intro Try.call33 Try.func33 rfl rfl ⟨rfl, fun _ => rfl, trivial⟩ ?_
  obtain ⟨hl, h1, h2⟩ := put_good he
  have q := tooMany_any l s L (by omega)
  rw [decide_eq_false (by omega)] at q
  have q1 := find_any l s key L (by omega)
  rw [hx] at q1
  have q2 := cloneE_all L (by omega)
  have q3 := insE_mid key value L L.length p rfl (by omega) hp
  rw [← hf] at q3
  generalize findF L key = f at *
  have n1 : ¬ key < 0 := by omega
  have n2 : ¬ key > 16777215 := by omega
  refine Safe.gotoE mixed 23 [⟨1100, []⟩, ⟨1200, [(1, .call [1] (B (false)) [])]⟩, ⟨1300, [(1, .tt false), (4, .tt false)]⟩, ⟨1400, [(2, .call [1] (.tup [I (f), B (false)]) [])]⟩, ⟨1500, [(2, .call [1] (.sl ((1560 : Nat)) ((0 : Nat)) ((2 : Nat)) (L.length) (none)) [(1560, some (.vec ((52 : Nat)) ((2 : Nat)) (L.length) (fun q => renL [((0 : Nat), (1 : Nat)), ((10 : Nat), (1560 : Nat))] (rowG encE L q))))])]⟩, ⟨1600, []⟩, ⟨1700, [(8, .call [1560, 1707] (.sl ((1790 : Nat)) ((0 : Nat)) ((2 : Nat)) (L.length + (1 : Nat)) (none)) [(1560, none), (1790, some (.vec ((52 : Nat)) ((2 : Nat)) (L.length + (1 : Nat)) (fun q => renL [((0 : Nat), (1560 : Nat)), ((1 : Nat), (1707 : Nat)), ((10 : Nat), (1790 : Nat))] (rowG encE (putL L p p key value) q))))])]⟩, ⟨1800, []⟩] [6, 7] [1, 1790, 1101] (sl := slotsOf 48 [(6, .ptr ((1101 : Nat)) ((0 : Nat)) ((0 : Nat)) ((0 : Nat))), (7, I ((0 : Int)))]) (hp := [(1, .ro ((2 : Nat)) (L.length) (rowG encE L)), (1790, .vec ((52 : Nat)) ((2 : Nat)) (L.length + (1 : Nat)) (fun q => renL [((0 : Nat), (1560 : Nat)), ((1 : Nat), (1707 : Nat)), ((10 : Nat), (1790 : Nat))] (rowG encE (putL L p p key value) q))), (1101, .blk ((27 : Nat)) [I (l), I (s), .sl ((1790 : Nat)) ((0 : Nat)) ((2 : Nat)) (L.length + (1 : Nat)) (none)])]) (ob := [CallOK Try.prog (46 : Nat) ([] ++ [AV.agg [AV.val (Value.int IntKind.i64 l), AV.val (Value.int IntKind.i64 s), AV.sl (1 : Nat) (0 : Nat) (2 : Nat) L.length none]] ++ []) [((1 : Nat), Ob.ro (2 : Nat) L.length (rowG encE L))] (AV.val (Value.bool false)) [], decide (key < (0 : Int)) = false, decide (key > (16777215 : Int)) = false, CallOK Try.prog (31 : Nat) ([] ++ [AV.agg [AV.val (Value.int IntKind.i64 l), AV.val (Value.int IntKind.i64 s), AV.sl (1 : Nat) (0 : Nat) (2 : Nat) L.length none], AV.val (Value.int IntKind.i64 key)] ++ []) [((1 : Nat), Ob.ro (2 : Nat) L.length (rowG encE L))] (AV.tup [AV.val (Value.int IntKind.i64 f), AV.val (Value.bool false)]) [], CallOK Try.prog (47 : Nat) ([] ++ [AV.sl (1 : Nat) (0 : Nat) (2 : Nat) L.length none] ++ []) [((1 : Nat), Ob.ro (2 : Nat) L.length (rowG encE L))] (AV.sl (1560 : Nat) (0 : Nat) (2 : Nat) L.length none) [((1560 : Nat), some (Ob.vec (52 : Nat) (2 : Nat) L.length fun q => renL [((0 : Nat), (1 : Nat)), ((10 : Nat), (1560 : Nat))] (rowG encE L q)))], inK IntKind.i64 (f + (1 : Int)), CallOK Try.prog (48 : Nat) ([] ++ [AV.sl (1560 : Nat) (0 : Nat) (2 : Nat) L.length none, AV.val (Value.int IntKind.i64 (f + (1 : Int))), AV.sl (1707 : Nat) (0 : Nat) (2 : Nat) (1 : Nat) none] ++ []) [((1560 : Nat), Ob.vec (52 : Nat) (2 : Nat) L.length fun q => renL [((0 : Nat), (1 : Nat)), ((10 : Nat), (1560 : Nat))] (rowG encE L q)), ((1707 : Nat), Ob.vec (52 : Nat) (2 : Nat) (1 : Nat) (rowsOf [AV.val (Value.int IntKind.i64 key), AV.val (Value.int IntKind.u64 value)] (2 : Nat)))] (AV.sl (1790 : Nat) (0 : Nat) (2 : Nat) (L.length + (1 : Nat)) none) [((1560 : Nat), none), ((1790 : Nat), some (Ob.vec (52 : Nat) (2 : Nat) (L.length + (1 : Nat)) fun q => renL [((0 : Nat), (1560 : Nat)), ((1 : Nat), (1707 : Nat)), ((10 : Nat), (1790 : Nat))] (rowG encE (putL L p p key value) q)))]]) rfl rfl (by kernel_rfl) ⟨q, (decide_eq_false n1), (decide_eq_false n2), q1, (CallOK.ren q2 [(0, 1), (10, 1560)] [0, 10] rfl rfl rfl rfl ⟨rfl, fun _ => rfl, trivial⟩ rfl ⟨rfl, fun _ => rfl, rfl, fun _ => rfl, trivial⟩), (by simp only [inK]; omega), (CallOK.simR (CallOK.ren q3 [(0, 1560), (1, 1707), (10, 1790)] [0, 1, 10] rfl rfl rfl rfl ⟨rfl, fun _ => rfl, rfl, closed_rows rfl, trivial⟩ rfl ⟨rfl, closed_rows rfl, rfl, fun _ => rfl, trivial⟩) (HpSim.cons rfl (OSim.refl _) (HpSim.cons rfl (OSim.rowsV rfl) HpSim.nil))), trivial⟩ rfl ⟨rfl, fun _ => rfl, rfl, closed_renN (fun _ => rfl), rfl, rfl, trivial⟩ fun td htd => ?_
  refine Safe.ren [(1790, 10)] rfl rfl rfl rfl ⟨rfl, fun _ => rfl, rfl, closed_renN (fun _ => rfl), rfl, rfl, trivial⟩ ?_
  refine Safe.endsT Go.Proofs.Try.func33 htd (r := .tup [.agg [I (l), I (s), .sl ((10 : Nat)) ((0 : Nat)) ((2 : Nat)) (L.length + (1 : Nat)) (none)], I ((0 : Int))]) (hp := [(1, .ro ((2 : Nat)) (L.length) (fun q => renL [((1790 : Nat), (10 : Nat))] (rowG encE L q))), (10, .vec ((52 : Nat)) ((2 : Nat)) (L.length + (1 : Nat)) (fun q => renL [((1790 : Nat), (10 : Nat))] (renL [((0 : Nat), (1560 : Nat)), ((1 : Nat), (1707 : Nat)), ((10 : Nat), (1790 : Nat))] (rowG encE (putL L p p key value) q))))]) (ob := []) rfl (by kernel_rfl) trivial rfl ⟨⟨rfl, rfl, fun _ _ => rfl⟩, ?_, trivial⟩ ⟨rfl, fun _ => rfl, rfl, fun _ => rfl, trivial⟩ rfl
  exact ⟨rfl, rfl, rfl, fun _ _ => rfl⟩
/-- Put where it succeeds: the entries -/
theorem put_ins (l s key value : Int) (L : List En) (p m : Nat) (he : putErr L key = 0) (hf : (findF L key + 1).toNat = p) (hx : exactF L key = false) (hm : m = L.length + 1) : CallOK Try.prog 33 [.agg [I l, I s, .sl 1 0 2 L.length none], I key, U value] [(1, .ro 2 L.length (rowG encE L))] (.tup [.agg [I l, I s, .sl 10 0 2 m none], I 0]) [(10, some (.vec 52 2 m (rowG encE (putL L p p key value))))] := by
  have hb := findK_bd L key L.length
  change -1 ≤ findF L key ∧ findF L key < _ at hb
  by_cases hp : p < L.length
  · exact put_mid l s key value L p m he (by omega) hx hp hm
  · have e : p = L.length := by omega
    have := put_end l s key value L he (by omega) hx
    have e2 : putL L p p key value = L ++ [(key, value)] := by
      rw [e, putL, List.take_length, Nat.sub_self, List.take_zero, List.append_nil]
    rw [e2, hm]
    exact this
end Go.Proofs.Ytonjaghkiaaipaa
