/- What was missed is known as long as at most seven others were missed since. -/
import Derived.Test.YtebejfmodiionaaSyX
import Derived.KernelRfl
import Derived.Test.YtebejfmodiionaaUE
namespace Go.Proofs.Ytebejfmodiionaa
open Go.RowKit
set_option linter.unusedVariables false
set_option linter.unnecessarySimpa false
theorem two_rows {W : World} {a b : Option Addr} {len cap len' cap' : Nat} {z y : List Int} (h : IsRow .i64 W a len cap z) (h' : IsRow .i64 W b len' cap' y) :
    ∃ E : Env, RH E [(1, .ro 1 (z.take len).length (rowG encI (z.take len))), (2, .ro 1 (y.take len').length (rowG encI (y.take len')))] W ∧ RV E (.sl 1 0 1 (z.take len).length none) (.slice a len cap) ∧ RV E (.sl 2 0 1 (y.take len').length none) (.slice b len' cap') := by
  have k1 := h.ro (E := fun id => if id = 1 then some (inE a cap) else if id = 2 then some (inE b cap') else none) (id := 1) (by simp)
  have k2 := h'.ro (E := fun id => if id = 1 then some (inE a cap) else if id = 2 then some (inE b cap') else none) (id := 2) (by simp)
  have fnd : ∀ id o, find [(1, Ob.ro 1 (z.take len).length (rowG encI (z.take len))), (2, Ob.ro 1 (y.take len').length (rowG encI (y.take len')))] id = some o → (id = 1 ∧ o = Ob.ro 1 (z.take len).length (rowG encI (z.take len))) ∨ (id = 2 ∧ o = Ob.ro 1 (y.take len').length (rowG encI (y.take len'))) := fun id o h => by
    simp only [find] at h
    split at h
    · rename_i e; exact .inl ⟨(beq_iff_eq.1 e).symm, (Option.some.inj h).symm⟩
    · split at h
      · rename_i e; exact .inr ⟨(beq_iff_eq.1 e).symm, (Option.some.inj h).symm⟩
      · cases h
  refine ⟨_, RH.ros (fun id o ho => ?_) (fun id o ho => ?_), k1.2, k2.2⟩
  · rcases fnd id o ho with ⟨rfl, rfl⟩ | ⟨rfl, rfl⟩
    · exact k1.1
    · exact k2.1
  · rcases fnd id o ho with ⟨rfl, rfl⟩ | ⟨rfl, rfl⟩ <;> rfl
def L14 (s : C3) : Prop := (∀ x ∈ s.S, x.block < 14) ∧ ∀ x ∈ s.M, x < 14
theorem l14_set {S : List Sl} (h : ∀ x ∈ S, x.block < 14) (k : Nat) (y : Sl) (hy : y.block < 14) : ∀ x ∈ S.set k y, x.block < 14 := fun x hx => by
  rcases List.mem_or_eq_of_mem_set hx with h1 | h1
  · exact h x h1
  · rw [h1]; exact hy
theorem l14_at {S : List Sl} (h : ∀ x ∈ S, x.block < 14) (k : Nat) : (S.getD k default).block < 14 := by
  rw [List.getD_eq_getElem?_getD]
  rcases Nat.lt_or_ge k S.length with h1 | h1
  · rw [List.getElem?_eq_getElem h1]; exact h _ (List.getElem_mem h1)
  · rw [List.getElem?_eq_none h1]; show (0 : Int) < 14; omega
theorem l14_ms {M : List Int} {b : Int} (h : ∀ x ∈ M, x < 14) (hb : b < 14) : ∀ x ∈ mssM M b, x < 14 := by
  have key : ∀ x ∈ M ++ [b], x < 14 := fun x hx => by
    rcases List.mem_append.1 hx with h1 | h1
    · exact h x h1
    · rw [List.mem_singleton.1 h1]; exact hb
  unfold mssM
  split
  · exact fun x hx => h x (wo_mem.1 hx).1
  split
  · exact fun x hx => key x (List.mem_of_mem_drop hx)
  · exact key
theorem l14_step (z : List Int) (m : Nat) (s : C3) (h : L14 s) : L14 (stepC z m s) := by
  obtain ⟨h1, h2⟩ := h
  have hb := (nV_bd z m (nA m s.p s.S.length) 14 (by omega)).2
  have hw : ∀ b, ∀ x ∈ wo s.M b, x < 14 := fun b x hx => h2 x (wo_mem.1 hx).1
  unfold stepC
  dsimp only
  repeat' split
  all_goals refine ⟨?_, ?_⟩
  all_goals first
    | exact h1
    | exact h2
    | exact hw _
    | exact l14_ms h2 hb
    | exact l14_set h1 _ _ (l14_at h1 _)
    | exact l14_set h1 _ _ (show (0 : Int) < 14 by omega)
    | exact l14_set (l14_set h1 _ _ (show (0 : Int) < 14 by omega)) _ _ hb
theorem l14_stC (z : List Int) (m : Nat) (s : C3) (h : L14 s) : ∀ i, L14 (stC z m s i)
  | 0 => h
  | i + 1 => l14_step z m _ (l14_stC z m s h i)
theorem l14_stF (z : List Int) (m p n : Nat) : L14 (stF z m p n) :=
  l14_stC z m _ ⟨fun x hx => by
    simp only [st0, slZ, List.mem_replicate] at hx
    rw [hx.2]; show (0 : Int) < 14; omega, fun x hx => by cases hx⟩ n
def rng (i : Nat) : List Int := (List.range i).map fun j => (200 : Int) + (j : Nat)
theorem rng_succ (i : Nat) : rng (i + 1) = rng i ++ [(200 : Int) + (i : Nat)] := by simp [rng, List.range_succ]
theorem find_14 {S : List Sl} (h : ∀ x ∈ S, x.block < 14) {b : Int} (hb : 14 ≤ b) : ¬ findI S b ≥ 0 := fun hf => by
  have hl : fdx S b < S.length := Classical.not_not.1 fun hn => by rw [findI, if_neg hn] at hf; omega
  have := (fdx_at hl).2
  have := l14_at h (fdx S b)
  omega
theorem mss_14 {S : List Sl} {c : Int} {M : List Int} (hv : V2 S c M) (h : ∀ x ∈ S, x.block < 14) {b : Int} (hb : 14 ≤ b) (hb2 : b ≤ 1000) : mssE S c M b = 0 := by
  rw [mssE, if_neg (fun h => h hv.to), if_neg (fun h => h (by simp [blkB]; omega)), if_neg (find_14 h hb)]
theorem mss_new {A : List Int} {i : Nat} (hA : ∀ x ∈ A, x < 14) (hi : i < 7) : ∃ A', (∀ x ∈ A', x < 14) ∧ mssM (A ++ 100 :: rng i) (200 + i) = A' ++ 100 :: rng (i + 1) := by
  have hn : ¬ (200 + (i : Int)) ∈ A ++ 100 :: rng i := fun h => by
    rcases List.mem_append.1 h with h1 | h1
    · have := hA _ h1; omega
    · rcases List.mem_cons.1 h1 with h2 | h2
      · omega
      · obtain ⟨j, hj, e⟩ := List.mem_map.1 h2
        have := List.mem_range.1 hj
        omega
  have e : A ++ 100 :: rng i ++ [200 + (i : Int)] = A ++ 100 :: rng (i + 1) := by rw [rng_succ]; simp
  rw [mssM, if_neg hn, e]
  split
  · rename_i hl
    cases A with
    | nil => simp [rng] at hl; omega
    | cons a A' => exact ⟨A', fun x hx => hA x (List.mem_cons_of_mem _ hx), rfl⟩
  · exact ⟨A, hA, rfl⟩
theorem mss_first {M : List Int} (hM : ∀ x ∈ M, x < 14) : ∃ A, (∀ x ∈ A, x < 14) ∧ mssM M 100 = A ++ 100 :: rng 0 := by
  have hn : ¬ (100 : Int) ∈ M := fun h => by have := hM _ h; omega
  rw [mssM, if_neg hn]
  split
  · rename_i hl
    cases M with
    | nil => simp at hl
    | cons a A' => exact ⟨A', fun x hx => hM x (List.mem_cons_of_mem _ hx), by simp [rng]⟩
  · exact ⟨M, hM, by simp [rng]⟩
set_option maxRecDepth 20000 in
set_option maxHeartbeats 16000000 in
theorem second_any (z y : List Int) (hz : z.length ≤ 9223372036854775807) (hy : y.length ≤ 9223372036854775807) : CallOK Try.prog 6 [.sl 1 0 1 z.length none, .sl 2 0 1 y.length none] [(1, .ro 1 z.length (rowG encI z)), (2, .ro 1 y.length (rowG encI y))] (B true) [] := by
  refine CallOK.intro Try.call6 Try.func6 rfl rfl ⟨rfl, fun _ => rfl, rfl, fun _ => rfl, trivial⟩ ?_
  obtain ⟨m, hm⟩ : ∃ m, min 1000 z.length = m := ⟨_, rfl⟩
  have hm1 : m ≤ 1000 := by omega
  have hmz : m ≤ z.length := by omega
  have c0 := new_any z hz
  rw [hm] at c0
  have b1 := nV_bd z m 0 20 (by omega)
  have c1 := n_any z m 0 20 hm1 hmz (by omega) (by omega)
  obtain ⟨q1, hq1⟩ : ∃ k, nA m 0 20 = k := ⟨_, rfl⟩
  have l1 : q1 ≤ m := hq1 ▸ (nA_bd m 0 20 (by omega)).2
  obtain ⟨n, hn⟩ : ∃ n : Nat, nV z m 0 20 = (n : Int) := ⟨(nV z m 0 20).toNat, by omega⟩
  rw [hq1, hn] at c1
  rw [hn] at b1
  have c2 := state_any z m q1 n (by omega) hm1 hmz l1
  have hv := (stC_ok z m (st0 z m q1) (st0_ok z m q1 l1).1 (st0_ok z m q1 l1).2 n)
  change V2 (stF z m q1 n).S (stF z m q1 n).c (stF z m q1 n).M ∧ (stF z m q1 n).p ≤ m at hv
  obtain ⟨h14, hM14⟩ := l14_stF z m q1 n
  generalize stF z m q1 n = s at hv c2 h14 hM14
  obtain ⟨hv, hq⟩ := hv
  have hS := hv.l2
  have hS1 := hv.l1
  have hM := hv.m8
  have hcc1 := hv.c1
  have hcc2 := hv.c2
  have e0 := mss_14 hv h14 (b := 100) (by omega) (by omega)
  have c3 := miss_ok s.S s.c s.M 100 (by omega) (by omega) (by omega) e0
  rw [decide_eq_false (show ¬ (100 : Int) ∈ s.M from fun h => by have := hM14 _ h; omega)] at c3
  have v3 := V2.ms e0
  obtain ⟨A0, hA0, hM0⟩ := mss_first hM14
  rw [hM0] at c3 v3
  refine Safe.withLoop (σ := Nat × List Int) (loopAt Try.f6 0) [1, 2, 20, 21, 22] 68 (fun g => [(1, .sl 2 0 1 y.length none), (6, .ptr 20 0 0 0), (7, I 100), (10, I g.1)]) (fun g => [(1, .ro 1 z.length (rowG encI z)), (2, .ro 1 y.length (rowG encI y)), (20, .blk 25 [.sl 21 0 4 s.S.length none, I s.c, .sl 22 0 1 g.2.length none]), (21, .ro 4 s.S.length (rowG encC s.S)), (22, .ro 1 g.2.length (rowG encI g.2))]) (fun g => g.1 ≤ 7 ∧ g.1 ≤ y.length ∧ V2 s.S s.c g.2 ∧ ∃ A : List Int, (∀ x ∈ A, x < 14) ∧ g.2 = A ++ 100 :: rng g.1) (fun g => 7 - g.1) ?_ ?_
  · rintro ⟨i, M⟩ ⟨hi, hiy, hv', A, hA, hMA⟩ ih
    dsimp only at hi hiy hv' hMA ih ⊢
    have hM' := hv'.m8
    have f1 := miss_ok s.S s.c M 100 (by omega) (by omega) (by omega) (mss_14 hv' h14 (by omega) (by omega))
    rw [decide_eq_true (show (100 : Int) ∈ M by rw [hMA]; simp)] at f1
    obtain ⟨M1, hM1⟩ : ∃ M1, mssM M 100 = M1 := ⟨_, rfl⟩
    rw [hM1] at f1
    by_cases hlt : (i : Int) < y.length
    · by_cases h7 : (i : Int) < 7
      · have e1 := mss_14 hv' h14 (b := 200 + i) (by omega) (by omega)
        have w := miss_ok s.S s.c M (200 + i) (by omega) (by omega) (by omega) e1
        have v' := V2.ms e1
        obtain ⟨A', hA', e'⟩ := mss_new hA (show i < 7 by omega)
        rw [← hMA] at e'
        obtain ⟨M', hM'⟩ : ∃ M', mssM M (200 + i) = M' := ⟨_, rfl⟩
        rw [hM'] at w v' e'
        have ih' := ih (i + 1, M') ⟨by dsimp only; omega, by dsimp only; omega, v', A', hA', e'⟩ (by dsimp only; omega)
        refine Safe.goto mixed 18 [⟨1100, [(3, .tt true), (6, .tt true)]⟩, ⟨1200, [(3, .call [21, 22] (.tup [.agg [.sl ((1265 : Nat)) ((0 : Nat)) ((4 : Nat)) (s.S.length) (none), I (s.c), .sl ((1266 : Nat)) ((0 : Nat)) ((1 : Nat)) (M'.length) (none)], B (decide ((200 : Int) + (↑i : Int) ∈ M)), I ((0 : Int))]) [(1265, some (.ro ((4 : Nat)) (s.S.length) (fun q => renL [((1 : Nat), (21 : Nat)), ((2 : Nat), (22 : Nat)), ((10 : Nat), (1265 : Nat)), ((11 : Nat), (1266 : Nat))] (rowG encC s.S q)))), (1266, some (.ro ((1 : Nat)) (M'.length) (fun q => renL [((1 : Nat), (21 : Nat)), ((2 : Nat), (22 : Nat)), ((10 : Nat), (1265 : Nat)), ((11 : Nat), (1266 : Nat))] (rowG encI M' q))))])]⟩, ⟨1300, []⟩, ⟨1400, []⟩, ⟨1500, []⟩] [1, 6, 7, 10] [1, 2, 20, 1265, 1266] (todo' := loopAt Go.Proofs.Try.f6 0) (sl := slotsOf 68 [(1, .sl ((2 : Nat)) ((0 : Nat)) ((1 : Nat)) (y.length) (none)), (6, .ptr ((20 : Nat)) ((0 : Nat)) ((0 : Nat)) ((0 : Nat))), (7, I ((100 : Int))), (10, I ((↑i : Int) + (1 : Int)))]) (hp := [(1, .ro ((1 : Nat)) (z.length) (rowG encI z)), (2, .ro ((1 : Nat)) (y.length) (rowG encI y)), (20, .blk ((25 : Nat)) [.sl ((1265 : Nat)) ((0 : Nat)) ((4 : Nat)) (s.S.length) (none), I (s.c), .sl ((1266 : Nat)) ((0 : Nat)) ((1 : Nat)) (M'.length) (none)]), (1265, .ro ((4 : Nat)) (s.S.length) (fun q => renL [((1 : Nat), (21 : Nat)), ((2 : Nat), (22 : Nat)), ((10 : Nat), (1265 : Nat)), ((11 : Nat), (1266 : Nat))] (rowG encC s.S q))), (1266, .ro ((1 : Nat)) (M'.length) (fun q => renL [((1 : Nat), (21 : Nat)), ((2 : Nat), (22 : Nat)), ((10 : Nat), (1265 : Nat)), ((11 : Nat), (1266 : Nat))] (rowG encI M' q)))]) (ob := [decide ((↑i : Int) < (↑y.length : Int)) = true, decide ((↑i : Int) < (7 : Int)) = true, inK IntKind.i64 ((200 : Int) + (↑i : Int)), CallOK Try.prog (26 : Nat) ([] ++ [AV.agg [AV.sl (21 : Nat) (0 : Nat) (4 : Nat) s.S.length none, AV.val (Value.int IntKind.i64 s.c), AV.sl (22 : Nat) (0 : Nat) (1 : Nat) M.length none], AV.val (Value.int IntKind.i64 ((200 : Int) + (↑i : Int)))] ++ []) [((21 : Nat), Ob.ro (4 : Nat) s.S.length (rowG encC s.S)), ((22 : Nat), Ob.ro (1 : Nat) M.length (rowG encI M))] (AV.tup [AV.agg [AV.sl (1265 : Nat) (0 : Nat) (4 : Nat) s.S.length none, AV.val (Value.int IntKind.i64 s.c), AV.sl (1266 : Nat) (0 : Nat) (1 : Nat) M'.length none], AV.val (Value.bool (decide ((200 : Int) + (↑i : Int) ∈ M))), AV.val (Value.int IntKind.i64 (0 : Int))]) [((1265 : Nat), some (Ob.ro (4 : Nat) s.S.length fun q => renL [((1 : Nat), (21 : Nat)), ((2 : Nat), (22 : Nat)), ((10 : Nat), (1265 : Nat)), ((11 : Nat), (1266 : Nat))] (rowG encC s.S q))), ((1266 : Nat), some (Ob.ro (1 : Nat) M'.length fun q => renL [((1 : Nat), (21 : Nat)), ((2 : Nat), (22 : Nat)), ((10 : Nat), (1265 : Nat)), ((11 : Nat), (1266 : Nat))] (rowG encI M' q)))], inK IntKind.i64 ((↑i : Int) + (1 : Int))]) rfl rfl (by kernel_rfl) ⟨(decide_eq_true hlt), (decide_eq_true h7), (by simp only [inK]; omega), (CallOK.ren w [(1, 21), (2, 22), (10, 1265), (11, 1266)] [1, 2, 10, 11] rfl rfl rfl rfl ⟨rfl, fun _ => rfl, rfl, fun _ => rfl, trivial⟩ rfl ⟨rfl, fun _ => rfl, rfl, fun _ => rfl, rfl, fun _ => rfl, rfl, fun _ => rfl, trivial⟩), (by simp only [inK]; omega), trivial⟩ rfl ⟨rfl, fun _ => rfl, rfl, fun _ => rfl, rfl, rfl, rfl, closed_renN (fun _ => rfl), rfl, closed_renN (fun _ => rfl), trivial⟩ ?_
        refine Safe.ren [(1265, 21), (1266, 22)] rfl rfl rfl rfl ⟨rfl, fun _ => rfl, rfl, fun _ => rfl, rfl, rfl, rfl, closed_renN (fun _ => rfl), rfl, closed_renN (fun _ => rfl), trivial⟩ ?_
        exact Safe.leH ih' rfl (SlLe.refl _) ⟨ObLe.refl _, ObLe.refl _, ObLe.refl _, ⟨rfl, rfl, fun _ _ => rfl⟩, ⟨rfl, rfl, fun _ _ => rfl⟩, trivial⟩ rfl ⟨rfl, fun _ => rfl, rfl, fun _ => rfl, rfl, rfl, rfl, fun _ => rfl, rfl, fun _ => rfl, trivial⟩
      · skip
        refine Safe.ends mixed Go.Proofs.Try.func6 9 [⟨1100, [(3, .tt true), (6, .tt false)]⟩, ⟨1200, [(2, .call [21, 22] (.tup [.agg [.sl ((1260 : Nat)) ((0 : Nat)) ((4 : Nat)) (s.S.length) (none), I (s.c), .sl ((1261 : Nat)) ((0 : Nat)) ((1 : Nat)) (M1.length) (none)], B (true), I ((0 : Int))]) [(1260, some (.ro ((4 : Nat)) (s.S.length) (fun q => renL [((1 : Nat), (21 : Nat)), ((2 : Nat), (22 : Nat)), ((10 : Nat), (1260 : Nat)), ((11 : Nat), (1261 : Nat))] (rowG encC s.S q)))), (1261, some (.ro ((1 : Nat)) (M1.length) (fun q => renL [((1 : Nat), (21 : Nat)), ((2 : Nat), (22 : Nat)), ((10 : Nat), (1260 : Nat)), ((11 : Nat), (1261 : Nat))] (rowG encI M1 q))))])]⟩, ⟨1300, [(6, .call [] (B (true)) [])]⟩] (r := B (true)) (hp := [(1, .ro ((1 : Nat)) (z.length) (rowG encI z)), (2, .ro ((1 : Nat)) (y.length) (rowG encI y))]) (ob := [decide ((↑i : Int) < (↑y.length : Int)) = true, decide ((↑i : Int) < (7 : Int)) = false, CallOK Try.prog (26 : Nat) ([] ++ [AV.agg [AV.sl (21 : Nat) (0 : Nat) (4 : Nat) s.S.length none, AV.val (Value.int IntKind.i64 s.c), AV.sl (22 : Nat) (0 : Nat) (1 : Nat) M.length none], AV.val (Value.int IntKind.i64 (100 : Int))] ++ []) [((21 : Nat), Ob.ro (4 : Nat) s.S.length (rowG encC s.S)), ((22 : Nat), Ob.ro (1 : Nat) M.length (rowG encI M))] (AV.tup [AV.agg [AV.sl (1260 : Nat) (0 : Nat) (4 : Nat) s.S.length none, AV.val (Value.int IntKind.i64 s.c), AV.sl (1261 : Nat) (0 : Nat) (1 : Nat) M1.length none], AV.val (Value.bool true), AV.val (Value.int IntKind.i64 (0 : Int))]) [((1260 : Nat), some (Ob.ro (4 : Nat) s.S.length fun q => renL [((1 : Nat), (21 : Nat)), ((2 : Nat), (22 : Nat)), ((10 : Nat), (1260 : Nat)), ((11 : Nat), (1261 : Nat))] (rowG encC s.S q))), ((1261 : Nat), some (Ob.ro (1 : Nat) M1.length fun q => renL [((1 : Nat), (21 : Nat)), ((2 : Nat), (22 : Nat)), ((10 : Nat), (1260 : Nat)), ((11 : Nat), (1261 : Nat))] (rowG encI M1 q)))], CallOK Try.prog (15 : Nat) ([] ++ [] ++ []) [] (AV.val (Value.bool true)) []]) rfl (by kernel_rfl) ⟨(decide_eq_true hlt), (decide_eq_false h7), (CallOK.ren f1 [(1, 21), (2, 22), (10, 1260), (11, 1261)] [1, 2, 10, 11] rfl rfl rfl rfl ⟨rfl, fun _ => rfl, rfl, fun _ => rfl, trivial⟩ rfl ⟨rfl, fun _ => rfl, rfl, fun _ => rfl, rfl, fun _ => rfl, rfl, fun _ => rfl, trivial⟩), (CallOK.ren awake_any [] [] rfl rfl rfl rfl trivial rfl trivial), trivial⟩ rfl ⟨ObLe.refl _, ObLe.refl _, trivial⟩ ⟨rfl, fun _ => rfl, rfl, fun _ => rfl, trivial⟩ rfl
    · skip
      refine Safe.ends mixed Go.Proofs.Try.func6 9 [⟨1100, [(3, .tt false)]⟩, ⟨1200, [(2, .call [21, 22] (.tup [.agg [.sl ((1260 : Nat)) ((0 : Nat)) ((4 : Nat)) (s.S.length) (none), I (s.c), .sl ((1261 : Nat)) ((0 : Nat)) ((1 : Nat)) (M1.length) (none)], B (true), I ((0 : Int))]) [(1260, some (.ro ((4 : Nat)) (s.S.length) (fun q => renL [((1 : Nat), (21 : Nat)), ((2 : Nat), (22 : Nat)), ((10 : Nat), (1260 : Nat)), ((11 : Nat), (1261 : Nat))] (rowG encC s.S q)))), (1261, some (.ro ((1 : Nat)) (M1.length) (fun q => renL [((1 : Nat), (21 : Nat)), ((2 : Nat), (22 : Nat)), ((10 : Nat), (1260 : Nat)), ((11 : Nat), (1261 : Nat))] (rowG encI M1 q))))])]⟩, ⟨1300, [(6, .call [] (B (true)) [])]⟩] (r := B (true)) (hp := [(1, .ro ((1 : Nat)) (z.length) (rowG encI z)), (2, .ro ((1 : Nat)) (y.length) (rowG encI y))]) (ob := [decide ((↑i : Int) < (↑y.length : Int)) = false, CallOK Try.prog (26 : Nat) ([] ++ [AV.agg [AV.sl (21 : Nat) (0 : Nat) (4 : Nat) s.S.length none, AV.val (Value.int IntKind.i64 s.c), AV.sl (22 : Nat) (0 : Nat) (1 : Nat) M.length none], AV.val (Value.int IntKind.i64 (100 : Int))] ++ []) [((21 : Nat), Ob.ro (4 : Nat) s.S.length (rowG encC s.S)), ((22 : Nat), Ob.ro (1 : Nat) M.length (rowG encI M))] (AV.tup [AV.agg [AV.sl (1260 : Nat) (0 : Nat) (4 : Nat) s.S.length none, AV.val (Value.int IntKind.i64 s.c), AV.sl (1261 : Nat) (0 : Nat) (1 : Nat) M1.length none], AV.val (Value.bool true), AV.val (Value.int IntKind.i64 (0 : Int))]) [((1260 : Nat), some (Ob.ro (4 : Nat) s.S.length fun q => renL [((1 : Nat), (21 : Nat)), ((2 : Nat), (22 : Nat)), ((10 : Nat), (1260 : Nat)), ((11 : Nat), (1261 : Nat))] (rowG encC s.S q))), ((1261 : Nat), some (Ob.ro (1 : Nat) M1.length fun q => renL [((1 : Nat), (21 : Nat)), ((2 : Nat), (22 : Nat)), ((10 : Nat), (1260 : Nat)), ((11 : Nat), (1261 : Nat))] (rowG encI M1 q)))], CallOK Try.prog (15 : Nat) ([] ++ [] ++ []) [] (AV.val (Value.bool true)) []]) rfl (by kernel_rfl) ⟨(decide_eq_false hlt), (CallOK.ren f1 [(1, 21), (2, 22), (10, 1260), (11, 1261)] [1, 2, 10, 11] rfl rfl rfl rfl ⟨rfl, fun _ => rfl, rfl, fun _ => rfl, trivial⟩ rfl ⟨rfl, fun _ => rfl, rfl, fun _ => rfl, rfl, fun _ => rfl, rfl, fun _ => rfl, trivial⟩), (CallOK.ren awake_any [] [] rfl rfl rfl rfl trivial rfl trivial), trivial⟩ rfl ⟨ObLe.refl _, ObLe.refl _, trivial⟩ ⟨rfl, fun _ => rfl, rfl, fun _ => rfl, trivial⟩ rfl
  · intro H
    have hh := H (0, A0 ++ 100 :: rng 0) ⟨Nat.zero_le _, Nat.zero_le _, v3, A0, hA0, rfl⟩
    refine Safe.goto mixed 20 [⟨1100, []⟩, ⟨1200, [(1, .call [1] (.ptr ((1255 : Nat)) ((0 : Nat)) ((0 : Nat)) ((0 : Nat))) [(1255, some (.blk ((55 : Nat)) [.sl ((1 : Nat)) ((0 : Nat)) ((1 : Nat)) (m) (none), I ((0 : Int))]))])]⟩, ⟨1300, [(2, .call [1255, 1] (I ((↑n : Int))) [(1255, some (.blk ((55 : Nat)) [.sl ((1 : Nat)) ((0 : Nat)) ((1 : Nat)) (m) (none), I ((↑q1 : Int))]))]), (3, .call [1255, 1] (.agg [.sl ((1365 : Nat)) ((0 : Nat)) ((4 : Nat)) (s.S.length) (none), I (s.c), .sl ((1366 : Nat)) ((0 : Nat)) ((1 : Nat)) (s.M.length) (none)]) [(1255, some (.blk ((55 : Nat)) [.sl ((1 : Nat)) ((0 : Nat)) ((1 : Nat)) (m) (none), I ((↑s.p : Int))])), (1365, some (.ro ((4 : Nat)) (s.S.length) (fun q => renL [((0 : Nat), (1255 : Nat)), ((1 : Nat), (1 : Nat)), ((10 : Nat), (1365 : Nat)), ((11 : Nat), (1366 : Nat))] (rowG encC s.S q)))), (1366, some (.ro ((1 : Nat)) (s.M.length) (fun q => renL [((0 : Nat), (1255 : Nat)), ((1 : Nat), (1 : Nat)), ((10 : Nat), (1365 : Nat)), ((11 : Nat), (1366 : Nat))] (rowG encI s.M q))))])]⟩, ⟨1400, []⟩, ⟨1500, [(2, .call [1365, 1366] (.tup [.agg [.sl ((1560 : Nat)) ((0 : Nat)) ((4 : Nat)) (s.S.length) (none), I (s.c), .sl ((1561 : Nat)) ((0 : Nat)) ((1 : Nat)) ((A0 ++ (100 : Int) :: rng (0 : Nat)).length) (none)], B (false), I ((0 : Int))]) [(1560, some (.ro ((4 : Nat)) (s.S.length) (fun q => renL [((1 : Nat), (1365 : Nat)), ((2 : Nat), (1366 : Nat)), ((10 : Nat), (1560 : Nat)), ((11 : Nat), (1561 : Nat))] (rowG encC s.S q)))), (1561, some (.ro ((1 : Nat)) ((A0 ++ (100 : Int) :: rng (0 : Nat)).length) (fun q => renL [((1 : Nat), (1365 : Nat)), ((2 : Nat), (1366 : Nat)), ((10 : Nat), (1560 : Nat)), ((11 : Nat), (1561 : Nat))] (rowG encI (A0 ++ (100 : Int) :: rng (0 : Nat)) q))))])]⟩, ⟨1600, []⟩, ⟨1700, []⟩] [1, 6, 7, 10] [1, 2, 1304, 1560, 1561] (todo' := loopAt Go.Proofs.Try.f6 0) (sl := slotsOf 68 [(1, .sl ((2 : Nat)) ((0 : Nat)) ((1 : Nat)) (y.length) (none)), (6, .ptr ((1304 : Nat)) ((0 : Nat)) ((0 : Nat)) ((0 : Nat))), (7, I ((100 : Int))), (10, I ((0 : Int)))]) (hp := [(1, .ro ((1 : Nat)) (z.length) (rowG encI z)), (2, .ro ((1 : Nat)) (y.length) (rowG encI y)), (1304, .blk ((25 : Nat)) [.sl ((1560 : Nat)) ((0 : Nat)) ((4 : Nat)) (s.S.length) (none), I (s.c), .sl ((1561 : Nat)) ((0 : Nat)) ((1 : Nat)) ((A0 ++ (100 : Int) :: rng (0 : Nat)).length) (none)]), (1560, .ro ((4 : Nat)) (s.S.length) (fun q => renL [((1 : Nat), (1365 : Nat)), ((2 : Nat), (1366 : Nat)), ((10 : Nat), (1560 : Nat)), ((11 : Nat), (1561 : Nat))] (rowG encC s.S q))), (1561, .ro ((1 : Nat)) ((A0 ++ (100 : Int) :: rng (0 : Nat)).length) (fun q => renL [((1 : Nat), (1365 : Nat)), ((2 : Nat), (1366 : Nat)), ((10 : Nat), (1560 : Nat)), ((11 : Nat), (1561 : Nat))] (rowG encI (A0 ++ (100 : Int) :: rng (0 : Nat)) q)))]) (ob := [CallOK Try.prog (12 : Nat) ([] ++ [AV.sl (1 : Nat) (0 : Nat) (1 : Nat) z.length none] ++ []) [((1 : Nat), Ob.ro (1 : Nat) z.length (rowG encI z))] (AV.ptr (1255 : Nat) (0 : Nat) (0 : Nat) (0 : Nat)) [((1255 : Nat), some (Ob.blk (55 : Nat) [AV.sl (1 : Nat) (0 : Nat) (1 : Nat) m none, AV.val (Value.int IntKind.i64 (0 : Int))]))], CallOK Try.prog (16 : Nat) ([] ++ [AV.ptr (1255 : Nat) (0 : Nat) (0 : Nat) (0 : Nat), ofV (Value.int IntKind.i64 (20 : Int))] ++ []) [((1255 : Nat), Ob.blk (55 : Nat) [AV.sl (1 : Nat) (0 : Nat) (1 : Nat) m none, AV.val (Value.int IntKind.i64 (0 : Int))]), ((1 : Nat), Ob.ro (1 : Nat) z.length (rowG encI z))] (AV.val (Value.int IntKind.i64 (↑n : Int))) [((1255 : Nat), some (Ob.blk (55 : Nat) [AV.sl (1 : Nat) (0 : Nat) (1 : Nat) m none, AV.val (Value.int IntKind.i64 (↑q1 : Int))]))], CallOK Try.prog (34 : Nat) ([] ++ [AV.ptr (1255 : Nat) (0 : Nat) (0 : Nat) (0 : Nat), AV.val (Value.int IntKind.i64 (↑n : Int))] ++ []) [((1255 : Nat), Ob.blk (55 : Nat) [AV.sl (1 : Nat) (0 : Nat) (1 : Nat) m none, AV.val (Value.int IntKind.i64 (↑q1 : Int))]), ((1 : Nat), Ob.ro (1 : Nat) z.length (rowG encI z))] (AV.agg [AV.sl (1365 : Nat) (0 : Nat) (4 : Nat) s.S.length none, AV.val (Value.int IntKind.i64 s.c), AV.sl (1366 : Nat) (0 : Nat) (1 : Nat) s.M.length none]) [((1255 : Nat), some (Ob.blk (55 : Nat) [AV.sl (1 : Nat) (0 : Nat) (1 : Nat) m none, AV.val (Value.int IntKind.i64 (↑s.p : Int))])), ((1365 : Nat), some (Ob.ro (4 : Nat) s.S.length fun q => renL [((0 : Nat), (1255 : Nat)), ((1 : Nat), (1 : Nat)), ((10 : Nat), (1365 : Nat)), ((11 : Nat), (1366 : Nat))] (rowG encC s.S q))), ((1366 : Nat), some (Ob.ro (1 : Nat) s.M.length fun q => renL [((0 : Nat), (1255 : Nat)), ((1 : Nat), (1 : Nat)), ((10 : Nat), (1365 : Nat)), ((11 : Nat), (1366 : Nat))] (rowG encI s.M q)))], CallOK Try.prog (26 : Nat) ([] ++ [AV.agg [AV.sl (1365 : Nat) (0 : Nat) (4 : Nat) s.S.length none, AV.val (Value.int IntKind.i64 s.c), AV.sl (1366 : Nat) (0 : Nat) (1 : Nat) s.M.length none], AV.val (Value.int IntKind.i64 (100 : Int))] ++ []) [((1365 : Nat), Ob.ro (4 : Nat) s.S.length fun q => renL [((0 : Nat), (1255 : Nat)), ((1 : Nat), (1 : Nat)), ((10 : Nat), (1365 : Nat)), ((11 : Nat), (1366 : Nat))] (rowG encC s.S q)), ((1366 : Nat), Ob.ro (1 : Nat) s.M.length fun q => renL [((0 : Nat), (1255 : Nat)), ((1 : Nat), (1 : Nat)), ((10 : Nat), (1365 : Nat)), ((11 : Nat), (1366 : Nat))] (rowG encI s.M q))] (AV.tup [AV.agg [AV.sl (1560 : Nat) (0 : Nat) (4 : Nat) s.S.length none, AV.val (Value.int IntKind.i64 s.c), AV.sl (1561 : Nat) (0 : Nat) (1 : Nat) (A0 ++ (100 : Int) :: rng (0 : Nat)).length none], AV.val (Value.bool false), AV.val (Value.int IntKind.i64 (0 : Int))]) [((1560 : Nat), some (Ob.ro (4 : Nat) s.S.length fun q => renL [((1 : Nat), (1365 : Nat)), ((2 : Nat), (1366 : Nat)), ((10 : Nat), (1560 : Nat)), ((11 : Nat), (1561 : Nat))] (rowG encC s.S q))), ((1561 : Nat), some (Ob.ro (1 : Nat) (A0 ++ (100 : Int) :: rng (0 : Nat)).length fun q => renL [((1 : Nat), (1365 : Nat)), ((2 : Nat), (1366 : Nat)), ((10 : Nat), (1560 : Nat)), ((11 : Nat), (1561 : Nat))] (rowG encI (A0 ++ (100 : Int) :: rng (0 : Nat)) q)))]]) rfl rfl (by kernel_rfl) ⟨(CallOK.ren c0 [(1, 1), (10, 1255)] [1, 10] rfl rfl rfl rfl ⟨rfl, fun _ => rfl, trivial⟩ rfl ⟨rfl, fun _ => rfl, rfl, rfl, trivial⟩), (CallOK.ren c1 [(0, 1255), (1, 1)] [0, 1] rfl rfl rfl rfl ⟨rfl, rfl, rfl, fun _ => rfl, trivial⟩ rfl ⟨rfl, rfl, rfl, fun _ => rfl, trivial⟩), (CallOK.ren c2 [(0, 1255), (1, 1), (10, 1365), (11, 1366)] [0, 1, 10, 11] rfl rfl rfl rfl ⟨rfl, rfl, rfl, fun _ => rfl, trivial⟩ rfl ⟨rfl, rfl, rfl, fun _ => rfl, rfl, fun _ => rfl, rfl, fun _ => rfl, trivial⟩), (CallOK.ren c3 [(1, 1365), (2, 1366), (10, 1560), (11, 1561)] [1, 2, 10, 11] rfl rfl rfl rfl ⟨rfl, fun _ => rfl, rfl, fun _ => rfl, trivial⟩ rfl ⟨rfl, fun _ => rfl, rfl, fun _ => rfl, rfl, fun _ => rfl, rfl, fun _ => rfl, trivial⟩), trivial⟩ rfl ⟨rfl, fun _ => rfl, rfl, fun _ => rfl, rfl, rfl, rfl, closed_renN (fun _ => rfl), rfl, closed_renN (fun _ => rfl), trivial⟩ ?_
    refine Safe.ren [(1304, 20), (1560, 21), (1561, 22)] rfl rfl rfl rfl ⟨rfl, fun _ => rfl, rfl, fun _ => rfl, rfl, rfl, rfl, closed_renN (fun _ => rfl), rfl, closed_renN (fun _ => rfl), trivial⟩ ?_
    exact Safe.leH hh rfl (SlLe.refl _) ⟨ObLe.refl _, ObLe.refl _, ObLe.refl _, ⟨rfl, rfl, fun _ _ => rfl⟩, ⟨rfl, rfl, fun _ _ => rfl⟩, trivial⟩ rfl ⟨rfl, fun _ => rfl, rfl, fun _ => rfl, rfl, rfl, rfl, fun _ => rfl, rfl, fun _ => rfl, trivial⟩
end Go.Proofs.Ytebejfmodiionaa
