/- LexerBlanks. No conditions but those of each theorem. -/
import Derived.Test.YtnjidpidcmapkaaSyZ
import Derived.KernelRfl
import Derived.Test.YtnjidpidcmapkaaXI
import Derived.Test.YtnjidpidcmapkaaXG
namespace Go.Proofs.Ytnjidpidcmapkaa
open Go.RowKit
set_option linter.unusedVariables false
set_option linter.unnecessarySimpa false
set_option linter.unusedSimpArgs false
theorem bts_all {l : List Int} {p : Int → Bool} (hp : ∀ z, p z = true → 0 ≤ z ∧ z < 256) (h : ∀ z ∈ l, p z = true) : Bts l := fun z hz => hp z (h z hz)
theorem isW_bd (z : Int) (h : isW z = true) : 0 ≤ z ∧ z < 256 := by have := of_decide_eq_true h; omega
theorem isQ_bd (z : Int) (h : isQ z = true) : 0 ≤ z ∧ z < 256 := by have := of_decide_eq_true h; omega
theorem quoteL_bts {l : List Int} (h : Bts l) : Bts (quoteL l) := by rw [← qOut_all]; exact (qOut_bts h _).app (bts_lit _)
theorem wf_bts {x : Tk} (h : Wfk x) (h2 : x.kind ≠ 2) : Bts x.text ∧ Bts (tokS x) := by
  have key : Bts x.text := by
    rcases h with ⟨_, _, h, _⟩ | h | ⟨_, h⟩ | ⟨_, z, hz, hs⟩
    · exact bts_all isW_bd h
    · exact absurd h h2
    · exact bts_all isQ_bd h
    · rw [hz]
      have := of_decide_eq_true hs
      exact Bts.cons (by omega) fun z hz => by cases hz
  refine ⟨key, ?_⟩
  unfold tokS
  split
  · exact quoteL_bts key
  · exact key
theorem bet_bts {b : List Int} (h : b ∈ betB) : Bts b ∧ b.length ≤ 8 := by
  simp only [betB, List.mem_cons, List.not_mem_nil, or_false] at h
  rcases h with rfl | rfl | rfl | rfl | rfl <;> exact ⟨bts_lit _, by decide⟩
theorem tokS_len (x : Tk) : (tokS x).length ≤ 2 * x.text.length + 2 := by
  unfold tokS
  split
  · have := qOut_len x.text x.text.length
    rw [← qOut_all, List.length_append]
    simp; omega
  · omega
theorem joinT_snoc (b : List Int) (T : List Tk) (x : Tk) : joinT b (T ++ [x]) = if x.kind = 2 then joinT b T else joinT b T ++ (tokS x ++ b) := by
  unfold joinT
  rw [List.filter_append]
  by_cases h : x.kind = 2
  · rw [if_pos h, List.filter_cons_of_neg (by simp [notNum, h])]
    simp
  · rw [if_neg h, List.filter_cons_of_pos (by simp [notNum, h])]
    simp
theorem joinT_len {b : List Int} (hb : b.length ≤ 8) : ∀ T : List Tk, (joinT b T).length ≤ 8 + 2 * sumT T + 10 * T.length := by
  have key : ∀ T : List Tk, ((T.filter notNum).flatMap fun y => tokS y ++ b).length ≤ 2 * sumT T + 10 * T.length := fun T => by
    induction T with
    | nil => simp
    | cons x T ih =>
      have hs : sumT (x :: T) = x.text.length + sumT T := by simp [sumT]
      have ht := tokS_len x
      rw [hs, List.length_cons]
      by_cases h : notNum x = true
      · rw [List.filter_cons_of_pos h, List.flatMap_cons, List.length_append, List.length_append]
        omega
      · rw [List.filter_cons_of_neg h]
        omega
  intro T
  have := key T
  unfold joinT
  rw [List.length_append]
  omega
theorem joinT_bts {b : List Int} (hb : Bts b) : ∀ T : List Tk, (∀ x ∈ T, Wfk x) → Bts (joinT b T) := fun T hT => by
  refine hb.app fun z hz => ?_
  obtain ⟨y, hy, hz⟩ := List.mem_flatMap.1 hz
  rw [List.mem_filter] at hy
  exact ((wf_bts (hT y hy.1) (of_decide_eq_true hy.2)).2.app hb) z hz
theorem sumT_mem : ∀ (T : List Tk) (x : Tk), x ∈ T → x.text.length ≤ sumT T
  | y :: T, x, h => by
    have hs : sumT (y :: T) = y.text.length + sumT T := by simp [sumT]
    rcases List.mem_cons.1 h with rfl | h
    · omega
    · have := sumT_mem T x h; omega
theorem sumT_take (T : List Tk) (k : Nat) : sumT (T.take k) ≤ sumT T := by
  have h : sumT (T.take k ++ T.drop k) = sumT (T.take k) + sumT (T.drop k) := by unfold sumT; rw [List.map_append, List.sum_append]
  rw [List.take_append_drop] at h
  omega
theorem filt_at (T : List Tk) (i : Nat) (hi : i < T.length) (hp : notNum (T.getD i default) = true) : ((T.take i).filter notNum).length < (T.filter notNum).length ∧ (T.filter notNum).getD ((T.take i).filter notNum).length default = T.getD i default ∧ ((T.take (i + 1)).filter notNum).length = ((T.take i).filter notNum).length + 1 := by
  have e : T.getD i default = T[i] := by rw [List.getD_eq_getElem?_getD, List.getElem?_eq_getElem hi]; rfl
  rw [e] at hp ⊢
  have h1 : T.filter notNum = (T.take i).filter notNum ++ (T[i] :: (T.drop (i + 1)).filter notNum) := by
    conv => lhs; rw [← List.take_append_drop i T, List.filter_append, List.drop_eq_getElem_cons hi, List.filter_cons_of_pos hp]
  refine ⟨by rw [h1]; simp, by rw [h1]; simp [List.getD_eq_getElem?_getD], ?_⟩
  rw [List.take_succ_eq_append_getElem hi, List.filter_append, List.filter_cons_of_pos hp]
  simp
theorem filt_no (T : List Tk) (i : Nat) (hi : i < T.length) (hp : ¬ notNum (T.getD i default) = true) : ((T.take (i + 1)).filter notNum).length = ((T.take i).filter notNum).length := by
  have e : T.getD i default = T[i] := by rw [List.getD_eq_getElem?_getD, List.getElem?_eq_getElem hi]; rfl
  rw [e] at hp
  rw [List.take_succ_eq_append_getElem hi, List.filter_append, List.filter_cons_of_neg hp]
  simp
theorem map_getD {α β : Type} [Inhabited α] (f : α → β) (A B : List α) (h : A.map f = B.map f) (k : Nat) (hk : k < A.length) : f (A.getD k default) = f (B.getD k default) := by
  have hl : A.length = B.length := by have := congrArg List.length h; simpa using this
  have h2 := congrArg (fun l => l[k]?) h
  simp only [List.getElem?_map, List.getElem?_eq_getElem hk, List.getElem?_eq_getElem (show k < B.length by omega), Option.map_some, Option.some.injEq] at h2
  rw [List.getD_eq_getElem?_getD, List.getD_eq_getElem?_getD, List.getElem?_eq_getElem hk, List.getElem?_eq_getElem (show k < B.length by omega)]
  exact h2
def betW (n : Int) : List Int := betB.getD (n % 5).toNat []
theorem betW_mem (n : Int) (h : 0 ≤ n) : betW n ∈ betB := by
  unfold betW
  have hl : (n % 5).toNat < betB.length := by show (n % 5).toNat < 5; omega
  rw [List.getD_eq_getElem?_getD, List.getElem?_eq_getElem hl]
  exact List.getElem_mem hl
set_option maxRecDepth 10000 in
set_option maxHeartbeats 16000000 in
theorem blanks_any (z : List Int) (hzl : z.length ≤ 9223372036854775807) (n : Int) (hn : 0 ≤ n ∧ n < 256) : CallOK Try.prog 5 [.sl 1 0 1 z.length none, .val (.int .u8 n)] [(1, .ro 1 z.length (rowG encI z))] (B true) [] := by
  refine CallOK.intro Try.call5 Try.func5 rfl rfl ⟨rfl, fun _ => rfl, trivial⟩ ?_
  refine Safe.withLoop (loopAt Try.f5 0) [1, 20] 156 (fun g : BT => [(1, .val (.int .u8 n)), (5, .ptr 20 0 0 0), (6, S (str g.t)), (7, I g.i)]) (fun g => [(1, .ro 1 z.length (rowG encI z)), (20, .blk 47 [.sl 1 0 1 (min 1000 z.length) none, I g.p])]) (fun g => g.p ≤ min 1000 z.length ∧ (0 ≤ g.i ∧ g.i ≤ 12) ∧ Bts g.t ∧ ((g.t.length : Int) ≤ (12 - g.i) * 24)) (fun g => g.i.toNat) ?_ ?_
  · rintro ⟨p, i, t⟩ ⟨hp, hi, hb, hl⟩ ih
    dsimp only at hp hi hb hl ih ⊢
    have hm : min 1000 z.length ≤ 1000 := Nat.min_le_left ..
    have hm2 : min 1000 z.length ≤ z.length := Nat.min_le_right ..
    have hsz := str_size t
    by_cases h0 : i > 0
    · have hpc := piece_bts (nV z (min 1000 z.length) p 36)
      have hp1 := nA_bd (min 1000 z.length) p 36 hp
      have hsp := str_size (pieceW (nV z (min 1000 z.length) p 36))
      obtain ⟨w, hw⟩ : ∃ w, pieceW (nV z (min 1000 z.length) p 36) = w := ⟨_, rfl⟩
      have hPC := piece_any z (min 1000 z.length) p hm hm2 hp
      rw [hw] at hpc hsp hPC
      have hswv := str_size (w ++ [32])
      rw [List.length_append, List.length_singleton] at hswv
      have hs32 : ByteArray.size { data := #[32] } = 1 := rfl
      have h1 : S (str w ++ { data := #[32] }) = S (str (w ++ [32])) := congrArg (fun x => S x) (str_app w [32])
      have h2 : S (str t ++ str (w ++ [32])) = S (str (t ++ (w ++ [32]))) := congrArg (fun x => S x) (str_app _ _)
      refine Safe.goto mixed 11 [⟨1100, [(1, .tt true)]⟩, ⟨1200, [(2, .call [20, 1] (S (str w)) [(20, some (.blk ((47 : Nat)) [.sl ((1 : Nat)) ((0 : Nat)) ((1 : Nat)) (min (1000 : Nat) z.length) (none), I ((↑(nA (min (1000 : Nat) z.length) p (36 : Int)) : Int))]))]), (3, .is (S (str (w ++ [(32 : Int)])))), (4, .is (S (str (t ++ (w ++ [(32 : Int)])))))]⟩, ⟨1300, []⟩] [1, 5, 6, 7] [1, 20] (todo' := loopAt Go.Proofs.Try.f5 0) (sl := slotsOf 156 [(1, .val (Value.int IntKind.u8 n)), (5, .ptr ((20 : Nat)) ((0 : Nat)) ((0 : Nat)) ((0 : Nat))), (6, S (str (t ++ (w ++ [(32 : Int)])))), (7, I (i - (1 : Int)))]) (hp := [(1, .ro ((1 : Nat)) (z.length) (rowG encI z)), (20, .blk ((47 : Nat)) [.sl ((1 : Nat)) ((0 : Nat)) ((1 : Nat)) (min (1000 : Nat) z.length) (none), I ((↑(nA (min (1000 : Nat) z.length) p (36 : Int)) : Int))])]) (ob := [decide (i > (0 : Int)) = true, CallOK Try.prog (13 : Nat) ([] ++ [AV.ptr (20 : Nat) (0 : Nat) (0 : Nat) (0 : Nat)] ++ []) [((20 : Nat), Ob.blk (47 : Nat) [AV.sl (1 : Nat) (0 : Nat) (1 : Nat) (min (1000 : Nat) z.length) none, AV.val (Value.int IntKind.i64 (↑p : Int))]), ((1 : Nat), Ob.ro (1 : Nat) z.length (rowG encI z))] (AV.val (Value.string (str w))) [((20 : Nat), some (Ob.blk (47 : Nat) [AV.sl (1 : Nat) (0 : Nat) (1 : Nat) (min (1000 : Nat) z.length) none, AV.val (Value.int IntKind.i64 (↑(nA (min (1000 : Nat) z.length) p (36 : Int)) : Int))]))], (str w).size + (ByteArray.mk #[(32 : UInt8)]).size ≤ (9223372036854775807 : Nat), AV.val (Value.string (str w ++ ByteArray.mk #[(32 : UInt8)])) = AV.val (Value.string (str (w ++ [(32 : Int)]))), (str t).size + (str (w ++ [(32 : Int)])).size ≤ (9223372036854775807 : Nat), AV.val (Value.string (str t ++ str (w ++ [(32 : Int)]))) = AV.val (Value.string (str (t ++ (w ++ [(32 : Int)])))), inK IntKind.i64 (i - (1 : Int))]) rfl rfl (by kernel_rfl) ⟨(decide_eq_true h0), (CallOK.ren hPC [(0, 20), (1, 1)] [0, 1] rfl rfl rfl rfl ⟨rfl, rfl, rfl, fun _ => rfl, trivial⟩ rfl ⟨rfl, rfl, rfl, fun _ => rfl, trivial⟩), (by first | omega | assumption), (by first | omega | assumption), (by first | omega | assumption), (by first | omega | assumption), (by simp only [inK]; first | omega | assumption), trivial⟩ rfl ⟨rfl, fun _ => rfl, rfl, rfl, trivial⟩ ?_
      exact Safe.leH (ih ⟨_, i - 1, t ++ (w ++ [32])⟩ ⟨hp1.2, by dsimp only; omega, hb.app (hpc.1.app (bts_lit _)), by dsimp only; simp only [List.length_append, List.length_singleton]; omega⟩ (by dsimp only; omega)) rfl (SlLe.refl _) ⟨ObLe.refl _, ObLe.refl _, trivial⟩ rfl ⟨rfl, fun _ => rfl, rfl, rfl, trivial⟩
    · have hlt : t.length ≤ 288 := by omega
      clear ih
      have hG := agrees_any t hb (by omega)
      cases hx : lexF t with
      | err e l c =>
        have hA := tokens_err t hb (by omega) e l c hx
        have he := lex_errs t _ _ _ _ _ _ _ _ hx (by omega) (Nat.zero_le _)
        have he0 : ¬ e = 0 := by omega
        refine Safe.ends mixed Go.Proofs.Try.func5 13 [⟨1100, [(1, .tt false)]⟩, ⟨1200, [(1, .call [] (.tup [.val (Value.slice none (0 : Nat) (0 : Nat)), .agg [I (l), I (c)], I (e)]) [])]⟩, ⟨1300, [(1, .tt true)]⟩, ⟨1400, [(1, .call [] (B (true)) []), (3, .call [] (B (true)) [])]⟩] (r := B (true)) (hp := [(1, .ro ((1 : Nat)) (z.length) (rowG encI z))]) (ob := [decide (i > (0 : Int)) = false, CallOK Try.prog (15 : Nat) ([] ++ [AV.val (Value.string (str t))] ++ []) [] (AV.tup [AV.val (Value.slice none (0 : Nat) (0 : Nat)), AV.agg [AV.val (Value.int IntKind.i64 l), AV.val (Value.int IntKind.i64 c)], AV.val (Value.int IntKind.i64 e)]) [], (decide ¬e = (0 : Int)) = true, CallOK Try.prog (10 : Nat) ([] ++ [AV.val (Value.string (str t))] ++ []) [] (AV.val (Value.bool true)) [], CallOK Try.prog (9 : Nat) ([] ++ [] ++ []) [] (AV.val (Value.bool true)) []]) rfl (by kernel_rfl) ⟨(decide_eq_false h0), hA, (decide_eq_true he0), hG, awake_any, trivial⟩ rfl ⟨ObLe.refl _, trivial⟩ ⟨rfl, fun _ => rfl, trivial⟩ rfl
      | ok T =>
        have hA := tokens_ok t hb (by omega) T hx
        have hlen := lex_len t _ _ _ _ _ _ hx
        simp only [List.length_nil] at hlen
        obtain ⟨T', l', c', hTT, hwf, hsum⟩ := lex_wf t _ _ _ _ _ _ hx (Nat.zero_le _) (fun x hx => by cases hx) (by simp [sumT])
        have hbm := betW_mem n hn.1
        have hbb := bet_bts hbm
        have hrow : (rowsOf [S { data := #[32] }, S { data := #[10] }, S { data := #[9] }, S { data := #[35, 120, 10] }, S { data := #[32, 35, 32, 34, 32, 35, 10, 10] }] 1 (n % 5).toNat).drop 0 = [S (str (betW n))] := by
          have : n % 5 = 0 ∨ n % 5 = 1 ∨ n % 5 = 2 ∨ n % 5 = 3 ∨ n % 5 = 4 := by omega
          unfold betW
          rcases this with h | h | h | h | h <;> rw [h] <;> rfl
        refine Safe.goto mixed 21 [⟨1100, [(1, .tt false)]⟩, ⟨1200, [(1, .call [] (.tup [.sl ((1255 : Nat)) ((0 : Nat)) ((5 : Nat)) (T.length) (none), .agg [I ((0 : Int)), I ((0 : Int))], I ((0 : Int))]) [(1255, some (.vec ((39 : Nat)) ((5 : Nat)) (T.length) (fun q => renL [((10 : Nat), (1255 : Nat))] (rowG encT T q))))])]⟩, ⟨1300, []⟩, ⟨1400, [(4, .row [S (str (betW n))])]⟩, ⟨1500, []⟩, ⟨1600, []⟩] [8, 11, 12, 13] [1, 1255] (todo' := loopAt Go.Proofs.Try.f5 1) (sl := slotsOf 156 [(8, .sl ((1255 : Nat)) ((0 : Nat)) ((5 : Nat)) (T.length) (none)), (11, S (str (betW n))), (12, S (str (betW n))), (13, I ((0 : Int)))]) (hp := [(1, .ro ((1 : Nat)) (z.length) (rowG encI z)), (1255, .vec ((39 : Nat)) ((5 : Nat)) (T.length) (fun q => renL [((10 : Nat), (1255 : Nat))] (rowG encT T q)))]) (ob := [decide (i > (0 : Int)) = false, CallOK Try.prog (15 : Nat) ([] ++ [AV.val (Value.string (str t))] ++ []) [] (AV.tup [AV.sl (1255 : Nat) (0 : Nat) (5 : Nat) T.length none, AV.agg [AV.val (Value.int IntKind.i64 (0 : Int)), AV.val (Value.int IntKind.i64 (0 : Int))], AV.val (Value.int IntKind.i64 (0 : Int))]) [((1255 : Nat), some (Ob.vec (39 : Nat) (5 : Nat) T.length fun q => renL [((10 : Nat), (1255 : Nat))] (rowG encT T q)))], (0 : Int) ≤ n ∧ (0 : Int) < (5 : Int), (0 : Int) ≤ n % (5 : Int) ∧ n % (5 : Int) < (↑(5 : Nat) : Int), (n % (5 : Int)).toNat < (5 : Nat), List.drop (0 : Nat) (rowsOf [AV.val (Value.string (ByteArray.mk #[(32 : UInt8)])), AV.val (Value.string (ByteArray.mk #[(10 : UInt8)])), AV.val (Value.string (ByteArray.mk #[(9 : UInt8)])), AV.val (Value.string (ByteArray.mk #[(35 : UInt8), (120 : UInt8), (10 : UInt8)])), AV.val (Value.string (ByteArray.mk #[(32 : UInt8), (35 : UInt8), (32 : UInt8), (34 : UInt8), (32 : UInt8), (35 : UInt8), (10 : UInt8), (10 : UInt8)]))] (1 : Nat) (n % (5 : Int)).toNat) = [AV.val (Value.string (str (betW n)))]]) rfl rfl (by kernel_rfl) ⟨(decide_eq_false h0), (CallOK.ren hA [(10, 1255)] [10] rfl rfl rfl rfl trivial rfl ⟨rfl, fun _ => rfl, trivial⟩), (by first | omega | exact hrow), (by first | omega | exact hrow), (by first | omega | exact hrow), (by first | omega | exact hrow), trivial⟩ rfl ⟨rfl, fun _ => rfl, rfl, closed_renN (fun _ => rfl), trivial⟩ ?_
        refine Safe.ren [(1255, 20)] rfl rfl rfl rfl ⟨rfl, fun _ => rfl, rfl, closed_renN (fun _ => rfl), trivial⟩ ?_
        obtain ⟨b, hbe⟩ : ∃ b, betW n = b := ⟨_, rfl⟩
        rw [hbe] at hbm hbb ⊢
        have hTl : T.length = T'.length + 1 := by rw [hTT]; simp
        have hsb := str_size b
        have hjl : ∀ k, (joinT b (T'.take k)).length ≤ 8 + 2 * t.length + 10 * T'.length := fun k => by
          have h1 := joinT_len hbb.2 (T'.take k)
          have h2 := sumT_take T' k
          have h3 : (T'.take k).length ≤ T'.length := by rw [List.length_take]; omega
          omega
        have hget : ∀ k, k < T'.length → T'.getD k default = T.getD k default := fun k hk => by
          rw [hTT, List.getD_eq_getElem?_getD, List.getD_eq_getElem?_getD, List.getElem?_append_left hk]
        have hwk : ∀ k, k < T'.length → Wfk (T.getD k default) := fun k hk => by
          rw [← hget k hk, List.getD_eq_getElem?_getD, List.getElem?_eq_getElem hk]
          exact hwf _ (List.getElem_mem hk)
        have hsn : ∀ k, k < T'.length → joinT b (T'.take (k + 1)) = if (T.getD k default).kind = 2 then joinT b (T'.take k) else joinT b (T'.take k) ++ (tokS (T.getD k default) ++ b) := fun k hk => by
          rw [List.take_succ_eq_append_getElem hk, joinT_snoc, ← hget k hk, List.getD_eq_getElem?_getD, List.getElem?_eq_getElem hk]
          rfl
        refine Safe.withLoop (loopAt Try.f5 1) [1, 20] 156 (fun k : Nat => [(8, .sl 20 0 5 T.length none), (11, S (str b)), (12, S (str (joinT b (T'.take k)))), (13, I k)]) (fun _ => [(1, .ro 1 z.length (rowG encI z)), (20, .vec 39 5 T.length (rowG encT T))]) (fun k => k ≤ T'.length) (fun k => T'.length - k) ?_ ?_
        · intro k hk ih
          have hj1 := hjl k
          have hsj := str_size (joinT b (T'.take k))
          by_cases h1 : (k : Int) + 1 < T.length
          · have hk2 : k < T'.length := by omega
            have hw := hwk k hk2
            have hs := hsn k hk2
            have hj2 := hjl (k + 1)
            have htl := tokS_len (T.getD k default)
            have hst := str_size (tokS (T.getD k default))
            have hsb2 := str_size (tokS (T.getD k default) ++ b)
            have hA1 : S (str (tokS (T.getD k default)) ++ str b) = S (str (tokS (T.getD k default) ++ b)) := congrArg (fun x => S x) (str_app _ _)
            have hA2 : S (str (joinT b (T'.take k)) ++ str (tokS (T.getD k default) ++ b)) = S (str (joinT b (T'.take k) ++ (tokS (T.getD k default) ++ b))) := congrArg (fun x => S x) (str_app _ _)
            have hle : (T.getD k default).text.length ≤ 288 := by
              have h3 : T'.getD k default ∈ T' := by
                rw [List.getD_eq_getElem?_getD, List.getElem?_eq_getElem hk2]; exact List.getElem_mem hk2
              rw [hget k hk2] at h3
              have h4 : (T.getD k default).text.length ≤ sumT T' := sumT_mem _ _ h3
              omega
            by_cases h2 : (T.getD k default).kind = 2
            · rw [if_pos h2] at hs
              have h3 : ¬ (T.getD k default).kind = 3 := by omega
              refine Safe.goto mixed 21 [⟨1100, [(4, .tt true)]⟩, ⟨1200, []⟩, ⟨1300, [(5, .tt false)]⟩, ⟨1400, [(5, .tt true)]⟩, ⟨1500, []⟩] [8, 11, 12, 13] [1, 20] (todo' := loopAt Go.Proofs.Try.f5 1) (sl := slotsOf 156 [(8, .sl ((20 : Nat)) ((0 : Nat)) ((5 : Nat)) (T.length) (none)), (11, S (str b)), (12, S (str (joinT b (List.take k T')))), (13, I ((↑k : Int) + (1 : Int)))]) (hp := [(1, .ro ((1 : Nat)) (z.length) (rowG encI z)), (20, .vec ((39 : Nat)) ((5 : Nat)) (T.length) (rowG encT T))]) (ob := [inK IntKind.i64 ((↑k : Int) + (1 : Int)), decide ((↑k : Int) + (1 : Int) < (↑T.length : Int)) = true, (0 : Int) ≤ (↑k : Int) ∧ (↑k : Int) < (↑T.length : Int), k < T.length, (0 : Int) ≤ (↑k : Int) ∧ (↑k : Int) < (↑T.length : Int), k < T.length, decide ((T.getD k default).kind = (3 : Int)) = false, (0 : Int) ≤ (↑k : Int) ∧ (↑k : Int) < (↑T.length : Int), k < T.length, decide ((T.getD k default).kind = (2 : Int)) = true, inK IntKind.i64 ((↑k : Int) + (1 : Int))]) rfl rfl (by kernel_rfl) ⟨(by simp only [inK]; omega), (decide_eq_true h1), (by omega), (by omega), (by omega), (by omega), (decide_eq_false h3), (by omega), (by omega), (decide_eq_true h2), (by simp only [inK]; omega), trivial⟩ rfl ⟨rfl, fun _ => rfl, rfl, fun _ => rfl, trivial⟩ ?_
              have hh := ih (k + 1) (by omega) (by omega)
              rw [hs] at hh
              exact hh
            · rw [if_neg h2] at hs
              have hkb := wf_bts hw h2
              rw [List.length_append] at hsb2
              by_cases h3 : (T.getD k default).kind = 3
              · have hq : qAll (T.getD k default).text = true := by
                  rcases hw with ⟨h, _⟩ | h | ⟨_, h⟩ | ⟨h, _⟩
                  · omega
                  · omega
                  · exact decide_eq_true fun j hj => by
                      rw [List.getD_eq_getElem?_getD, List.getElem?_eq_getElem hj]; exact h _ (List.getElem_mem hj)
                  · omega
                have hQ := quote_ok (T.getD k default).text hkb.1 (by omega) hq
                have hte : tokS (T.getD k default) = quoteL (T.getD k default).text := by rw [tokS, if_pos h3]
                rw [← hte] at hQ
                refine Safe.goto mixed 30 [⟨1100, [(4, .tt true)]⟩, ⟨1200, []⟩, ⟨1300, [(5, .tt true)]⟩, ⟨1400, [(1, .call [] (.tup [S (str (tokS (T.getD k default))), I ((0 : Int))]) [])]⟩, ⟨1500, []⟩, ⟨1600, []⟩, ⟨1700, [(5, .tt false)]⟩, ⟨1800, [(3, .is (S (str (tokS (T.getD k default) ++ b)))), (4, .is (S (str (joinT b (List.take k T') ++ (tokS (T.getD k default) ++ b)))))]⟩, ⟨1900, []⟩] [8, 11, 12, 13] [1, 20] (todo' := loopAt Go.Proofs.Try.f5 1) (sl := slotsOf 156 [(8, .sl ((20 : Nat)) ((0 : Nat)) ((5 : Nat)) (T.length) (none)), (11, S (str b)), (12, S (str (joinT b (List.take k T') ++ (tokS (T.getD k default) ++ b)))), (13, I ((↑k : Int) + (1 : Int)))]) (hp := [(1, .ro ((1 : Nat)) (z.length) (rowG encI z)), (20, .vec ((39 : Nat)) ((5 : Nat)) (T.length) (rowG encT T))]) (ob := [inK IntKind.i64 ((↑k : Int) + (1 : Int)), decide ((↑k : Int) + (1 : Int) < (↑T.length : Int)) = true, (0 : Int) ≤ (↑k : Int) ∧ (↑k : Int) < (↑T.length : Int), k < T.length, (0 : Int) ≤ (↑k : Int) ∧ (↑k : Int) < (↑T.length : Int), k < T.length, decide ((T.getD k default).kind = (3 : Int)) = true, CallOK Try.prog (16 : Nat) ([] ++ [AV.val (Value.string (str (T.getD k default).text))] ++ []) [] (AV.tup [AV.val (Value.string (str (tokS (T.getD k default)))), AV.val (Value.int IntKind.i64 (0 : Int))]) [], (0 : Int) ≤ (↑k : Int) ∧ (↑k : Int) < (↑T.length : Int), k < T.length, decide ((T.getD k default).kind = (2 : Int)) = false, (str (tokS (T.getD k default))).size + (str b).size ≤ (9223372036854775807 : Nat), AV.val (Value.string (str (tokS (T.getD k default)) ++ str b)) = AV.val (Value.string (str (tokS (T.getD k default) ++ b))), (str (joinT b (List.take k T'))).size + (str (tokS (T.getD k default) ++ b)).size ≤ (9223372036854775807 : Nat), AV.val (Value.string (str (joinT b (List.take k T')) ++ str (tokS (T.getD k default) ++ b))) = AV.val (Value.string (str (joinT b (List.take k T') ++ (tokS (T.getD k default) ++ b)))), inK IntKind.i64 ((↑k : Int) + (1 : Int))]) rfl rfl (by kernel_rfl) ⟨(by simp only [inK]; first | omega | exact hA1 | exact hA2), (decide_eq_true h1), (by first | omega | exact hA1 | exact hA2), (by first | omega | exact hA1 | exact hA2), (by first | omega | exact hA1 | exact hA2), (by first | omega | exact hA1 | exact hA2), (decide_eq_true h3), hQ, (by first | omega | exact hA1 | exact hA2), (by first | omega | exact hA1 | exact hA2), (decide_eq_false h2), (by first | omega | exact hA1 | exact hA2), (by first | omega | exact hA1 | exact hA2), (by first | omega | exact hA1 | exact hA2), (by first | omega | exact hA1 | exact hA2), (by simp only [inK]; first | omega | exact hA1 | exact hA2), trivial⟩ rfl ⟨rfl, fun _ => rfl, rfl, fun _ => rfl, trivial⟩ ?_
                have hh := ih (k + 1) (by omega) (by omega)
                rw [hs] at hh
                exact hh
              · have hte : tokS (T.getD k default) = (T.getD k default).text := by rw [tokS, if_neg h3]
                rw [hte] at hA1 hA2 hs hst hsb2 htl
                refine Safe.goto mixed 23 [⟨1100, [(4, .tt true)]⟩, ⟨1200, []⟩, ⟨1300, [(5, .tt false)]⟩, ⟨1400, [(5, .tt false)]⟩, ⟨1500, [(3, .is (S (str ((T.getD k default).text ++ b)))), (4, .is (S (str (joinT b (List.take k T') ++ ((T.getD k default).text ++ b)))))]⟩, ⟨1600, []⟩] [8, 11, 12, 13] [1, 20] (todo' := loopAt Go.Proofs.Try.f5 1) (sl := slotsOf 156 [(8, .sl ((20 : Nat)) ((0 : Nat)) ((5 : Nat)) (T.length) (none)), (11, S (str b)), (12, S (str (joinT b (List.take k T') ++ ((T.getD k default).text ++ b)))), (13, I ((↑k : Int) + (1 : Int)))]) (hp := [(1, .ro ((1 : Nat)) (z.length) (rowG encI z)), (20, .vec ((39 : Nat)) ((5 : Nat)) (T.length) (rowG encT T))]) (ob := [inK IntKind.i64 ((↑k : Int) + (1 : Int)), decide ((↑k : Int) + (1 : Int) < (↑T.length : Int)) = true, (0 : Int) ≤ (↑k : Int) ∧ (↑k : Int) < (↑T.length : Int), k < T.length, (0 : Int) ≤ (↑k : Int) ∧ (↑k : Int) < (↑T.length : Int), k < T.length, decide ((T.getD k default).kind = (3 : Int)) = false, (0 : Int) ≤ (↑k : Int) ∧ (↑k : Int) < (↑T.length : Int), k < T.length, decide ((T.getD k default).kind = (2 : Int)) = false, (str (T.getD k default).text).size + (str b).size ≤ (9223372036854775807 : Nat), AV.val (Value.string (str (T.getD k default).text ++ str b)) = AV.val (Value.string (str ((T.getD k default).text ++ b))), (str (joinT b (List.take k T'))).size + (str ((T.getD k default).text ++ b)).size ≤ (9223372036854775807 : Nat), AV.val (Value.string (str (joinT b (List.take k T')) ++ str ((T.getD k default).text ++ b))) = AV.val (Value.string (str (joinT b (List.take k T') ++ ((T.getD k default).text ++ b)))), inK IntKind.i64 ((↑k : Int) + (1 : Int))]) rfl rfl (by kernel_rfl) ⟨(by simp only [inK]; first | omega | exact hA1 | exact hA2), (decide_eq_true h1), (by first | omega | exact hA1 | exact hA2), (by first | omega | exact hA1 | exact hA2), (by first | omega | exact hA1 | exact hA2), (by first | omega | exact hA1 | exact hA2), (decide_eq_false h3), (by first | omega | exact hA1 | exact hA2), (by first | omega | exact hA1 | exact hA2), (decide_eq_false h2), (by first | omega | exact hA1 | exact hA2), (by first | omega | exact hA1 | exact hA2), (by first | omega | exact hA1 | exact hA2), (by first | omega | exact hA1 | exact hA2), (by simp only [inK]; first | omega | exact hA1 | exact hA2), trivial⟩ rfl ⟨rfl, fun _ => rfl, rfl, fun _ => rfl, trivial⟩ ?_
                have hh := ih (k + 1) (by omega) (by omega)
                rw [hs] at hh
                exact hh
          · have hkT : k = T'.length := by omega
            rw [hkT, List.take_length] at hj1 ⊢
            have hjb := joinT_bts hbb.1 T' hwf
            obtain ⟨R, hR1, hR2⟩ := relex_all b hbm T' hwf
            have hB := tokens_ok (joinT b T') hjb (by omega) R hR1
            have hRT : R.map kt = (T.filter notNum).map kt := by
              rw [hR2, hTT, List.filter_append, List.map_append]; rfl
            have hRl : R.length = (T.filter notNum).length := by have := congrArg List.length hRT; simpa using this
            have hRb := lex_len _ _ _ _ _ _ _ hR1
            simp only [List.length_nil] at hRb
            have h1' : ¬ ((T'.length : Nat) : Int) + 1 < T.length := by omega
            clear ih
            refine Safe.goto mixed 14 [⟨1100, [(4, .tt false)]⟩, ⟨1200, [(1, .call [] (.tup [.sl ((1255 : Nat)) ((0 : Nat)) ((5 : Nat)) (R.length) (none), .agg [I ((0 : Int)), I ((0 : Int))], I ((0 : Int))]) [(1255, some (.vec ((39 : Nat)) ((5 : Nat)) (R.length) (fun q => renL [((10 : Nat), (1255 : Nat))] (rowG encT R q))))])]⟩, ⟨1300, []⟩, ⟨1400, []⟩] [8, 17, 19, 20, 21] [1, 20, 1255] (todo' := loopAt Go.Proofs.Try.f5 2) (sl := slotsOf 156 [(8, .sl ((20 : Nat)) ((0 : Nat)) ((5 : Nat)) (T.length) (none)), (17, .sl ((1255 : Nat)) ((0 : Nat)) ((5 : Nat)) (R.length) (none)), (19, I ((0 : Int))), (20, I ((0 : Int))), (21, I ((0 : Int)))]) (hp := [(1, .ro ((1 : Nat)) (z.length) (rowG encI z)), (20, .vec ((39 : Nat)) ((5 : Nat)) (T.length) (rowG encT T)), (1255, .vec ((39 : Nat)) ((5 : Nat)) (R.length) (fun q => renL [((10 : Nat), (1255 : Nat))] (rowG encT R q)))]) (ob := [inK IntKind.i64 ((↑T'.length : Int) + (1 : Int)), decide ((↑T'.length : Int) + (1 : Int) < (↑T.length : Int)) = false, CallOK Try.prog (15 : Nat) ([] ++ [AV.val (Value.string (str (joinT b T')))] ++ []) [] (AV.tup [AV.sl (1255 : Nat) (0 : Nat) (5 : Nat) R.length none, AV.agg [AV.val (Value.int IntKind.i64 (0 : Int)), AV.val (Value.int IntKind.i64 (0 : Int))], AV.val (Value.int IntKind.i64 (0 : Int))]) [((1255 : Nat), some (Ob.vec (39 : Nat) (5 : Nat) R.length fun q => renL [((10 : Nat), (1255 : Nat))] (rowG encT R q)))]]) rfl rfl (by kernel_rfl) ⟨(by simp only [inK]; omega), (decide_eq_false h1'), (CallOK.ren hB [(10, 1255)] [10] rfl rfl rfl rfl trivial rfl ⟨rfl, fun _ => rfl, trivial⟩), trivial⟩ rfl ⟨rfl, fun _ => rfl, rfl, fun _ => rfl, rfl, closed_renN (fun _ => rfl), trivial⟩ ?_
            refine Safe.ren [(1255, 21)] rfl rfl rfl rfl ⟨rfl, fun _ => rfl, rfl, fun _ => rfl, rfl, closed_renN (fun _ => rfl), trivial⟩ ?_
            refine Safe.withLoop (loopAt Try.f5 2) [1, 20, 21] 156 (fun i : Nat => [(8, .sl 20 0 5 T.length none), (17, .sl 21 0 5 R.length none), (19, I 0), (20, I ((T.take i).filter notNum).length), (21, I i)]) (fun _ => [(1, .ro 1 z.length (rowG encI z)), (20, .vec 39 5 T.length (rowG encT T)), (21, .vec 39 5 R.length (rowG encT R))]) (fun i => i ≤ T.length) (fun i => T.length - i) ?_ ?_
            · intro i hi ih
              have hfl : ((T.take i).filter notNum).length ≤ (T.filter notNum).length := by
                conv => rhs; rw [← List.take_append_drop i T, List.filter_append, List.length_append]
                omega
              by_cases hI : (i : Int) < T.length
              · by_cases h2 : (T.getD i default).kind = 2
                · have hf := filt_no T i (by omega) (fun h => (of_decide_eq_true h) h2)
                  refine Safe.goto mixed 14 [⟨1100, [(3, .tt true)]⟩, ⟨1200, [(5, .tt true)]⟩, ⟨1300, []⟩] [8, 17, 19, 20, 21] [1, 20, 21] (todo' := loopAt Go.Proofs.Try.f5 2) (sl := slotsOf 156 [(8, .sl ((20 : Nat)) ((0 : Nat)) ((5 : Nat)) (T.length) (none)), (17, .sl ((21 : Nat)) ((0 : Nat)) ((5 : Nat)) (R.length) (none)), (19, I ((0 : Int))), (20, I ((↑(List.filter notNum (List.take i T)).length : Int))), (21, I ((↑i : Int) + (1 : Int)))]) (hp := [(1, .ro ((1 : Nat)) (z.length) (rowG encI z)), (20, .vec ((39 : Nat)) ((5 : Nat)) (T.length) (rowG encT T)), (21, .vec ((39 : Nat)) ((5 : Nat)) (R.length) (rowG encT R))]) (ob := [decide ((↑i : Int) < (↑T.length : Int)) = true, (0 : Int) ≤ (↑i : Int) ∧ (↑i : Int) < (↑T.length : Int), i < T.length, decide ((T.getD i default).kind = (2 : Int)) = true, inK IntKind.i64 ((↑i : Int) + (1 : Int))]) rfl rfl (by kernel_rfl) ⟨(decide_eq_true hI), (by omega), (by omega), (decide_eq_true h2), (by simp only [inK]; omega), trivial⟩ rfl ⟨rfl, fun _ => rfl, rfl, fun _ => rfl, rfl, fun _ => rfl, trivial⟩ ?_
                  have hh := ih (i + 1) (by omega) (by omega)
                  rw [hf] at hh
                  exact hh
                · have hf := filt_at T i (by omega) (decide_eq_true h2)
                  have hm2 := map_getD kt R _ hRT ((T.take i).filter notNum).length (by omega)
                  rw [hf.2.1] at hm2
                  simp only [kt, Prod.mk.injEq] at hm2
                  obtain ⟨q, hq⟩ : ∃ q, ((T.take i).filter notNum).length = q := ⟨_, rfl⟩
                  rw [hq] at hf hm2 ⊢
                  have hc1 : ¬ (q : Int) ≥ R.length := by omega
                  have hc2 : ¬ ¬ (T.getD i default).kind = (R.getD q default).kind := fun h => h hm2.1.symm
                  have hc3 : ¬ ¬ str (T.getD i default).text = str (R.getD q default).text := fun h => h (by rw [hm2.2])
                  refine Safe.goto mixed 21 [⟨1100, [(3, .tt true)]⟩, ⟨1200, [(5, .tt false)]⟩, ⟨1300, [(3, .tt false), (15, .tt false), (28, .tt false)]⟩, ⟨1400, []⟩, ⟨1500, []⟩] [8, 17, 19, 20, 21] [1, 20, 21] (todo' := loopAt Go.Proofs.Try.f5 2) (sl := slotsOf 156 [(8, .sl ((20 : Nat)) ((0 : Nat)) ((5 : Nat)) (T.length) (none)), (17, .sl ((21 : Nat)) ((0 : Nat)) ((5 : Nat)) (R.length) (none)), (19, I ((0 : Int))), (20, I ((↑q : Int) + (1 : Int))), (21, I ((↑i : Int) + (1 : Int)))]) (hp := [(1, .ro ((1 : Nat)) (z.length) (rowG encI z)), (20, .vec ((39 : Nat)) ((5 : Nat)) (T.length) (rowG encT T)), (21, .vec ((39 : Nat)) ((5 : Nat)) (R.length) (rowG encT R))]) (ob := [decide ((↑i : Int) < (↑T.length : Int)) = true, (0 : Int) ≤ (↑i : Int) ∧ (↑i : Int) < (↑T.length : Int), i < T.length, decide ((T.getD i default).kind = (2 : Int)) = false, decide ((↑q : Int) ≥ (↑R.length : Int)) = false, (0 : Int) ≤ (↑i : Int) ∧ (↑i : Int) < (↑T.length : Int), i < T.length, (0 : Int) ≤ (↑q : Int) ∧ (↑q : Int) < (↑R.length : Int), q < R.length, (decide ¬(T.getD i default).kind = (R.getD q default).kind) = false, (0 : Int) ≤ (↑i : Int) ∧ (↑i : Int) < (↑T.length : Int), i < T.length, (0 : Int) ≤ (↑q : Int) ∧ (↑q : Int) < (↑R.length : Int), q < R.length, (decide ¬str (T.getD i default).text = str (R.getD q default).text) = false, inK IntKind.i64 ((↑q : Int) + (1 : Int)), inK IntKind.i64 ((↑i : Int) + (1 : Int))]) rfl rfl (by kernel_rfl) ⟨(decide_eq_true hI), (by omega), (by omega), (decide_eq_false h2), (decide_eq_false hc1), (by omega), (by omega), (by omega), (by omega), (decide_eq_false hc2), (by omega), (by omega), (by omega), (by omega), (decide_eq_false hc3), (by simp only [inK]; omega), (by simp only [inK]; omega), trivial⟩ rfl ⟨rfl, fun _ => rfl, rfl, fun _ => rfl, rfl, fun _ => rfl, trivial⟩ ?_
                  have hh := ih (i + 1) (by omega) (by omega)
                  rw [hf.2.2] at hh
                  exact hh
              · have hiT : i = T.length := by omega
                rw [hiT, List.take_length]
                have hI' : ¬ ((T.length : Nat) : Int) < T.length := by omega
                have hkR : (((T.filter notNum).length : Nat) : Int) = R.length := by omega
                refine Safe.ends mixed Go.Proofs.Try.func5 7 [⟨1100, [(3, .tt false)]⟩, ⟨1200, [(6, .tt true), (9, .call [] (B (true)) [])]⟩] (r := B (true)) (hp := [(1, .ro ((1 : Nat)) (z.length) (rowG encI z))]) (ob := [decide ((↑T.length : Int) < (↑T.length : Int)) = false, decide ((↑(List.filter notNum T).length : Int) = (↑R.length : Int)) = true, CallOK Try.prog (9 : Nat) ([] ++ [] ++ []) [] (AV.val (Value.bool true)) []]) rfl (by kernel_rfl) ⟨(decide_eq_false hI'), (decide_eq_true hkR), awake_any, trivial⟩ rfl ⟨ObLe.refl _, trivial⟩ ⟨rfl, fun _ => rfl, trivial⟩ rfl
            · intro H3
              exact Safe.leH (H3 0 (Nat.zero_le _)) rfl (SlLe.refl _) ⟨ObLe.refl _, ObLe.refl _, ⟨rfl, rfl, rfl, fun _ _ => rfl⟩, trivial⟩ rfl ⟨rfl, fun _ => rfl, rfl, fun _ => rfl, rfl, fun _ => rfl, trivial⟩
        · intro H2
          have hj0 : joinT b (T'.take 0) = b := by unfold joinT; simp
          have hh := H2 0 (Nat.zero_le _)
          rw [hj0] at hh
          exact Safe.leH hh rfl (SlLe.refl _) ⟨ObLe.refl _, ⟨rfl, rfl, rfl, fun _ _ => rfl⟩, trivial⟩ rfl ⟨rfl, fun _ => rfl, rfl, fun _ => rfl, trivial⟩
  · intro H
    have hr := nV_bd z (min 1000 z.length) 0 12 (by omega)
    have hr2 : 0 ≤ nV z (min 1000 z.length) 0 (12 - 1 + 1) ∧ nV z (min 1000 z.length) 0 (12 - 1 + 1) < 12 := hr
    refine Safe.goto mixed 11 [⟨1100, []⟩, ⟨1200, [(1, .call [1] (.ptr ((1255 : Nat)) ((0 : Nat)) ((0 : Nat)) ((0 : Nat))) [(1255, some (.blk ((47 : Nat)) [.sl ((1 : Nat)) ((0 : Nat)) ((1 : Nat)) (min (1000 : Nat) z.length) (none), I ((0 : Int))]))])]⟩, ⟨1300, []⟩, ⟨1400, [(1, .call [1255, 1] (I ((1 : Int) + nV z (min (1000 : Nat) z.length) (0 : Nat) ((12 : Int) - (1 : Int) + (1 : Int)))) [(1255, some (.blk ((47 : Nat)) [.sl ((1 : Nat)) ((0 : Nat)) ((1 : Nat)) (min (1000 : Nat) z.length) (none), I ((↑(nA (min (1000 : Nat) z.length) (0 : Nat) ((12 : Int) - (1 : Int) + (1 : Int))) : Int))]))])]⟩] [1, 5, 6, 7] [1, 1255] (todo' := loopAt Go.Proofs.Try.f5 0) (sl := slotsOf 156 [(1, .val (Value.int IntKind.u8 n)), (5, .ptr ((1255 : Nat)) ((0 : Nat)) ((0 : Nat)) ((0 : Nat))), (6, S (ByteArray.mk #[])), (7, I ((1 : Int) + nV z (min (1000 : Nat) z.length) (0 : Nat) ((12 : Int) - (1 : Int) + (1 : Int))))]) (hp := [(1, .ro ((1 : Nat)) (z.length) (rowG encI z)), (1255, .blk ((47 : Nat)) [.sl ((1 : Nat)) ((0 : Nat)) ((1 : Nat)) (min (1000 : Nat) z.length) (none), I ((↑(nA (min (1000 : Nat) z.length) (0 : Nat) ((12 : Int) - (1 : Int) + (1 : Int))) : Int))])]) (ob := [CallOK Try.prog (11 : Nat) ([] ++ [AV.sl (1 : Nat) (0 : Nat) (1 : Nat) z.length none] ++ []) [((1 : Nat), Ob.ro (1 : Nat) z.length (rowG encI z))] (AV.ptr (1255 : Nat) (0 : Nat) (0 : Nat) (0 : Nat)) [((1255 : Nat), some (Ob.blk (47 : Nat) [AV.sl (1 : Nat) (0 : Nat) (1 : Nat) (min (1000 : Nat) z.length) none, AV.val (Value.int IntKind.i64 (0 : Int))]))], CallOK Try.prog (12 : Nat) ([] ++ [AV.ptr (1255 : Nat) (0 : Nat) (0 : Nat) (0 : Nat), ofV (Value.int IntKind.i64 (1 : Int)), ofV (Value.int IntKind.i64 (12 : Int))] ++ []) [((1255 : Nat), Ob.blk (47 : Nat) [AV.sl (1 : Nat) (0 : Nat) (1 : Nat) (min (1000 : Nat) z.length) none, AV.val (Value.int IntKind.i64 (0 : Int))]), ((1 : Nat), Ob.ro (1 : Nat) z.length (rowG encI z))] (AV.val (Value.int IntKind.i64 ((1 : Int) + nV z (min (1000 : Nat) z.length) (0 : Nat) ((12 : Int) - (1 : Int) + (1 : Int))))) [((1255 : Nat), some (Ob.blk (47 : Nat) [AV.sl (1 : Nat) (0 : Nat) (1 : Nat) (min (1000 : Nat) z.length) none, AV.val (Value.int IntKind.i64 (↑(nA (min (1000 : Nat) z.length) (0 : Nat) ((12 : Int) - (1 : Int) + (1 : Int))) : Int))]))]]) rfl rfl (by kernel_rfl) ⟨(CallOK.ren (new_any (z) (by omega)) [(1, 1), (10, 1255)] [1, 10] rfl rfl rfl rfl ⟨rfl, fun _ => rfl, trivial⟩ rfl ⟨rfl, fun _ => rfl, rfl, rfl, trivial⟩), (CallOK.ren (range_any (z) (min (1000 : Nat) z.length) ((0 : Nat)) ((1 : Int)) ((12 : Int)) (by omega) (by omega) (by omega) (by omega) (by omega)) [(0, 1255), (1, 1)] [0, 1] rfl rfl rfl rfl ⟨rfl, rfl, rfl, fun _ => rfl, trivial⟩ rfl ⟨rfl, rfl, rfl, fun _ => rfl, trivial⟩), trivial⟩ rfl ⟨rfl, fun _ => rfl, rfl, rfl, trivial⟩ ?_
    refine Safe.ren [(1255, 20)] rfl rfl rfl rfl ⟨rfl, fun _ => rfl, rfl, rfl, trivial⟩ ?_
    exact Safe.leH (H ⟨_, _, []⟩ ⟨(nA_bd (min 1000 z.length) 0 12 (Nat.zero_le _)).2, by dsimp only; omega, fun z hz => (by cases hz), by dsimp only; simp; omega⟩) rfl (SlLe.refl _) ⟨ObLe.refl _, ObLe.refl _, trivial⟩ rfl ⟨rfl, fun _ => rfl, rfl, rfl, trivial⟩
end Go.Proofs.Ytnjidpidcmapkaa
