/- The engine, part Y: append of a make onto an own slice. No conditions but those of each theorem. -/
import Derived.Test.YtbgbjgedjmhcaaaSyJ
import Derived.Maps.AppendAt
import Derived.Lib.AppendZeros
namespace Go.Proofs.Ytbgbjgedjmhcaaa.AZ
open Go.Lib
set_option linter.unusedVariables false
set_option linter.unusedSimpArgs false
section
variable {P : Program} (w : World)
theorem room_z (t tn ty e : TypeId) (i : TypeInfo) (z : Value) (k kn : IntKind) (ht : P.underlying t = some (.slice e)) (htn : P.underlying tn = some (.int kn)) (hi : P.info? e = some i) (hz : i.zero = some z)
    (g sLen sCap n : Nat) (cur : Array Value) (hg : w.heap[g]? = some (.cells cur e (0, 0))) (h0 : 0 < n) (hs : 0 < i.size) (h63 : (n : Int) ≤ 9223372036854775807) (h48 : n * i.bytes ≤ 281474976710656)
    (hl : (Builtin.zeroCells z.cells n).toList.length = n * i.size) (h1 : ∀ u ∈ (Builtin.zeroCells z.cells n).toList, u.oneCell' = true)
    (hroom : sLen + n ≤ sCap) (hfit : sLen * i.size + (Builtin.zeroCells z.cells n).toList.length ≤ cur.size) :
    (Builtin.append_ #[t, tn] ty #[.slice (some ⟨g, 0, none⟩) sLen sCap, .int k n]).run P w =
      .ok (.slice (some ⟨g, 0, none⟩) (sLen + n) sCap) (w.setRow g (cur.toList.take (sLen * i.size) ++ (Builtin.zeroCells z.cells n).toList ++ cur.toList.drop (sLen * i.size + (Builtin.zeroCells z.cells n).toList.length)).toArray) := by
  have hst := run_storeCells_at P g (sLen * i.size) e (Builtin.zeroCells z.cells n).toList 0 cur w hg (by simpa using hfit) h1
  simp only [Nat.add_zero] at hst
  have hn : n ≠ 0 := by omega
  have hw : IntKind.i64.wrap (n : Int) = n := by rw [IntKind.wrap_i64]; omega
  have h48i : ¬ (281474976710656 < (n : Int) * (i.bytes : Int)) := by
    rw [← Int.natCast_mul]
    omega
  have hneg : ¬ ((n : Int) < 0) := by omega
  have hns : ¬ (n * i.size = 0) := Nat.mul_ne_zero hn (by omega)
  generalize hZ : Builtin.zeroCells z.cells n = Z at *
  simp [Builtin.append_, run_underlying ht, run_underlying htn, sizeOf, typeInfo, zeroValue, hi, hz, asInt, asIntOf, hw, hn, hneg, hns, h48i, hroom, hZ, Addr.add_lit, hst]
theorem grow_z (t tn ty e : TypeId) (i : TypeInfo) (z : Value) (k kn : IntKind) (ht : P.underlying t = some (.slice e)) (htn : P.underlying tn = some (.int kn)) (hi : P.info? e = some i) (hz : i.zero = some z)
    (b : Addr) (sLen sCap : Nat) (olds : List Value) (hlo : olds.length = sLen * i.size) (holds : ∀ j v, olds[j]? = some v → w.cell? (b.add j) = some v) (n : Nat) (h0 : 0 < n) (hs : 0 < i.size) (h48 : n * i.bytes ≤ 281474976710656)
    (hg : sCap < sLen + n) (h63 : ((sLen + n : Nat) : Int) ≤ 9223372036854775807) (hfit : Builtin.nextslicecap (sLen + n) sCap * i.bytes ≤ 281474976710656) :
    (Builtin.append_ #[t, tn] ty #[.slice (some b) sLen sCap, .int k n]).run P w =
      .ok (.slice (some ⟨w.heap.size, 0, none⟩) (sLen + n) (grownCap w (sLen + n) sCap e))
        (w.drew.alloc (.cells (olds.toArray ++ Builtin.zeroCells z.cells n ++ Builtin.zeroCells z.cells (grownCap w (sLen + n) sCap e - (sLen + n))) e)) := by
  have hn2 : ¬ (sLen + n ≤ sCap) := by omega
  have h63' : ¬ (9223372036854775807 < ((sLen : Int) + (n : Int))) := by omega
  have h48' : ¬ (281474976710656 < Builtin.nextslicecap (sLen + n) sCap * i.bytes) := by omega
  have hfo := run_firstCells_some (P := P) w.drew i.size sLen b sLen sCap olds hlo (by simpa using holds)
  have hn : n ≠ 0 := by omega
  have hw : IntKind.i64.wrap (n : Int) = n := by rw [IntKind.wrap_i64]; omega
  have h48i : ¬ (281474976710656 < (n : Int) * (i.bytes : Int)) := by
    rw [← Int.natCast_mul]
    omega
  have hneg : ¬ ((n : Int) < 0) := by omega
  have hns : ¬ (n * i.size = 0) := Nat.mul_ne_zero hn (by omega)
  simp [Builtin.append_, run_underlying ht, run_underlying htn, sizeOf, typeInfo, zeroValue, hi, hz, asInt, asIntOf, hw, hn, hneg, hns, hn2, h63', h48', h48i, Question.forced, hfo, newRow, grownCap]
theorem own_z (base : Nat) (t tn ty e : TypeId) (i : TypeInfo) (z : Value) (size bytes : Nat) (k kn : IntKind) (ht : P.underlying t = some (.slice e)) (htn : P.underlying tn = some (.int kn)) (hi : P.info? e = some i) (hz : i.zero = some z)
    (hsize : i.size = size) (hby : i.bytes = bytes) (hzs : z.cells.size = size) (hsz : 0 < size)
    (v : Value) (n : Nat) (xs : List Value) (hown : w.ownsRow base e size v n xs) (m : Nat) (h0 : 0 < m) (h1 : ∀ u ∈ (Builtin.zeroCells z.cells m).toList, u.oneCell' = true)
    (h63 : n + m ≤ maxLen) (hbytes : (n + m) * bytes ≤ 140737488355328) (hbase : base ≤ w.heap.size) :
    ∃ v' w', (Builtin.append_ #[t, tn] ty #[v, .int k m]).run P w = .ok v' w' ∧ w'.ownsRow base e size v' (n + m) (xs ++ (Builtin.zeroCells z.cells m).toList) ∧ w.grownBy w' v.ownBlock ∧
      (v'.ownBlock = v.ownBlock ∨ v'.ownBlock = some w.heap.size) := by
  subst hsize
  subst hby
  have hl : (Builtin.zeroCells z.cells m).toList.length = m * i.size := by rw [Array.length_toList, size_zeroCells, hzs]
  obtain ⟨news, hnw⟩ : ∃ news, news = (Builtin.zeroCells z.cells m).toList := ⟨_, rfl⟩
  have hlz := hl
  have h1z := h1
  rw [← hnw] at hl h1 ⊢
  have hna : news.toArray = Builtin.zeroCells z.cells m := by rw [hnw, Array.toArray_toList]
  have hsmall : n + m ≤ 9223372036854775807 := by simp only [maxLen] at h63; omega
  have hlen : (xs ++ news).length = (n + m) * i.size := by rw [List.length_append, hown.1, hl, Nat.add_mul]
  -- what the growing arm leaves, whatever was there before
  have grown : ∀ (old : Nat), old < n + m → ∀ (row : Option Nat),
      (w.drew.alloc (.cells (xs.toArray ++ news.toArray ++ Builtin.zeroCells z.cells (grownCap w (n + m) old e - (n + m))) e)).ownsRow base e i.size
        (.slice (some ⟨w.heap.size, 0, none⟩) (n + m) (grownCap w (n + m) old e)) (n + m) (xs ++ news) ∧
      w.grownBy (w.drew.alloc (.cells (xs.toArray ++ news.toArray ++ Builtin.zeroCells z.cells (grownCap w (n + m) old e - (n + m))) e)) row := by
    intro old ho row
    have hge := grownCap_ge w (n + m) old e
    have hcm : grownCap w (n + m) old e ≤ maxLen := grownCap_le_maxLen w (n + m) old e h63
    refine ⟨⟨hlen, .inr ⟨w.heap.size, _, _, rfl, hbase, heap_alloc_new w.drew _, hge, hcm, ?_, ?_⟩⟩, ⟨rfl, rfl, rfl, by simp, fun k hk _ => _root_.Go.heap_alloc_old w.drew _ hk⟩⟩
    · simp only [Array.size_append, List.size_toArray, size_zeroCells, hzs, hown.1, hl, ← Nat.add_mul]
      congr 1
      omega
    · simp only [Array.toList_append, List.append_assoc]
      rw [← List.append_assoc, ← hlen]
      exact List.take_left
  rcases hown.2 with ⟨rfl, rfl⟩ | ⟨g, cap, cur, rfl, hbg, hg, hnc, hcm, hcs, htake⟩
  · have hx : xs = [] := List.eq_nil_of_length_eq_zero (by simpa using hown.1)
    subst hx
    have hr := run_append_nil_zeros (P := P) w t tn ty e i z k kn ht htn hi hz m h0 hsz (by omega) (by have hb := hbytes; simp only [Nat.zero_add] at hb; omega)
    have hgr := grown 0 (by omega) (Value.ownBlock (.slice none 0 0))
    simp only [Nat.zero_add, List.nil_append, Array.empty_append] at hgr ⊢
    refine ⟨_, _, hr, ?_, ?_, Or.inr rfl⟩
    · have := hgr.1; rw [hna] at this; exact this
    · have := hgr.2; rw [hna] at this; exact this
  · by_cases hroom : n + m ≤ cap
    · have hfit : n * i.size + news.length ≤ cur.size := by rw [hl, hcs, ← Nat.add_mul]; exact Nat.mul_le_mul_right _ hroom
      have hr := room_z (P := P) w t tn ty e i z k kn ht htn hi hz g n cap m cur hg h0 hsz (by omega) (by have hb := hbytes; rw [Nat.add_mul] at hb; omega) hlz h1z hroom (by rw [← hnw]; exact hfit)
      rw [← hnw] at hr
      refine ⟨_, _, hr, ⟨hlen, .inr ⟨g, cap, _, rfl, hbg, setRow_heap w g cur _ e _ hg, hroom, hcm, ?_, ?_⟩⟩, ⟨rfl, rfl, rfl, by simp, fun k _ hk => setRow_other w g k _ (fun e => hk (by simp [Value.ownBlock, e]))⟩, Or.inl rfl⟩
      · simp only [List.size_toArray, List.length_append, List.length_take, List.length_drop, Array.length_toList]
        omega
      · rw [htake, ← hlen]
        exact List.take_left
    · have holds : ∀ j u, xs[j]? = some u → w.cell? ((⟨g, 0, none⟩ : Addr).add j) = some u := hown.cells (g := g) rfl
      have hr := grow_z (P := P) w t tn ty e i z k kn ht htn hi hz ⟨g, 0, none⟩ n cap xs hown.1 holds m h0 hsz (by have hb := hbytes; rw [Nat.add_mul] at hb; omega) (by omega) (by omega) (growslice_fits (by omega) hbytes)
      have hgr := grown cap (by omega) (Value.ownBlock (.slice (some ⟨g, 0, none⟩) n cap))
      rw [hna] at hgr
      exact ⟨_, _, hr, hgr.1, hgr.2, Or.inr rfl⟩
end
end Go.Proofs.Ytbgbjgedjmhcaaa.AZ
namespace Go.Proofs.Ytbgbjgedjmhcaaa
open Go.RowKit
set_option linter.unusedVariables false
set_option linter.unusedSimpArgs false
section
variable {P : Program} {E : Env} {s : St} {W : World} {sem : Sem Value}
def appZA (P : Program) (nm : Nat) (t tn : TypeId) (x y : AV) : Ac AV := match P.underlying t, P.underlying tn with
  | some (.slice e), some (.int _) => match infoOK P e, zeroA P e with
    | some 1, some [.val z0] => match x, y, one1 (.val z0) with
      | .sl id 0 1 n none, .val (.int _ m), true => .get id fun o => match o with
        | .vec e' 1 n' row => match e' == e with
          | true => .need (n' = n ∧ 0 < n ∧ 0 < m ∧ n + m.toNat ≤ 1099511627776) (.del id (.new nm (.vec e 1 (addN n m.toNat) (catR n row (fun _ => [.val z0]))) (.ret (.sl nm 0 1 (addN n m.toNat) none))))
          | false => .fail
        | _ => .fail
      | _, _, _ => .fail
    | _, _ => .fail
  | _, _ => .fail
theorem zero_list (z : Value) (z0 : Value) (h : z.cells.toList = [z0]) (m : Nat) : (Builtin.zeroCells z.cells m).toList = List.replicate m z0 := by
  have hs : z.cells.size = 1 := by rw [← Array.length_toList, h]; rfl
  have h0 : z.cells[0]! = z0 := by
    rw [getElem!_pos z.cells 0 (by omega)]
    have : z.cells.toList[0]'(by rw [h]; simp) = z0 := by simp [h]
    simpa using this
  refine List.ext_getElem (by simp [Builtin.zeroCells, hs]) fun j h1 h2 => ?_
  have h00 := h0
  rw [getElem!_pos z.cells 0 (by omega)] at h00
  simp [Builtin.zeroCells, hs, Nat.mod_one, h00]
theorem appz_ok (r : RH E s.heap W) (nm : Nat) (t tn ty : TypeId) {x y : AV} {cx cy : Value} (hx : RV E x cx) (hy : RV E y cy) : SemAt P E s W (Builtin.append_ #[t, tn] ty #[cx, cy]) (appZA P nm t tn x y) := by
  unfold appZA
  split
  case h_2 => exact SemAt.fail
  rename_i e kn ht htn
  split
  case h_2 => exact SemAt.fail
  rename_i z0 hi hz0
  split
  case h_2 => exact SemAt.fail
  rename_i id n kk m h1z
  simp only [RV] at hy
  subst hy
  refine SemAt.get fun o ho => ?_
  split
  case h_2 => exact SemAt.fail
  rename_i e' n' row
  split
  case h_2 => exact SemAt.fail
  rename_i hee
  have hee' : e' = e := by simpa using hee
  subst hee'
  refine SemAt.need fun ⟨hn', hnp, hmp, hb⟩ => ?_
  subst hn'
  obtain ⟨i, z, hi1, hz, hsz, hby, hzc, hpos⟩ := infoOK_ok hi
  obtain ⟨i', z', hi1', hz', hzz⟩ := zeroA_ok hz0
  rw [hi1] at hi1'
  obtain rfl := Option.some.inj hi1'
  rw [hz] at hz'
  obtain rfl := Option.some.inj hz'
  have hzl : z.cells.toList = [z0] := by
    match hq : z.cells.toList, hzz with
    | [c], hzz =>
      simp only [List.map_cons, List.map_nil, List.cons.injEq, AV.val.injEq, and_true] at hzz
      rw [hzz]
    | [], hzz => simp at hzz
    | _ :: _ :: _, hzz => simp at hzz
  obtain ⟨news, hnews⟩ : ∃ news, news = List.replicate m.toNat z0 := ⟨_, rfl⟩
  have hzn := zero_list z z0 hzl m.toNat
  rw [← hnews] at hzn
  have hone0 : ∀ u ∈ news, u.oneCell' = true := fun u hu => by
    rw [hnews] at hu
    obtain rfl := (List.mem_replicate.1 hu).2
    exact one1_ok (E := E) h1z (by simp [RV])
  have hrows : ∀ E' : Env, ∀ q, q < m.toNat → RVs E' [.val z0] (cellsAt news 1 q) := fun E' q hq => by
    unfold cellsAt
    rw [hnews, Nat.mul_one, List.drop_replicate, List.take_replicate, Nat.min_eq_left (by omega)]
    simp [RVs, RV]
  have hmm0 : (m.toNat : Int) = m := by omega
  intro out hout _ hnw
  simp only [Ac.run] at hout
  split at hout
  · cases hout
  rename_i q hq
  split at hq
  · cases hq
  rename_i hf
  simp only [Option.some.injEq] at hq
  subst hq
  simp only [Option.some.injEq] at hout
  subst hout
  have hne := hnw nm (by simp)
  obtain ⟨b, k, xs, h1, h2, h3, h4⟩ := r.holds id _ ho
  simp only [RV] at hx
  obtain ⟨b2, k2, h5, h6⟩ := hx
  rw [h1] at h5
  simp only [Option.some.injEq, Prod.mk.injEq] at h5
  obtain ⟨rfl, rfl⟩ := h5
  have hnd : nm ≠ id := fun e => by rw [e, h1] at hne; cases hne
  have hrest : ∀ (o' : Ob), ∀ x, x ≠ nm → ∀ y, find (upd (del s.heap id) nm o') x = some y → find s.heap x = some y := fun o' x hx y hy => by
    rw [find_upd, if_neg (fun e => hx e.symm), find_del] at hy
    split at hy
    · cases hy
    · exact hy
  have hgone : ∀ (o' : Ob), find (upd (del s.heap id) nm o') id = none := fun o' => by
    rw [find_upd, if_neg hnd, find_del]; simp
  have hlen := h2.1
  have fin : ∀ (v' : Value) (W' : World) (xx : Option Addr × Nat) (rw' : Option Nat) (g : W.grownBy W' rw'), (rw' = none ∨ rw' = blkOf E id) → (∀ b, baseBlk xx = some b → rw' = some b ∨ W.heap.size ≤ b) → (Builtin.append_ #[t, tn] ty #[cx, .int kk m]).run P W = .ok v' W' →
      (∀ E' : Env, (∀ i x, E i = some x → E' i = some x) → E' nm = some xx → Holds E' W' nm (.vec e' 1 (addN n' m.toNat) (catR n' row (fun _ => [.val z0]))) ∧ RV E' (.sl nm 0 1 (addN n' m.toNat) none) v') →
      s.slots = s.slots ∧ ∃ cv W' E', (Builtin.append_ #[t, tn] ty #[cx, .int kk m]).run P W = .ok cv W' ∧ Ext E E' [nm] ∧ RV E' (.sl nm 0 1 (addN n' m.toNat) none) cv ∧ RH E' (upd (del s.heap id) nm (.vec e' 1 (addN n' m.toNat) (catR n' row (fun _ => [.val z0])))) W' ∧ Mod E s.heap W E' (upd (del s.heap id) nm (.vec e' 1 (addN n' m.toNat) (catR n' row (fun _ => [.val z0])))) W' := by
    intro v' W' xx rw' g hrw hxx hr hh
    have hxt := nw_set E nm xx hne
    obtain ⟨g1, g2⟩ := hh _ hxt.1 (by simp)
    obtain ⟨q1, q2⟩ := RH.change (h' := upd (del s.heap id) nm (.vec e' 1 (addN n' m.toNat) (catR n' row (fun _ => [.val z0])))) r hxt g (fun b hb => by
      rcases hrw with e | e
      · rw [e] at hb; cases hb
      · exact ⟨id, _, ho, rfl, by show blkOf E id = some b; rw [← e]; exact hb, .inr (hgone _)⟩) (by rw [find_upd]; simp) (hrest _) g1 (fun b hb => hxx b (by
      simp only [Foot, Ob.bx, FootB, blkOf, if_pos] at hb
      obtain ⟨q1, q2⟩ := xx
      cases q1 <;> exact hb))
    exact ⟨rfl, v', W', _, hr, hxt, g2, q1, q2⟩
  have hrow : ∀ E' : Env, (∀ i x, E i = some x → E' i = some x) → RowsOK E' 1 (addN n' m.toNat) (catR n' row (fun _ => [.val z0])) (xs ++ news) := fun E' he q hq => by
    rw [catR_at, cells_cat xs news 1 n' q hlen]
    rw [addN_eq] at hq
    by_cases e : q < n'
    · rw [if_pos e, if_pos e]; exact (h4.mono he) q e
    · rw [if_neg e, if_neg e]; exact (hrows E') _ (by omega)
  have hone : ∀ u ∈ xs ++ news, u.oneCell' = true := fun u hu => (List.mem_append.1 hu).elim (h3 u) (hone0 u)
  cases b with
  | none =>
    obtain ⟨b', _, h0, _⟩ := h6
    omega
  | some a =>
    obtain ⟨o', mm, rfl, g1, g2, g3, g4⟩ := h6
    have hmm : mm = k := by simpa using g4
    subst hmm
    have hform : a.off = 0 ∧ a.spot = none ∧ (n' = 0 ∨ True) := by
      rcases h2.2 with ⟨hv, _⟩ | ⟨g, cap, cur, hv, _⟩
      · simp at hv
      · simp only [Value.slice.injEq, Option.some.injEq] at hv; rw [hv.1]; exact ⟨rfl, rfl, .inr trivial⟩
    have hcx : Value.slice (some ⟨a.block, o', none⟩) n' mm = .slice (some a) n' mm := by
      have := g3 (by omega)
      rw [this, hform.1]
      obtain ⟨ab, ao, asp⟩ := a
      simp only at hform
      simp [hform.1, hform.2.1]
    rw [hcx]
    rw [hcx] at fin
    have hbb : (n' + m.toNat) * i.bytes ≤ 1099511627776 * 128 := Nat.mul_le_mul hb hby
    obtain ⟨v', W', hr, g5, g6, g7⟩ := AZ.own_z (P := P) W 0 t tn ty e' i z 1 i.bytes kk kn ht htn hi1 hz hsz rfl hzc hpos _ n' xs h2 m.toNat (by omega) (by rw [hzn]; exact hone0) (by unfold maxLen; omega) (by omega) (Nat.zero_le _)
    rw [hmm0] at hr
    rw [hzn] at g5
    have hv' : ∃ x cap, v' = .slice x (n' + m.toNat) cap ∧ (x = none → cap = 0 ∧ n' + m.toNat = 0) ∧ (∀ y, x = some y → y.off = 0 ∧ y.spot = none ∧ n' + m.toNat ≤ cap) := by
      rcases g5.2 with ⟨rfl, h0⟩ | ⟨g, cap, cur, rfl, _, _, h7, _⟩
      · exact ⟨none, 0, by rw [h0], (fun _ => ⟨rfl, h0⟩), fun y hy => by cases hy⟩
      · exact ⟨_, cap, rfl, (fun h => by cases h), fun y hy => by cases hy; exact ⟨rfl, rfl, h7⟩⟩
    obtain ⟨x, cap, rfl, hx0, hx1⟩ := hv'
    refine fin _ W' (x, cap) (some a.block) g6 (.inr (by simp [blkOf, h1])) (fun b hb => ?_) hr fun E' he hnm => ⟨⟨x, cap, xs ++ news, hnm, by rw [addN_eq]; exact g5, hone, hrow E' he⟩, ?_⟩
    · cases x with
      | none => cases hb
      | some y =>
        have hb : y.block = b := Option.some.inj hb
        subst hb
        rcases g7 with g7 | g7
        · left; simpa [Value.ownBlock] using g7.symm
        · right; simp only [Value.ownBlock, Option.some.injEq] at g7; omega
    · simp only [RV]
      refine ⟨x, cap, hnm, ?_⟩
      rw [addN_eq]
      cases x with
      | none => obtain ⟨rfl, h0⟩ := hx0 rfl; rw [h0]; exact ⟨none, rfl, rfl, rfl⟩
      | some y =>
        obtain ⟨y1, y2, y3⟩ := hx1 y rfl
        refine ⟨0, cap, ?_, y3, by omega, fun _ => by simp [y1], by simp⟩
        obtain ⟨yb, yo, ys⟩ := y
        simp only at y1 y2
        rw [y1, y2]
end
end Go.Proofs.Ytbgbjgedjmhcaaa
