/- What the law needs, one text behind the other. No conditions but those of each theorem. -/
import Derived.KernelRfl
import Derived.Below
import Derived.WalkKit
import Derived.OpenShut
import Derived.RangeFuncRecord
import Derived.RangeFuncOwn
import Derived.Test.YtbgbjgedjmhcaaaKDb
set_option linter.unnecessarySimpa false
set_option linter.unusedSimpArgs false
set_option linter.unusedVariables false
set_option maxHeartbeats 16000000
set_option maxRecDepth 10000
namespace Go.Proofs.Ytbgbjgedjmhcaaa
open Go.ChangeShapes Go.WideShapes Go.ChangeAt Go.RowKit
def encI (x : Int) : List AV := [I x]
def IsRow (k : IntKind) (w : World) (a : Option Addr) (len cap : Nat) (zs : List Int) : Prop :=
  (a = none ∧ len = 0 ∧ cap = 0 ∧ zs = []) ∨
  ∃ x, a = some x ∧ len ≤ cap ∧ cap ≤ maxLen ∧ zs.length = cap ∧ (∀ i, i < zs.length → w.cell? (x.add i) = some (.int k (zs.getD i 0))) ∧ ∀ n ∈ zs, (Lit.int k n).wf = true
def inE (a : Option Addr) (cap : Nat) : Option Addr × Nat := if cap = 0 then (none, 0) else (a, cap)
theorem addr_plus (a : Addr) (j : Nat) : a.add j = if j = 0 then a else ⟨a.block, a.off + j, none⟩ := by
  by_cases e : j = 0
  · subst e; simp [Addr.add]
  · simp [Addr.add, e]
theorem wf_bd {n : Int} (h : (Lit.int .i64 n).wf = true) : -9223372036854775808 ≤ n ∧ n ≤ 9223372036854775807 := by
  simp [Lit.wf, IntKind.min, IntKind.max, IntKind.signed, IntKind.bits] at h
  simpa using h
theorem IsRow.facts {W : World} {a : Option Addr} {len cap : Nat} {z : List Int} (h : IsRow .i64 W a len cap z) : len ≤ cap ∧ (z.take len).length = len ∧ len ≤ 9223372036854775807 ∧ ∀ n ∈ z, -9223372036854775808 ≤ n ∧ n ≤ 9223372036854775807 := by
  rcases h with ⟨rfl, rfl, rfl, rfl⟩ | ⟨x, rfl, hl, hm, hz, hcell, hwz⟩
  · exact ⟨Nat.le_refl _, rfl, by omega, fun n hn => by cases hn⟩
  · refine ⟨hl, ?_, ?_, fun n hn => wf_bd (hwz n hn)⟩
    · rw [List.length_take]; omega
    · unfold maxLen at hm; omega
theorem IsRow.ro {W : World} {a : Option Addr} {len cap : Nat} {z : List Int} {E : Env} {id : Nat} (h : IsRow .i64 W a len cap z) (hE : E id = some (inE a cap)) : Holds E W id (.ro 1 (z.take len).length (rowG encI (z.take len))) ∧ RV E (.sl id 0 1 (z.take len).length none) (.slice a len cap) := by
  obtain ⟨hlc, hlen, _, _⟩ := h.facts
  rcases h with ⟨rfl, rfl, rfl, rfl⟩ | ⟨x, rfl, hl, hm, hz, hcell, hwz⟩
  · refine ⟨⟨none, 0, [], hE, rfl, .inl ⟨rfl, rfl, rfl⟩, (fun u hu => by cases hu), fun q hq => by simp at hq⟩, none, 0, hE, ?_⟩
    exact ⟨none, rfl, rfl, rfl⟩
  · rw [hlen]
    by_cases h0 : cap = 0
    · subst h0
      obtain rfl : len = 0 := by omega
      have hE' : E id = some (none, 0) := hE
      refine ⟨⟨none, 0, [], hE', rfl, .inl ⟨rfl, rfl, rfl⟩, (fun u hu => by cases hu), fun q hq => by omega⟩, none, 0, hE', ?_⟩
      exact ⟨_, rfl, rfl, rfl⟩
    · have hE' : E id = some (some x, cap) := by rw [hE, inE, if_neg h0]
      have hspot : x.spot = none := by
        have hc := hcell 0 (by omega)
        obtain ⟨b, off, spot⟩ := x
        simpa [Addr.add] using World.cell?_spot hc
      have hb : x.block < W.heap.size := by
        have hc := hcell 0 (by omega)
        rw [addr_plus, if_pos rfl] at hc
        exact block_lt_of_cell hc
      obtain ⟨b, off, spot⟩ := x
      dsimp only at hspot hb
      subst hspot
      have ht : ∀ q, q < len → (z.take len).getD q default = z.getD q 0 := fun q hq => by
        rw [List.getD_eq_getElem?_getD, List.getElem?_take, if_pos hq, List.getD_eq_getElem?_getD]
        rfl
      refine ⟨⟨some ⟨b, off, none⟩, cap, (z.take len).map (fun n => Value.int .i64 n), hE', by rw [List.length_map, hlen, Nat.mul_one], .inr ⟨_, rfl, hb, hl, fun j u hu => ?_⟩, fun u hu => ?_, fun q hq => ?_⟩, some ⟨b, off, none⟩, cap, hE', ⟨off, cap, rfl, hl, by omega, fun _ => by simp, by simp⟩⟩
      · rw [List.getElem?_map] at hu
        cases hz' : (z.take len)[j]? with
        | none => rw [hz'] at hu; simp at hu
        | some n =>
          rw [hz'] at hu
          simp only [Option.map_some, Option.some.injEq] at hu
          subst hu
          have hj : j < len := by
            have := (List.getElem?_eq_some_iff.1 hz').1
            omega
          have hc := hcell j (by omega)
          have e : z.getD j 0 = n := by rw [← ht j hj, List.getD_eq_getElem?_getD, hz']; rfl
          rw [e, addr_plus] at hc
          by_cases e0 : j = 0
          · subst e0; simpa using hc
          · rw [if_neg e0] at hc; exact hc
      · obtain ⟨n, _, rfl⟩ := List.mem_map.1 hu
        rfl
      · unfold cellsAt rowG encI
        have hq' : q < (z.take len).length := by omega
        rw [Nat.mul_one, List.drop_eq_getElem_cons (by simpa using hq')]
        have : (z.take len).getD q default = (z.take len)[q] := by rw [List.getD_eq_getElem?_getD, List.getElem?_eq_getElem hq']; rfl
        rw [this]
        simp [RVs, RV]
theorem CallOK.lawB {P : Program} {g : FuncId} {args : List AV} {h : Hp} (c : CallOK P g args h (B true) []) (hro : ∀ id o, find h id = some o → o.owned = false) {E : Env} {W : World} {cargs : List Value} (hr : RVs E args cargs) (rh : RH E h W) :
    Calls P g cargs.toArray W fun e W' => e = .returned (.bool true) ∧ Below W.heap.size W W' := by
  refine (c.2 E W cargs hr rh (fun id hid => by simp [newIds] at hid)).mono fun e W' ⟨cv, E', he, hx, hv, hr', hm⟩ => ?_
  simp only [RV] at hv
  subst hv
  exact ⟨he, hm.os, hm.tape, hm.output, hm.size, fun b hb => hm.old b hb fun id o ho hw => by rw [hro id o ho] at hw; cases hw⟩
theorem RH.ros {E : Env} {W : World} {h : Hp} (hh : ∀ id o, find h id = some o → Holds E W id o) (hro : ∀ id o, find h id = some o → o.owned = false) : RH E h W :=
  ⟨hh, fun i j o p hi hj hne hw => by rw [hro i o hi] at hw; cases hw⟩
theorem find_one {k : Nat} {o : Ob} {id : Nat} {o' : Ob} (h : find [(k, o)] id = some o') : id = k ∧ o' = o := by
  simp only [find] at h
  split at h
  · rename_i e
    exact ⟨(beq_iff_eq.1 e).symm, (Option.some.inj h).symm⟩
  · cases h
theorem one_row {W : World} {a : Option Addr} {len cap : Nat} {z : List Int} (h : IsRow .i64 W a len cap z) (k : Nat) :
    ∃ E : Env, RH E [(k, .ro 1 (z.take len).length (rowG encI (z.take len)))] W ∧ RV E (.sl k 0 1 (z.take len).length none) (.slice a len cap) := by
  have key := h.ro (E := fun id => if id = k then some (inE a cap) else none) (id := k) (by simp)
  refine ⟨_, RH.ros (fun id o ho => ?_) (fun id o ho => ?_), key.2⟩
  · obtain ⟨rfl, rfl⟩ := find_one ho; exact key.1
  · obtain ⟨rfl, rfl⟩ := find_one ho; rfl
end Go.Proofs.Ytbgbjgedjmhcaaa
namespace Go.Proofs.Ytbgbjgedjmhcaaa
open Go.RowKit
set_option linter.unusedSectionVars false
mutual
theorem closedV_renN {σ : List (Nat × Nat)} {ids : List Nat} : ∀ v : AV, closedV [] v = true → closedV ids (renV σ v) = true
  | .val v, _ => rfl
  | .ptr id i es j, h => by simp [closedV] at h
  | .sl id i es n c, h => by simp [closedV] at h
  | .mp id, h => by simp [closedV] at h
  | .yld id, h => by simp [closedV] at h
  | .agg cs, h => by
    simp only [renV, closedV] at h ⊢
    exact closedL_renN cs h
  | .tup cs, h => by
    simp only [renV, closedV] at h ⊢
    exact closedL_renN cs h
  | .fn f a b, h => by
    simp only [renV, closedV, Bool.and_eq_true] at h ⊢
    exact ⟨closedL_renN a h.1, closedL_renN b h.2⟩
  | .ifc t v, h => by
    simp only [renV, closedV] at h ⊢
    exact closedV_renN v h
  | .anyB p q, _ => rfl
  | .len n, _ => rfl
  | .junk, _ => rfl
theorem closedL_renN {σ : List (Nat × Nat)} {ids : List Nat} : ∀ l : List AV, closedL [] l = true → closedL ids (renL σ l) = true
  | [], _ => rfl
  | x :: l, h => by
    simp only [closedL, renL, Bool.and_eq_true] at h ⊢
    exact ⟨closedV_renN x h.1, closedL_renN l h.2⟩
end
theorem closed_renN {σ : List (Nat × Nat)} {ids : List Nat} {r : Nat → List AV} (h : ∀ q, closedL [] (r q) = true) (q : Nat) : closedL ids (renL σ (r q)) = true := closedL_renN _ (h q)
mutual
theorem renV_id {σ : List (Nat × Nat)} : ∀ v : AV, closedV [] v = true → renV σ v = v
  | .val v, _ => rfl
  | .ptr id i es j, h => by simp [closedV] at h
  | .sl id i es n c, h => by simp [closedV] at h
  | .mp id, h => by simp [closedV] at h
  | .yld id, h => by simp [closedV] at h
  | .agg cs, h => by
    simp only [closedV] at h
    simp only [renV, renL_id cs h]
  | .tup cs, h => by
    simp only [closedV] at h
    simp only [renV, renL_id cs h]
  | .fn f a b, h => by
    simp only [closedV, Bool.and_eq_true] at h
    simp only [renV, renL_id a h.1, renL_id b h.2]
  | .ifc t v, h => by
    simp only [closedV] at h
    simp only [renV, renV_id v h]
  | .anyB p q, _ => rfl
  | .len n, _ => rfl
  | .junk, _ => rfl
theorem renL_id {σ : List (Nat × Nat)} : ∀ l : List AV, closedL [] l = true → renL σ l = l
  | [], _ => rfl
  | x :: l, h => by
    simp only [closedL, Bool.and_eq_true] at h
    simp only [renL, renV_id x h.1, renL_id l h.2]
end
theorem OSim.nlV {σ : List (Nat × Nat)} {ty es n : Nat} {row : Nat → List AV} (h : ∀ q, closedL [] (row q) = true) : OSim (some (renO σ (.vec ty es n row))) (some (.vec ty es n row)) :=
  ⟨⟨rfl, rfl, rfl, fun q _ => renL_id _ (h q)⟩, ⟨rfl, rfl, rfl, fun q _ => (renL_id _ (h q)).symm⟩⟩
theorem OSim.nlR {σ : List (Nat × Nat)} {es n : Nat} {row : Nat → List AV} (h : ∀ q, closedL [] (row q) = true) : OSim (some (renO σ (.ro es n row))) (some (.ro es n row)) :=
  ⟨⟨rfl, rfl, fun q _ => renL_id _ (h q)⟩, ⟨rfl, rfl, fun q _ => (renL_id _ (h q)).symm⟩⟩
mutual
def shV (b i : Nat) : AV → AV
  | .sl id k es n c => match id == b with
    | true => .sl id (k - i) es n c
    | false => .sl id k es n c
  | .agg cs => .agg (shL b i cs)
  | .tup cs => .tup (shL b i cs)
  | v => v
def shL (b i : Nat) : List AV → List AV
  | [] => []
  | x :: l => shV b i x :: shL b i l
end
mutual
def shOK (ids : List Nat) (b i es : Nat) : AV → Bool
  | .sl id k es' n c => match id == b with
    | true => Nat.ble i k && es' == es
    | false => ids.contains id
  | .agg cs => shOKs ids b i es cs
  | .tup cs => shOKs ids b i es cs
  | .ptr id _ _ _ => ids.contains id
  | .mp id => ids.contains id
  | .yld id => ids.contains id
  | .fn _ l m => closedL ids l && closedL ids m
  | .ifc _ v => closedV ids v
  | .val _ => true
  | .anyB _ _ => true
  | .len _ => true
  | .junk => true
def shOKs (ids : List Nat) (b i es : Nat) : List AV → Bool
  | [] => true
  | x :: l => shOK ids b i es x && shOKs ids b i es l
end
def shE (b i es : Nat) (E : Env) : Env := fun y => if y = b then match E b with
  | some (some a, k) => some (some ⟨a.block, a.off + i * es, none⟩, k - i)
  | x => x
  else E y
theorem shE_ne {b i es : Nat} {E : Env} {y : Nat} (h : y ≠ b) : shE b i es E y = E y := if_neg h
theorem shE_blk (b i es : Nat) (E : Env) (y : Nat) : blkOf (shE b i es E) y = blkOf E y := by
  unfold blkOf
  by_cases e : y = b
  · subst e
    unfold shE
    rw [if_pos rfl]
    cases h : E y with
    | none => rfl
    | some x =>
      obtain ⟨q, k⟩ := x
      cases q <;> rfl
  · rw [shE_ne e]
section
variable {ids : List Nat} {b i es : Nat} {E : Env} (hb : b ∉ ids)
include hb
theorem shE_ids : ∀ id, id ∈ ids → shE b i es E id = E id := fun id hid => shE_ne fun e => hb (e ▸ hid)
mutual
theorem shV_rv : ∀ (v : AV) (c : Value), shOK ids b i es v = true → RV E v c → RV (shE b i es E) (shV b i v) c
  | .sl id k es' n cc, c, h, r => by
    unfold shOK at h
    unfold shV
    by_cases e : id = b
    · subst e
      simp only [beq_self_eq_true, Bool.and_eq_true] at h ⊢
      have h1 := Nat.le_of_ble_eq_true h.1
      have h2 : es' = es := by simpa using h.2
      subst h2
      simp only [RV] at r ⊢
      obtain ⟨q, kk, he, hs⟩ := r
      cases q with
      | none =>
        obtain ⟨b', rfl, rfl, h0⟩ := hs
        refine ⟨none, kk, by unfold shE; rw [if_pos rfl, he], b', rfl, rfl, by omega⟩
      | some a =>
        obtain ⟨o, m, rfl, s1, s2, s3, s4⟩ := hs
        refine ⟨some ⟨a.block, a.off + i * es', none⟩, kk - i, by unfold shE; rw [if_pos rfl, he], o, m, rfl, s1, by omega, fun hm => ?_, ?_⟩
        · rw [s3 hm]
          have : k * es' = i * es' + (k - i) * es' := by rw [← Nat.add_mul]; congr 1; omega
          dsimp only
          omega
        · cases cc with
          | none => dsimp only at s4 ⊢; omega
          | some q => exact s4
    · have e' : (id == b) = false := by simpa using e
      rw [e'] at h ⊢
      exact RV.agree (shE_ids hb) _ _ (by simpa [closedV] using h) r
  | .agg cs, c, h, r => by
    unfold shOK at h
    unfold shV
    simp only [RV] at r ⊢
    obtain ⟨xs, rfl, r⟩ := r
    exact ⟨xs, rfl, shL_rvs cs xs h r⟩
  | .tup cs, c, h, r => by
    unfold shOK at h
    unfold shV
    simp only [RV] at r ⊢
    obtain ⟨xs, rfl, r⟩ := r
    exact ⟨xs, rfl, shL_rvs cs xs h r⟩
  | .ptr id k es' j, c, h, r => by
    unfold shOK at h
    unfold shV
    exact RV.agree (shE_ids hb) _ _ (by simpa [closedV] using h) r
  | .mp id, c, h, r => by
    unfold shOK at h
    unfold shV
    exact RV.agree (shE_ids hb) _ _ (by simpa [closedV] using h) r
  | .yld id, c, h, r => by
    unfold shOK at h
    unfold shV
    exact RV.agree (shE_ids hb) _ _ (by simpa [closedV] using h) r
  | .fn f l m, c, h, r => by
    unfold shOK at h
    unfold shV
    exact RV.agree (shE_ids hb) _ _ (by simpa [closedV] using h) r
  | .ifc t v, c, h, r => by
    unfold shOK at h
    unfold shV
    exact RV.agree (shE_ids hb) _ _ (by simpa [closedV] using h) r
  | .val v, c, _, r => by
    unfold shV
    simpa only [RV] using r
  | .anyB p q, c, _, r => by
    unfold shV
    simpa only [RV] using r
  | .len n, c, _, r => by
    unfold shV
    simpa only [RV] using r
  | .junk, c, _, r => by
    unfold shV
    simp only [RV]
theorem shL_rvs : ∀ (l : List AV) (cs : List Value), shOKs ids b i es l = true → RVs E l cs → RVs (shE b i es E) (shL b i l) cs
  | [], cs, _, r => by
    unfold shL
    simpa only [RVs] using r
  | x :: l, cs, h, r => by
    unfold shOKs at h
    unfold shL
    simp only [Bool.and_eq_true] at h
    simp only [RVs] at r ⊢
    obtain ⟨y, m, rfl, r1, r2⟩ := r
    exact ⟨y, m, rfl, shV_rv x y h.1 r1, shL_rvs l m h.2 r2⟩
end
end
def toRo (i m : Nat) : Ob → Ob
  | .vec _ es n row => .ro es m (shiftR row i)
  | o => o
def shO (b i : Nat) : Ob → Ob
  | .blk ty cs => .blk ty (shL b i cs)
  | o => o
def shH (b i m : Nat) : Hp → Hp
  | [] => []
  | (id, o) :: h => match id == b with
    | true => (id, toRo i m o) :: shH b i m h
    | false => (id, shO b i o) :: shH b i m h
def shOKO (ids : List Nat) (b i es : Nat) : Ob → Prop
  | .blk _ cs => shOKs ids b i es cs = true
  | .vec _ _ _ row => ∀ q, closedL ids (row q) = true
  | .ro _ _ row => ∀ q, closedL ids (row q) = true
  | .obj _ => True
  | .box _ => True
  | .lp _ _ _ _ _ _ sl => closedL ids sl = true
def shOKH (ids : List Nat) (b i es : Nat) : Hp → Prop
  | [] => True
  | (id, o) :: h => shOKO ids b i es o ∧ shOKH ids b i es h
theorem shOKH_at {ids : List Nat} {b i es : Nat} : ∀ {h : Hp}, shOKH ids b i es h → ∀ id o, find h id = some o → shOKO ids b i es o
  | [], _, id, o, e => by simp [find] at e
  | (k, x) :: h, hc, id, o, e => by
    unfold find at e
    split at e
    · obtain rfl := Option.some.inj e; exact hc.1
    · exact shOKH_at hc.2 id o e
theorem find_sh (b i m : Nat) : ∀ (h : Hp) (id : Nat), find (shH b i m h) id = (find h id).map fun o => if id = b then toRo i m o else shO b i o
  | [], id => rfl
  | (k, x) :: h, id => by
    unfold shH
    by_cases e : k = b
    · subst e
      simp only [beq_self_eq_true]
      unfold find
      by_cases e2 : k = id
      · subst e2; simp
      · have : (k == id) = false := by simpa using e2
        rw [this]
        simpa using find_sh k i m h id
    · have : (k == b) = false := by simpa using e
      rw [this]
      unfold find
      by_cases e2 : k = id
      · subst e2; simp [e]
      · have : (k == id) = false := by simpa using e2
        rw [this]
        simpa using find_sh b i m h id
section
variable {P : Program} {f : FK} {h0 : Hp} {ret : AV} {outs : List (Nat × Option Ob)} {todo : List Item} {sl : List AV} {hp : Hp} {dom : List Nat}
theorem toRo_owned (i m : Nat) (o : Ob) (h : (toRo i m o).owned = true) : o.owned = true := by cases o <;> first | exact h | rfl
theorem shO_owned (b i : Nat) (o : Ob) : (shO b i o).owned = o.owned := by cases o <;> rfl
theorem toRo_bx (i m : Nat) (o : Ob) : (toRo i m o).bx = o.bx := by cases o <;> rfl
theorem shO_bx (b i : Nat) (o : Ob) : (shO b i o).bx = o.bx := by cases o <;> rfl
theorem Safe.toRo {ty es n : Nat} {row : Nat → List AV} (b i m : Nat) (hm : i + m ≤ n) (ids : List Nat) (hf : find hp b = some (.vec ty es n row)) (hn : notIn b ids = true) (hn0 : notIn b (idsOf h0) = true) (hsl : shOKs ids b i es sl = true) (hch : shOKH ids b i es hp)
    (h : Safe P f h0 ret outs todo ⟨shL b i sl, shH b i m hp⟩ dom) : Safe P f h0 ret outs todo ⟨sl, hp⟩ dom := by
  intro E0 W0 E W a fb cs h1 h2 h3 h4 h5 h6 h7 h8
  have hb : b ∉ ids := fun hm => by have := allB_ok hn b hm; simp at this
  have hb0 : ∀ id, hasId h0 id = true → id ≠ b := fun id hid e => by
    have := allB_ok hn0 id (idsOf_mem.2 hid)
    rw [e] at this; simp at this
  have hid := shE_ids (E := E) (i := i) (es := es) hb
  have own : ∀ id o', find (shH b i m hp) id = some o' → ∃ o, find hp id = some o ∧ (o'.owned = true → o.owned = true) ∧ o.bx = o'.bx := fun id o' ho => by
    rw [find_sh] at ho
    cases hfo : find hp id with
    | none => rw [hfo] at ho; cases ho
    | some o =>
      rw [hfo] at ho
      simp only [Option.map_some, Option.some.injEq] at ho
      refine ⟨o, rfl, fun hw => ?_, by
        by_cases e : id = b
        · rw [if_pos e] at ho; rw [← ho, toRo_bx]
        · rw [if_neg e] at ho; rw [← ho, shO_bx]⟩
      by_cases e : id = b
      · rw [if_pos e] at ho; rw [← ho] at hw; exact toRo_owned i m o hw
      · rw [if_neg e] at ho; rw [← ho, shO_owned] at hw; exact hw
  have rh : RH (shE b i es E) (shH b i m hp) W := by
    refine ⟨fun id o' ho => ?_, fun x y o p hx hy hne hw c hc hc2 => ?_⟩
    · rw [find_sh] at ho
      cases hfo : find hp id with
      | none => rw [hfo] at ho; cases ho
      | some o =>
        rw [hfo] at ho
        simp only [Option.map_some, Option.some.injEq] at ho
        subst ho
        have hh := h6.hp.holds id o hfo
        have hcl := shOKH_at hch id o hfo
        by_cases e : id = b
        · rw [if_pos e]
          subst e
          rw [hf] at hfo
          obtain rfl := Option.some.inj hfo
          obtain ⟨q, kk, xs, g1, g2, g3, g4⟩ := hh
          have hmul : i * es + m * es ≤ n * es := by rw [← Nat.add_mul]; exact Nat.mul_le_mul_right _ hm
          have hlen : ((xs.drop (i * es)).take (m * es)).length = m * es := by rw [List.length_take, List.length_drop, g2.1]; omega
          have hrow : RowsOK (shE id i es E) es m (shiftR row i) ((xs.drop (i * es)).take (m * es)) := fun p hp => by
            rw [shiftR_at]
            have e1 := cells_shift xs es i m p hp
            rw [e1]
            exact RVs.agree hid _ _ (hcl _) (g4 _ (by omega))
          cases q with
          | none =>
            refine ⟨none, kk, _, by unfold shE; rw [if_pos rfl, g1], hlen, .inl ⟨rfl, ?_, ?_⟩, fun u hu => g3 u (List.mem_of_mem_drop (List.mem_of_mem_take hu)), hrow⟩
            · rcases g2.2 with ⟨_, h0⟩ | ⟨g, cap, cur, hv, _⟩
              · omega
              · simp at hv
            · rcases g2.2 with ⟨hv, h0⟩ | ⟨g, cap, cur, hv, _⟩
              · simp only [Value.slice.injEq] at hv; exact hv.2.2
              · simp at hv
          | some ad =>
            have hlt := (g2.lt ad.block rfl).2
            have hcell := g2.cells (g := ad.block) rfl
            have hoff : ad.off = 0 ∧ n ≤ kk := by
              rcases g2.2 with ⟨hv, _⟩ | ⟨g, cap, cur, hv, _, _, hle, _⟩
              · simp at hv
              · simp only [Value.slice.injEq, Option.some.injEq, true_and] at hv; rw [hv.1, hv.2]; exact ⟨rfl, hle⟩
            refine ⟨some ⟨ad.block, ad.off + i * es, none⟩, kk - i, _, by unfold shE; rw [if_pos rfl, g1], hlen, .inr ⟨_, rfl, hlt, by omega, fun j u hu => ?_⟩, fun u hu => g3 u (List.mem_of_mem_drop (List.mem_of_mem_take hu)), hrow⟩
            rw [List.getElem?_take] at hu
            split at hu
            case isFalse => cases hu
            rw [List.getElem?_drop] at hu
            have := hcell (i * es + j) u hu
            rw [add_at (⟨ad.block, 0, none⟩ : Addr)] at this
            rw [hoff.1]
            simpa [Nat.add_assoc] using this
        · rw [if_neg e]
          cases o with
          | blk ty' cs' =>
            obtain ⟨q, kk, xs, g1, g2, g3, g4⟩ := hh
            exact ⟨q, kk, xs, by rw [shE_ne e]; exact g1, g2, shL_rvs hb cs' xs hcl g3, g4⟩
          | vec ty' es' n' row' =>
            obtain ⟨q, kk, xs, g1, g2, g3, g4⟩ := hh
            exact ⟨q, kk, xs, by rw [shE_ne e]; exact g1, g2, g3, fun p hp => RVs.agree hid _ _ (hcl p) (g4 p hp)⟩
          | ro es' n' row' =>
            obtain ⟨q, kk, xs, g1, g2, g3, g4, g5⟩ := hh
            exact ⟨q, kk, xs, by rw [shE_ne e]; exact g1, g2, g3, g4, fun p hp => RVs.agree hid _ _ (hcl p) (g5 p hp)⟩
          | obj m =>
            obtain ⟨q, kk, ob, g1, g2, g3⟩ := hh
            exact ⟨q, kk, ob, by rw [shE_ne e]; exact g1, g2, g3⟩
          | box B =>
            obtain ⟨q, kk, g1, g2⟩ := hh
            exact ⟨q, kk, by rw [shE_ne e]; exact g1, g2⟩
          | lp =>
            obtain ⟨q, kk, xs, df, g1, g2, g3⟩ := hh
            exact ⟨q, kk, xs, df, by rw [shE_ne e]; exact g1, g2, RVs.agree hid _ _ hcl g3⟩
    · obtain ⟨o1, k1, k2, k5⟩ := own x o hx
      obtain ⟨o2, k3, k4, k6⟩ := own y p hy
      exact h6.hp.apart x y o1 o2 k1 k3 hne (k2 hw) c (hc.congr k5 (shE_blk ..).symm) (hc2.congr k6 (shE_blk ..).symm)
  refine h E0 W0 (shE b i es E) W a fb cs h1 h2 h3 h4 (fun id hi => by rw [shE_ne (hb0 id hi)]; exact h5 id hi) ⟨?_, fun t v ht => ?_, h6.df, rh⟩ ⟨h7.os, h7.tape, h7.output, h7.size, h7.old, fun id o c ho hc => ?_⟩ (fun id hi => ?_)
  · rw [h6.size]
    have : ∀ l : List AV, (shL b i l).length = l.length := by
      intro l
      induction l with
      | nil => rfl
      | cons x l ih => simp [shL, ih]
    exact (this sl).symm
  · have : ∀ (l : List AV) (t : Nat) (v : AV), shOKs ids b i es l = true → nth (shL b i l) t = some v → ∃ u, nth l t = some u ∧ shOK ids b i es u = true ∧ v = shV b i u := by
      intro l
      induction l with
      | nil => intro t v _ h; simp [shL, nth] at h
      | cons x l ih =>
        intro t v hk hv
        unfold shOKs at hk
        simp only [Bool.and_eq_true] at hk
        cases t with
        | zero => simp only [shL, nth, Option.some.injEq] at hv; exact ⟨x, rfl, hk.1, hv.symm⟩
        | succ t => simp only [shL, nth] at hv; exact ih t v hk.2 hv
    obtain ⟨u, hu, hk, rfl⟩ := this sl t v hsl ht
    obtain ⟨c, c1, c2⟩ := h6.sl t u hu
    exact ⟨c, c1, shV_rv hb u c hk c2⟩
  · obtain ⟨o1, k1, k2, k5⟩ := own id o ho
    exact (h7.own id o1 c k1 (hc.congr k5 (shE_blk ..).symm)).imp_left fun ⟨x, p, p1, p2, p3⟩ => ⟨x, p, p1, fun hw => p2 (k2 hw), p3⟩
  · refine h8 id fun e => hi ?_
    unfold shE
    split
    · rename_i e2
      subst e2
      rw [e]
    · exact e
end
end Go.Proofs.Ytbgbjgedjmhcaaa
namespace Go.Proofs.Ytbgbjgedjmhcaaa
open Go.RowKit
section
variable {P : Program} {f : FK} {h0 : Hp} {ret : AV} {outs : List (Nat × Option Ob)} {todo : List Item} {dom : List Nat} {sl : List AV} {hp : Hp}
theorem Safe.weak {ty es n : Nat} {row : Nat → List AV} (id : Nat) (row' : Nat → List AV) (hf : find hp id = some (.vec ty es n row)) (hw : ∀ (E : Env) q c, q < n → RVs E (row q) c → RVs E (row' q) c)
    (h : Safe P f h0 ret outs todo ⟨sl, upd hp id (.vec ty es n row')⟩ dom) : Safe P f h0 ret outs todo ⟨sl, hp⟩ dom := by
  intro E0 W0 E W a b cs h1 h2 h3 h4 h5 h6 h7 h8
  have hrel : ∀ x o, find (upd hp id (.vec ty es n row')) x = some o → ∃ o', find hp x = some o' ∧ o'.owned = o.owned ∧ o'.bx = o.bx := fun x o ho => by
    rw [find_upd] at ho
    by_cases e : id = x
    · subst e
      rw [if_pos rfl] at ho
      obtain rfl := Option.some.inj ho
      exact ⟨_, hf, rfl, rfl⟩
    · rw [if_neg e] at ho
      exact ⟨o, ho, rfl, rfl⟩
  have rh : RH E (upd hp id (.vec ty es n row')) W := by
    refine ⟨fun x o ho => ?_, fun i j o p hi hj hne hw' c hc hc2 => ?_⟩
    · rw [find_upd] at ho
      by_cases e : id = x
      · subst e
        rw [if_pos rfl] at ho
        obtain rfl := Option.some.inj ho
        obtain ⟨b1, k1, xs, g1, g2, g3, g4⟩ := h6.hp.holds id _ hf
        exact ⟨b1, k1, xs, g1, g2, g3, fun q hq => hw E q _ hq (g4 q hq)⟩
      · rw [if_neg e] at ho
        exact h6.hp.holds x o ho
    · obtain ⟨o', i1, i2, i3⟩ := hrel i o hi
      obtain ⟨p', j1, j2, j3⟩ := hrel j p hj
      exact h6.hp.apart i j o' p' i1 j1 hne (i2.trans hw') c (hc.congr i3 rfl) (hc2.congr j3 rfl)
  exact h E0 W0 E W a b cs h1 h2 h3 h4 h5 ⟨h6.size, h6.sl, h6.df, rh⟩ ⟨h7.os, h7.tape, h7.output, h7.size, h7.old, fun x o c ho hb => by
    obtain ⟨o', i1, i2, i3⟩ := hrel x o ho
    refine (h7.own x o' c i1 (hb.congr i3 rfl)).imp_left fun ⟨i, p, p1, p2, p3⟩ => ⟨i, p, p1, fun h => p2 (i2.trans h), p3⟩⟩ h8
theorem Safe.nilCell (bid j id ty es : Nat) (row : Nat → List AV) {bty : Nat} {cs : List AV} (hf : find hp bid = some (.blk bty cs)) (hs : nth cs j = some (.val (.slice none 0 0))) (hid : dom.contains id = false) (hdm : closedH dom hp)
    (h : Safe P f h0 ret outs todo ⟨sl, (id, .vec ty es 0 row) :: upd hp bid (.blk bty (setN cs j (.sl id 0 es 0 none)))⟩ (id :: dom)) (hz : subB (idsOf h0) dom = true) : Safe P f h0 ret outs todo ⟨sl, hp⟩ dom := by
  intro E0 W0 E W a b cs' h1 h2 h3 h4 h5 h6 h7 h8
  have hn : E id = none := by
    cases he : E id with
    | none => rfl
    | some x =>
      have := h8 id (by rw [he]; simp)
      rw [List.contains_iff_mem.2 this] at hid; cases hid
  have hx := nw_set E id (none, 0) hn
  have hbid : bid ≠ id := fun e => by
    subst e
    have := (closedH_at hdm bid _ hf).1
    rw [List.contains_iff_mem.2 this] at hid; cases hid
  have hfind : ∀ x, find ((id, .vec ty es 0 row) :: upd hp bid (.blk bty (setN cs j (.sl id 0 es 0 none)))) x = if id = x then some (.vec ty es 0 row) else if bid = x then some (.blk bty (setN cs j (.sl id 0 es 0 none))) else find hp x := fun x => by
    simp only [find, find_upd, beq_iff_eq]
  have hbl : blkOf (fun y => if y = id then some (none, 0) else E y : Env) id = none := by simp [blkOf]
  have hblo : ∀ x, x ≠ id → blkOf (fun y => if y = id then some (none, 0) else E y : Env) x = blkOf E x := fun x hx => by simp only [blkOf, if_neg hx]
  have hrel : ∀ x o, x ≠ id → find ((id, .vec ty es 0 row) :: upd hp bid (.blk bty (setN cs j (.sl id 0 es 0 none)))) x = some o → ∃ o', find hp x = some o' ∧ o'.owned = o.owned ∧ o'.bx = o.bx := fun x o hxi ho => by
    rw [hfind, if_neg (fun e => hxi e.symm)] at ho
    by_cases e : bid = x
    · subst e
      rw [if_pos rfl] at ho
      obtain rfl := Option.some.inj ho
      exact ⟨_, hf, rfl, rfl⟩
    · rw [if_neg e] at ho
      exact ⟨o, ho, rfl, rfl⟩
  have rh : RH (fun y => if y = id then some (none, 0) else E y : Env) ((id, .vec ty es 0 row) :: upd hp bid (.blk bty (setN cs j (.sl id 0 es 0 none)))) W := by
    refine ⟨fun x o ho => ?_, fun i j o p hi hj hne hw b hb hb2 => ?_⟩
    · rw [hfind] at ho
      by_cases e : id = x
      · subst e
        rw [if_pos rfl] at ho
        obtain rfl := Option.some.inj ho
        exact ⟨none, 0, [], by simp, World.ownsRow_nil _ _ _ _, (fun u hu => by cases hu), fun q hq => by omega⟩
      · rw [if_neg e] at ho
        by_cases e2 : bid = x
        · subst e2
          rw [if_pos rfl] at ho
          obtain rfl := Option.some.inj ho
          obtain ⟨b1, k1, xs, g1, g2, g3, g4⟩ := h6.hp.holds bid _ hf
          refine ⟨b1, k1, xs, hx.1 _ _ g1, g2, RVs.of ?_ fun q x y hq hy => ?_, g4⟩
          · rw [setN_eq, List.length_set]; exact g3.length
          · rw [nth_eq, setN_eq, List.getElem?_set] at hq
            by_cases e3 : j = q
            · subst e3
              rw [if_pos rfl] at hq
              split at hq
              · simp only [Option.some.injEq] at hq
                subst hq
                obtain ⟨y', hy', hy2⟩ := g3.get j _ hs
                rw [hy] at hy'
                obtain rfl := Option.some.inj hy'
                simp only [RV] at hy2 ⊢
                exact ⟨none, 0, by simp, none, hy2, rfl, rfl⟩
              · cases hq
            · rw [if_neg e3] at hq
              obtain ⟨y', hy', hy2⟩ := g3.get q x (by rw [nth_eq]; exact hq)
              rw [hy] at hy'
              obtain rfl := Option.some.inj hy'
              exact RV.mono hx.1 _ _ hy2
        · rw [if_neg e2] at ho
          exact (h6.hp.holds x o ho).mono hx.1
    · by_cases ei : i = id
      · subst ei; exact hb.none hbl
      · by_cases ej : j = id
        · subst ej; exact hb2.none hbl
        · obtain ⟨o', k1, k2, k5⟩ := hrel i o ei hi
          obtain ⟨p', k3, k4, k6⟩ := hrel j p ej hj
          exact h6.hp.apart i j o' p' k1 k3 hne (by rw [k2]; exact hw) b (hb.congr k5 (hblo i ei).symm) (hb2.congr k6 (hblo j ej).symm)
  refine h E0 W0 _ W a b cs' h1 h2 h3 h4 (fun x hx' => ?_) ⟨h6.size, fun u v hu => ?_, h6.df, rh⟩ ⟨h7.os, h7.tape, h7.output, h7.size, h7.old, fun x o b hf hb => ?_⟩ (fun y hy => ?_)
  · have hxd := subB_ok hz x (idsOf_mem.2 hx')
    have : x ≠ id := fun e => by subst e; rw [List.contains_iff_mem.2 hxd] at hid; cases hid
    simp only [if_neg this]; exact h5 x hx'
  · obtain ⟨c, c1, c2⟩ := h6.sl u v hu
    exact ⟨c, c1, RV.mono hx.1 _ _ c2⟩
  · by_cases e : x = id
    · subst e; exact (hb.none hbl).elim
    · obtain ⟨o', k1, k2, k5⟩ := hrel x o e hf
      rcases h7.own x o' b k1 (hb.congr k5 (hblo x e).symm) with ⟨i0, o0, q1, q2, q3⟩ | q
      · exact .inl ⟨i0, o0, q1, fun hw => q2 (by rw [k2]; exact hw), q3⟩
      · exact .inr q
  · by_cases e : y = id
    · rw [e]; exact List.mem_cons_self ..
    · simp only [if_neg e] at hy
      exact List.mem_cons_of_mem _ (h8 y hy)
end
end Go.Proofs.Ytbgbjgedjmhcaaa
namespace Go.Proofs.Ytbgbjgedjmhcaaa
open Go.RowKit
def setPs : List Tmp → List AV → List AV → List AV
  | t :: ps, v :: vs, sl => setPs ps vs (setN sl t v)
  | _, _, sl => sl
theorem RVs.setN {E : Env} {v : AV} {c : Value} (hv : RV E v c) : ∀ {sl : List AV} {xs : List Value} (t : Nat), RVs E sl xs → RVs E (setN sl t v) (xs.set t c)
  | [], xs, t, h => by simp only [RVs] at h; subst h; cases t <;> simp [Go.Proofs.Ytbgbjgedjmhcaaa.setN, RVs]
  | x :: sl, xs, t, h => by
    simp only [RVs] at h
    obtain ⟨y, l, rfl, h1, h2⟩ := h
    cases t with
    | zero => simp only [Go.Proofs.Ytbgbjgedjmhcaaa.setN, RVs, List.set_cons_zero]; exact ⟨c, l, rfl, hv, h2⟩
    | succ t => simp only [Go.Proofs.Ytbgbjgedjmhcaaa.setN, RVs, List.set_cons_succ]; exact ⟨y, _, rfl, h1, RVs.setN hv t h2⟩
theorem setPs_rvs {E : Env} : ∀ (ps : List Tmp) (vs : List AV) (cs : List Value) (sl : List AV) (xs : List Value), RVs E vs cs → RVs E sl xs → RVs E (setPs ps vs sl) ((ps.zip cs).foldl (fun (t : Array Value) (p, v) => t.setIfInBounds p v) xs.toArray).toList
  | [], vs, cs, sl, xs, _, h => by simpa [setPs] using h
  | t :: ps, [], cs, sl, xs, h1, h => by simp only [RVs] at h1; subst h1; simpa [setPs] using h
  | t :: ps, v :: vs, cs, sl, xs, h1, h => by
    simp only [RVs] at h1
    obtain ⟨y, l, rfl, k1, k2⟩ := h1
    have := setPs_rvs ps vs l (setN sl t v) (xs.set t y) k2 (RVs.setN k1 t h)
    simpa [setPs] using this
section
variable {P : Program} {f : FK} {h0 : Hp} {ret : AV} {outs : List (Nat × Option Ob)} {todo k : List Item} {s : St} {dom : List Nat}
theorem YldOK.intro {fn : FuncId} {ps : Array Tmp} {as bd : Code} {pe : Option Code} {slots args : List AV} {L : Nat} (hL : find h0 L = some (.lp fn ps as bd .ready pe slots)) (hlen : args.length = ps.size)
    (hcl : closedL (idsOf h0) (setPs ps.toList args slots) = true) (hch : closedH (idsOf h0) h0)
    (h : Safe P ⟨fn, some L, []⟩ h0 ret outs [.code as, .beginRound, .code bd] ⟨setPs ps.toList args slots, h0⟩ (idsOf h0)) : YldOK P L args h0 ret outs := by
  intro E W cargs ad kk hargs rh hn hE
  have hag : ∀ id, id ∈ idsOf h0 → (fun id => if id ∈ idsOf h0 then E id else none : Env) id = E id := fun id hid => by simp only [if_pos hid]
  have hbl : ∀ id o, find h0 id = some o → blkOf (fun id => if id ∈ idsOf h0 then E id else none : Env) id = blkOf E id := fun id o ho => by
    have := hag id (closedH_at hch id o ho).1
    simp only [blkOf, this]
  have rh1 : RH (fun id => if id ∈ idsOf h0 then E id else none : Env) h0 W := ⟨fun id o ho => (rh.holds id o ho).agree hag (closedH_at hch id o ho).1 (closedH_at hch id o ho).2, fun i j o p hi hj hne ho b hb => by
    exact fun hb2 => rh.apart i j o p hi hj hne ho b (hb.cg (hbl i o hi).symm) (hb2.cg (hbl j p hj).symm)⟩
  obtain ⟨b0, k0, xs, df, e1, e2, e3⟩ := rh.holds L _ hL
  rw [hE] at e1
  simp only [Option.some.injEq, Prod.mk.injEq] at e1
  obtain ⟨rfl, rfl⟩ := e1
  have hl2 := hargs.length
  have hy := run_yield (P := P) (args := cargs.toArray) e2 (by simp only [List.size_toArray]; omega)
  refine ⟨fn, _, as, bd, hy, fun n => ⟨trivial, fun c cs _ => ?_⟩⟩
  dsimp only
  have hrv := setPs_rvs ps.toList args cargs slots xs hargs e3
  have hz : ((ps.zip cargs.toArray).foldl (fun (tmps : Array Value) x => tmps.setIfInBounds x.1 x.2) xs.toArray) = ((ps.toList.zip cargs).foldl (fun (t : Array Value) (p, v) => t.setIfInBounds p v) xs.toArray) := by
    rw [← Array.foldl_toList]
    simp
  rw [hz]
  generalize (ps.toList.zip cargs).foldl (fun (t : Array Value) (p, v) => t.setIfInBounds p v) xs.toArray = tm at hrv ⊢
  let b : Frame := { (default : Frame) with fn := fn, kind := .normal, roundOf := some b0 }
  have hb0 : Frame.round b0 fn tm as bd .normal = b.atR { tmps := tm, defers := [] } [.code as, .beginRound, .code bd] := by
    simp [Frame.round, Frame.atR, b]
  rw [hb0]
  have hrv2 := RVs.agree hag _ _ hcl hrv
  have hrel : Rel [] (fun id => if id ∈ idsOf h0 then E id else none : Env) ⟨setPs ps.toList args slots, h0⟩ W { tmps := tm, defers := [] } := by
    refine ⟨?_, fun t v ht => ?_, rfl, rh1⟩
    · have := hrv.length
      simpa using this
    · obtain ⟨y, y1, y2⟩ := hrv2.get t v ht
      exact ⟨y, by simpa using y1, y2⟩
  have hin : ∀ id, hasId h0 id = true → (fun id => if id ∈ idsOf h0 then E id else none : Env) id = E id := fun id hid => hag id (idsOf_mem.2 hid)
  have hfin := h E W _ W _ b (c :: cs) ⟨rfl, fun e => (by simp at e), fun L' hL' => ⟨b0, kk, rfl, by simp only [Option.some.injEq] at hL'; rw [← hL']; exact hE, c, cs, rfl⟩, fun r hr => (by simp at hr)⟩ rfl rh hn hin hrel
    ⟨rfl, rfl, rfl, Nat.le_refl _, fun _ _ _ => rfl, fun id o b hi hb => .inl ⟨id, o, hi, fun h => h, hb.cg (hbl id o hi).symm⟩⟩ (fun id hid => by
      by_cases hm : id ∈ idsOf h0
      · exact hm
      · simp only [if_neg hm] at hid; exact absurd rfl hid)
  obtain ⟨cv, W', c', cs', q1, q2, q3⟩ := hfin
  simp only [List.cons.injEq] at q2
  obtain ⟨rfl, rfl⟩ := q2
  refine ⟨.returned cv, W', ?_, stepsIn_wide.2 q3⟩
  obtain ⟨cv', E', r1, r2⟩ := q1
  exact ⟨cv', E', r1, r2⟩
abbrev lpO (f : FuncId) (fn : Func) (j : Nat) (st : LoopState) (pe : Option Code) (sl : List AV) : Ob := .lp f (rfPs fn j) (rfAs fn j) (rfBd fn j) st pe sl
theorem lp_at {E0 E : Env} {W0 W : World} {b : Frame} {cs : List Frame} {L : Nat} {fn : FuncId} {ps : Array Tmp} {as bd : Code} {st : LoopState} {pe : Option Code} {sl : List AV} (hf : f.rnd = some L) (hid : hasId h0 L = true) (h1 : FrOK f b cs E0 h0 W0) (h5 : ∀ id, hasId h0 id = true → E id = E0 id) (hh : Holds E W L (.lp fn ps as bd st pe sl)) :
    ∃ (l k : Nat) (xs : List Value) (df : Nat), b.roundOf = some l ∧ E L = some (some ⟨l, 0, none⟩, k) ∧ W.heap[l]? = some (.loop { state := st, pending := pe, fn := fn, tmps := xs.toArray, params := ps, assign := as, body := bd, defers := df }) ∧ RVs E sl xs ∧ ∃ c cs', cs = c :: cs' := by
  obtain ⟨l, k, g1, g2, g3⟩ := h1.rd L hf
  obtain ⟨b0, k0, xs, df, e1, e2, e3⟩ := hh
  have e4 := e1
  rw [h5 L hid, g2] at e1
  simp only [Option.some.injEq, Prod.mk.injEq, Addr.mk.injEq, and_true] at e1
  obtain ⟨rfl, rfl⟩ := e1
  exact ⟨l, k, xs, df, g1, e4, e2, e3, g3⟩
theorem lp_put {E : Env} {hp : Hp} {W : World} {L l kk df : Nat} {fn : FuncId} {ps : Array Tmp} {as bd : Code} {st st2 : LoopState} {pe pe2 : Option Code} {sl : List AV} {xs : List Value} (r : RH E hp W) (hL : find hp L = some (.lp fn ps as bd st pe sl)) (hE : E L = some (some ⟨l, 0, none⟩, kk))
    (hw : W.heap[l]? = some (.loop { state := st, pending := pe, fn := fn, tmps := xs.toArray, params := ps, assign := as, body := bd, defers := df })) (hx : RVs E sl xs) :
    RH E (upd hp L (.lp fn ps as bd st2 pe2 sl)) (W.putObj l (.loop { state := st2, pending := pe2, fn := fn, tmps := xs.toArray, params := ps, assign := as, body := bd, defers := df })) ∧
    Mod E hp W E (upd hp L (.lp fn ps as bd st2 pe2 sl)) (W.putObj l (.loop { state := st2, pending := pe2, fn := fn, tmps := xs.toArray, params := ps, assign := as, body := bd, defers := df })) := by
  have hlt := (Array.getElem?_eq_some_iff.1 hw).1
  exact RH.change (id := L) (o := .lp fn ps as bd st2 pe2 sl) (h' := upd hp L (.lp fn ps as bd st2 pe2 sl)) r (Ext.refl E) (grownBy_putObj' W l _) (fun b hb => by cases hb; exact ⟨L, _, hL, rfl, by simp [Foot, Ob.bx, FootB, blkOf, hE], .inl rfl⟩) (by rw [find_upd]; simp) (fun x hx' y hy => by rw [find_upd, if_neg (fun e => hx' e.symm)] at hy; exact hy)
    ⟨l, kk, xs, df, hE, World.putObj_heap_same hlt, hx⟩ (fun b hb => .inl (by simp [Foot, Ob.bx, FootB, blkOf, hE] at hb; rw [hb]))
theorem Safe.beginR {L : Nat} {fn : FuncId} {ps : Array Tmp} {as bd : Code} {pe : Option Code} {sl : List AV} (hf : f.rnd = some L) (hid : hasId h0 L = true) (hL : find s.heap L = some (.lp fn ps as bd .ready pe sl))
    (h : Safe P f h0 ret outs k ⟨s.slots, upd s.heap L (.lp fn ps as bd .busy pe sl)⟩ dom) : Safe P f h0 ret outs (.beginRound :: k) s dom := by
  intro E0 W0 E W a b cs h1 h2 h3 h4 h5 h6 h7 h8
  obtain ⟨l, kk, xs, df, g1, g2, g3, g4, _⟩ := lp_at hf hid h1 h5 (h6.hp.holds L _ hL)
  obtain ⟨q1, q2⟩ := lp_put (st2 := .busy) (pe2 := pe) h6.hp hL g2 g3 g4
  exact (h E0 W0 E _ a b cs h1 h2 h3 h4 h5 ⟨h6.size, h6.sl, h6.df, q1⟩ (h7.trans q2) h8).of_steps (.one (stepR_beginRound g1 (run_beginRound g3 rfl)))
def endsR : List Item → Option (Option Code)
  | [] => some none
  | .code .ret :: _ => some (some .ret)
  | .code (.exit id) :: k => match exitTo id k with
    | none => some (some (.exit id))
    | some _ => none
  | _ => none
theorem Safe.endR {L : Nat} {fn : FuncId} {ps : Array Tmp} {as bd : Code} {pe : Option Code} {sl : List AV} (jump : Option Code) (ht : endsR todo = some jump) (hf : f.rnd = some L) (hid : hasId h0 L = true) (hL : find s.heap L = some (.lp fn ps as bd .busy pe sl))
    (hret : ret = .val (.bool jump.isNone)) (hl : HpLe (upd s.heap L (.lp fn ps as bd (if jump.isNone then .ready else .done) jump sl)) (applyO h0 outs)) (hc : closedH (idsOf h0 ++ newIds h0 outs) (applyO h0 outs)) : Safe P f h0 ret outs todo s dom := by
  intro E0 W0 E W a b cs h1 h2 h3 h4 h5 h6 h7 h8
  obtain ⟨l, kk, xs, df, g1, g2, g3, g4, c, cs', rfl⟩ := lp_at hf hid h1 h5 (h6.hp.holds L _ hL)
  obtain ⟨q1, q2⟩ := lp_put (st2 := if jump.isNone then .ready else .done) (pe2 := jump) h6.hp hL g2 g3 g4
  have hag : ∀ id, id ∈ idsOf h0 ++ newIds h0 outs → (fun id => if id ∈ newIds h0 outs then E id else E0 id : Env) id = E id := fun id hid => by
    by_cases hn : id ∈ newIds h0 outs
    · simp only [if_pos hn]
    · simp only [if_neg hn]
      exact (h5 id (idsOf_mem.1 ((List.mem_append.1 hid).resolve_right hn))).symm
  have hx : Ext E0 (fun id => if id ∈ newIds h0 outs then E id else E0 id : Env) (newIds h0 outs) := by
    refine ⟨fun id x hx => ?_, fun id hid => ?_⟩
    · by_cases hn : id ∈ newIds h0 outs
      · rw [h4 id hn] at hx; cases hx
      · simp only [if_neg hn]; exact hx
    · by_cases hn : id ∈ newIds h0 outs
      · exact .inr hn
      · simp only [if_neg hn] at hid; exact .inl hid
  have hrun := run_endRound (P := P) jump g3
  unfold Fin
  rw [hf]
  refine ⟨.bool jump.isNone, _, c, cs', ⟨_, _, rfl, hx, by rw [hret]; simp only [RV], q1.le hl hc hag, (h7.trans q2).le q1 hl hc hag⟩, rfl, .one ?_⟩
  unfold endsR at ht
  split at ht
  · simp only [Option.some.injEq] at ht; subst ht
    exact stepR_round_end g1 h2 hrun
  · simp only [Option.some.injEq] at ht; subst ht
    exact stepR_round_ret g1 h2 hrun
  · split at ht
    · rename_i he
      simp only [Option.some.injEq] at ht; subst ht
      exact stepR_round_exit g1 h2 he hrun
    · cases ht
  · cases ht
theorem RH.poke {E : Env} {h : Hp} {W : World} {r : Nat} {ob : Obj} (rh : RH E h W) (hr : ∀ id o, find h id = some o → ¬ Foot E W id o r) : RH E h (W.putObj r ob) ∧ ∀ id o, find h id = some o → ∀ b, Foot E (W.putObj r ob) id o b → Foot E W id o b := by
  have hk : ∀ id o, find h id = some o → ∀ b, Foot E W id o b → (W.putObj r ob).heap[b]? = W.heap[b]? := fun id o ho b hb => World.putObj_heap_other (fun e => hr id o ho (e ▸ hb))
  have hs : W.heap.size ≤ (W.putObj r ob).heap.size := by simp
  have hf : ∀ id o, find h id = some o → ∀ b, Foot E (W.putObj r ob) id o b → Foot E W id o b := fun id o ho b hb => Foot.kept hs (hk id o ho) (rh.holds id o ho) b hb
  exact ⟨⟨fun id o ho => (rh.holds id o ho).kept hs (hk id o ho), fun i j o p hi hj hne hw b hb hb2 => rh.apart i j o p hi hj hne hw b (hf i o hi b hb) (hf j p hj b hb2)⟩, hf⟩
theorem Mod.poke {E0 E : Env} {h0 h : Hp} {W0 W : World} {r : Nat} {ob : Obj} (m : Mod E0 h0 W0 E h W) (hr : W0.heap.size ≤ r) (hf : ∀ id o, find h id = some o → ∀ b, Foot E (W.putObj r ob) id o b → Foot E W id o b) : Mod E0 h0 W0 E h (W.putObj r ob) :=
  ⟨m.os, m.tape, m.output, by simpa using m.size, fun b hb hn => (World.putObj_heap_other (by omega)).trans (m.old b hb hn), fun id o b ho hb => m.own id o b ho (hf id o ho b hb)⟩
theorem lp_del {E : Env} {hp : Hp} {W : World} {L l kk : Nat} {o : Ob} {ob : Obj} (r : RH E hp W) (hL : find hp L = some o) (ho : o.owned = true) (hbx : o.bx = none) (hE : E L = some (some ⟨l, 0, none⟩, kk)) :
    RH E (del hp L) (W.putObj l ob) ∧ Mod E hp W E (del hp L) (W.putObj l ob) := by
  have hfl : Foot E W L o l := by unfold Foot; rw [hbx]; simp [FootB, blkOf, hE]
  have hsub : ∀ id p, find (del hp L) id = some p → id ≠ L ∧ find hp id = some p := fun id p h => by
    rw [find_del] at h
    split at h
    · cases h
    · rename_i hne; exact ⟨fun e => hne e.symm, h⟩
  have r1 : RH E (del hp L) W := r.sub fun id p h => (hsub id p h).2
  have hno : ∀ id p, find (del hp L) id = some p → ¬ Foot E W id p l := fun id p h => by
    obtain ⟨h1, h2⟩ := hsub id p h
    exact fun hb => r.apart L id o p hL h2 (fun e => h1 e.symm) ho l hfl hb
  obtain ⟨r2, hf⟩ := r1.poke (ob := ob) hno
  refine ⟨r2, ⟨rfl, rfl, rfl, by simp, fun b hb hn => World.putObj_heap_other fun e => hn L o hL ho (e ▸ hfl), fun id p b h hb => .inl ⟨id, p, (hsub id p h).2, fun x => x, hf id p h b hb⟩⟩⟩
theorem lp_new {E : Env} {hp : Hp} {W : World} {L : Nat} {fn : FuncId} {ps : Array Tmp} {as bd : Code} {sl : List AV} {xs : Array Value} (r : RH E hp W) (hn : E L = none) (hL : find hp L = none) (hx : RVs E sl xs.toList) (E1 : Env) (hE1 : E1 = fun y => if y = L then some (some ⟨W.heap.size + 1, 0, none⟩, 0) else E y) (W1 : World)
    (hW1 : W1 = (W.alloc (.deferred (some []))).alloc (.loop { state := .ready, pending := none, fn := fn, tmps := xs, params := ps, assign := as, body := bd, defers := W.heap.size })) :
    Ext E E1 [L] ∧ RH E1 (upd hp L (.lp fn ps as bd .ready none sl)) W1 ∧ Mod E hp W E1 (upd hp L (.lp fn ps as bd .ready none sl)) W1 ∧ W1.heap.size = W.heap.size + 2 ∧ W1.heap[W.heap.size]? = some (.deferred (some [])) ∧ (∀ id o, find (upd hp L (.lp fn ps as bd .ready none sl)) id = some o → ¬ Foot E1 W1 id o W.heap.size) := by
  have hxt := nw_set E L (some ⟨W.heap.size + 1, 0, none⟩, 0) hn
  rw [← hE1] at hxt
  have hEL : E1 L = some (some ⟨W.heap.size + 1, 0, none⟩, 0) := by rw [hE1]; simp
  have hsz : W1.heap.size = W.heap.size + 2 := by rw [hW1]; simp [World.size_alloc]
  have hold : ∀ b, b < W.heap.size → W1.heap[b]? = W.heap[b]? := fun b hb => by
    rw [hW1]
    rw [alloc_old _ _ _ (by rw [World.size_alloc]; omega), alloc_old _ _ _ hb]
  have hdl : W1.heap[W.heap.size + 1]? = some (.loop { state := .ready, pending := none, fn := fn, tmps := xs, params := ps, assign := as, body := bd, defers := W.heap.size }) := by
    rw [hW1]
    have := World.alloc_heap_new (W.alloc (.deferred (some []))) (.loop { state := .ready, pending := none, fn := fn, tmps := xs, params := ps, assign := as, body := bd, defers := W.heap.size })
    rwa [World.size_alloc] at this
  have hdd : W1.heap[W.heap.size]? = some (.deferred (some [])) := by
    rw [hW1, alloc_old _ _ _ (by rw [World.size_alloc]; omega)]
    exact World.alloc_heap_new W _
  have g : W.grownBy W1 none := ⟨by rw [hW1]; rfl, by rw [hW1]; rfl, by rw [hW1]; rfl, by omega, fun b hb _ => hold b hb⟩
  obtain ⟨q1, q2⟩ := RH.change (id := L) (o := .lp fn ps as bd .ready none sl) (h' := upd hp L (.lp fn ps as bd .ready none sl)) r hxt g (fun b hb => by cases hb) (by rw [find_upd]; simp) (fun x hx' y hy => by rw [find_upd, if_neg (fun e => hx' e.symm)] at hy; exact hy)
    ⟨W.heap.size + 1, 0, xs.toList, W.heap.size, hEL, by simpa using hdl, RVs.mono hxt.1 _ _ hx⟩ (fun b hb => .inr (by simp [Foot, Ob.bx, FootB, blkOf, hEL] at hb; omega))
  refine ⟨hxt, q1, q2, hsz, hdd, fun id o ho hb => ?_⟩
  by_cases e : id = L
  · subst e
    rw [find_upd, if_pos rfl] at ho
    obtain rfl := Option.some.inj ho
    simp [Foot, Ob.bx, FootB, blkOf, hEL] at hb
  · rw [find_upd, if_neg (fun e' => e e'.symm)] at ho
    have hh := r.holds id o ho
    obtain ⟨z, hz⟩ := hh.bound
    have h1 : Foot E W1 id o W.heap.size := hb.cg (blkOf_ext hxt.1 hz).symm
    have h2 := Foot.kept g.size (fun b hb => hold b (Holds.blk_lt hb hh)) hh _ h1
    have := Holds.blk_lt h2 hh
    omega
theorem closedL_nth {ids : List Nat} : ∀ {l : List AV}, closedL ids l = true → ∀ (t : Nat) (v : AV), nth l t = some v → closedV ids v = true
  | [], _, t, v, h => by simp [nth] at h
  | x :: l, hc, 0, v, h => by
    simp only [closedL, Bool.and_eq_true] at hc
    simp only [nth, Option.some.injEq] at h
    rw [← h]; exact hc.1
  | x :: l, hc, t + 1, v, h => by
    simp only [closedL, Bool.and_eq_true] at hc
    simp only [nth] at h
    exact closedL_nth hc.2 t v h
theorem Safe.rangeF {t : Tmp} {gf : FuncId} {caps : List AV} {ps : Array Tmp} {as bd : Code} {st : LoopState} {pe : Option Code} {sl1 sl2 : List AV} {ret1 : AV} {outs1 outs2 : List (Nat × Option Ob)} (L : Nat) (H2 : Hp)
    (hle : SlLe s.slots sl1) (hs : nth s.slots t = some (.fn (.func gf) [] caps)) (hLd : dom.contains L = false) (hLh : find s.heap L = none)
    (call : CallOK P gf (.yld L :: caps) (upd s.heap L (.lp f.fn ps as bd .ready none sl1)) ret1 outs1)
    (hfr : freshB (L :: dom) (newIds (upd s.heap L (.lp f.fn ps as bd .ready none sl1)) outs1) = true)
    (hL : find (applyO (upd s.heap L (.lp f.fn ps as bd .ready none sl1)) outs1) L = some (.lp f.fn ps as bd st pe sl2)) (hst : st ≠ .busy)
    (hH2 : ∀ id, find H2 id = find (del (applyO (upd s.heap L (.lp f.fn ps as bd .ready none sl1)) outs1) L) id)
    (hf2 : freshB (idsOf H2) (newIds H2 outs2) = true) (hsub : subB (idsOf h0) (idsOf H2) = true) (hcl : closedL (idsOf H2) sl1 = true) (hch : closedH (idsOf H2) H2)
    (hl : HpLe (applyO H2 outs2) (applyO h0 outs)) (hc : closedH (idsOf h0 ++ newIds h0 outs) (applyO h0 outs)) (hcr : closedV (idsOf h0 ++ newIds h0 outs) ret = true)
    (next : ∀ r, Safe P ⟨f.fn, none, r :: f.marks⟩ H2 ret outs2 ((pe.map Item.code).toList ++ k) ⟨sl1, H2⟩ (idsOf H2)) (hrn : f.rnd = none := by rfl) : Safe P f h0 ret outs (.code (.rangeFunc (.tmp t) ps as bd) :: k) s dom := by
  intro E0 W0 E W a b cs h1 h2 h3 h4 h5 h6 h7 h8
  have hEL : E L = none := by
    cases he : E L with
    | none => rfl
    | some x =>
      have := h8 L (by rw [he]; simp)
      simp at hLd
      exact absurd this hLd
  have hxs : RVs E s.slots a.tmps.toList := RVs.of (by simpa using h6.size) fun j x y hx hy => by
    obtain ⟨c, c1, c2⟩ := h6.sl j x hx
    have : y = c := by
      rw [Array.getElem?_toList, c1] at hy
      exact (Option.some.inj hy).symm
    rw [this]; exact c2
  obtain ⟨E1, hE1⟩ : ∃ E1 : Env, E1 = fun y => if y = L then some (some ⟨W.heap.size + 1, 0, none⟩, 0) else E y := ⟨_, rfl⟩
  obtain ⟨W1, hW1⟩ : ∃ W1 : World, W1 = (W.alloc (.deferred (some []))).alloc (.loop { state := .ready, pending := none, fn := f.fn, tmps := a.tmps, params := ps, assign := as, body := bd, defers := W.heap.size }) := ⟨_, rfl⟩
  obtain ⟨x1, r1, m1, z1, d1, n1⟩ := lp_new (ps := ps) (as := as) (bd := bd) h6.hp hEL hLh (hle.rvs hxs) E1 hE1 W1 hW1
  obtain ⟨c, hc1, hc2⟩ := h6.sl t _ hs
  simp only [RV, RVs] at hc2
  obtain ⟨xs0, ys, rfl, rfl, hys⟩ := hc2
  have hE1L : E1 L = some (some ⟨W.heap.size + 1, 0, none⟩, 0) := by rw [hE1]; simp
  have hcall := call.2 E1 W1 (.func (.yield (W.heap.size + 1)) #[] #[] :: ys) (by simp only [RVs, RV]; exact ⟨_, _, rfl, ⟨_, _, hE1L, rfl⟩, RVs.mono x1.1 _ _ hys⟩) r1 (fun id hid => by
    have := allB_ok hfr id hid
    cases he : E1 id with
    | none => rfl
    | some x =>
      exfalso
      have hm : id ∈ L :: dom := by
        rcases x1.2 id (by rw [he]; simp) with h | h
        · exact List.mem_cons_of_mem _ (h8 id h)
        · simp at h; rw [h]; exact List.mem_cons_self ..
      simp at this
      rcases List.mem_cons.1 hm with h | h
      · exact this.1 h
      · exact this.2 h)
  obtain ⟨e, W2, fr, ⟨cv, E2, rfl, x2, v2, r2, m2⟩, st2, fn2, lv2⟩ := hcall (b.atR { a with defers := [mkD W.heap.size] ++ a.defers } (.inRangeFunc (W.heap.size + 1) :: k) :: cs)
  generalize hHc : applyO (upd s.heap L (.lp f.fn ps as bd .ready none sl1)) outs1 = Hc at *
  obtain ⟨lb, kb, xs2, df2, e1, e2, e3⟩ := r2.holds L _ hL
  have hE2L := x2.1 L _ hE1L
  have e1' := e1
  rw [hE2L] at e1'
  simp only [Option.some.injEq, Prod.mk.injEq, Addr.mk.injEq, and_true] at e1'
  obtain ⟨rfl, rfl⟩ := e1'
  have hend := run_endLoop (P := P) e2 (by exact hst)
  generalize hob : (Obj.loop _) = ob at hend
  obtain ⟨r3, m3⟩ := lp_del (ob := ob) r2 hL rfl rfl e1
  have r3 : RH E2 H2 (W2.putObj (W.heap.size + 1) ob) := r3.congr hH2
  have m3 : Mod E2 Hc W2 E2 H2 (W2.putObj (W.heap.size + 1) ob) := m3.congr (fun _ => rfl) hH2
  generalize hW3 : W2.putObj (W.heap.size + 1) ob = W3 at *
  have m13 := m2.trans m3
  have m03 := (h7.trans m1).trans m13
  obtain ⟨E3, hE3⟩ : ∃ E3 : Env, E3 = fun id => if id ∈ idsOf H2 then E2 id else none := ⟨_, rfl⟩
  have hag : ∀ id, id ∈ idsOf H2 → E3 id = E2 id := fun id hid => by rw [hE3]; simp only [if_pos hid]
  have hbl : ∀ id o, find H2 id = some o → blkOf E3 id = blkOf E2 id := fun id o ho => by
    simp only [blkOf, hag id (closedH_at hch id o ho).1]
  have r33 : RH E3 H2 W3 := ⟨fun id o ho => (r3.holds id o ho).agree hag (closedH_at hch id o ho).1 (closedH_at hch id o ho).2, fun i j o p hi hj hne ho b hb hb2 => r3.apart i j o p hi hj hne ho b (hb.cg (hbl i o hi).symm) (hb2.cg (hbl j p hj).symm)⟩
  have m33 : Mod E0 h0 W0 E3 H2 W3 := ⟨m03.os, m03.tape, m03.output, m03.size, m03.old, fun id o b ho hb => m03.own id o b ho (hb.cg (hbl id o ho).symm)⟩
  have hrno : ∀ id o, find H2 id = some o → ¬ Foot E3 W3 id o W.heap.size := fun id o ho hb => by
    rcases m13.own id o W.heap.size ho (hb.cg (hbl id o ho).symm) with ⟨i, p, p1, _, p3⟩ | hge
    · exact n1 i p p1 p3
    · omega
  have hrd : W3.heap[W.heap.size]? = some (.deferred (some [])) := (m13.old W.heap.size (by omega) fun id o ho _ => n1 id o ho).trans d1
  have hsz3 : W1.heap.size ≤ W3.heap.size := m13.size
  have hmk : ∀ r ∈ W.heap.size :: f.marks, r < W3.heap.size ∧ W3.heap[r]? = some (.deferred (some [])) ∧ ∀ id o, find H2 id = some o → ¬ Foot E3 W3 id o r := fun r hr => by
    rcases List.mem_cons.1 hr with rfl | hr
    · exact ⟨by omega, hrd, hrno⟩
    · obtain ⟨g1, g2, g3⟩ := h1.mks r hr
      refine ⟨Nat.lt_of_lt_of_le g1 m33.size, (m33.old r g1 fun id o ho _ => g3 id o ho).trans g2, fun id o ho hb => ?_⟩
      rcases m33.own id o r ho hb with ⟨i, p, p1, _, p3⟩ | hge
      · exact g3 i p p1 p3
      · omega
  have hfin := next W.heap.size E3 W3 E3 W3 { a with defers := [mkD W.heap.size] ++ a.defers } b cs ⟨h1.fn, fun _ => h1.nr hrn, fun L' hL' => (by simp at hL'), hmk⟩ h2 r33 (fun id hid => by
      have : id ∉ idsOf H2 := fun hm => by
        have := allB_ok hf2 id hid
        simp [hm] at this
      rw [hE3]; simp only [if_neg this]) (fun id _ => rfl) ⟨by rw [h6.size]; exact hle.get.1, fun u v hu => ?_, ?_, r33⟩ (Mod.refl _ _ _) (fun id hid => by
      by_cases hm : id ∈ idsOf H2
      · exact hm
      · rw [hE3] at hid; simp only [if_neg hm] at hid; exact absurd rfl hid)
  rotate_left
  · obtain ⟨v0, hv0, hle0⟩ := hle.get.2 u v hu
    obtain ⟨c, c1, c2⟩ := h6.sl u v0 hv0
    have c2 := hle0.ok c2
    refine ⟨c, c1, ?_⟩
    have hcv : closedV (idsOf H2) v = true := closedL_nth hcl u v hu
    exact RV.agree hag v c hcv (RV.mono (fun id x h => x2.1 id x (x1.1 id x h)) v c c2)
  · show [mkD W.heap.size] ++ a.defers = _
    rw [h6.df]; rfl
  obtain ⟨W4, fr4, fn4, E4, s4, f4, mo4, k4, d4, pf4, x4, r4, m4, res4⟩ := hfin
  have hr4 : W4.heap[W.heap.size]? = some (.deferred (some [])) := (m4.old W.heap.size (hmk _ (List.mem_cons_self ..)).1 fun id o ho _ => hrno id o ho).trans hrd
  have hno4 : ∀ id o, find (applyO H2 outs2) id = some o → ¬ Foot E4 W4 id o W.heap.size := fun id o ho hb => by
    rcases m4.own id o _ ho hb with ⟨i, p, p1, _, p3⟩ | hge
    · exact hrno i p p1 p3
    · have := (hmk _ (List.mem_cons_self ..)).1; omega
  have htk := run_takeDeferred (P := P) hr4
  obtain ⟨r5, hf5⟩ := r4.poke (ob := .deferred none) hno4
  have m5 := (m33.trans m4).poke (ob := .deferred none) (r := W.heap.size) h7.size hf5
  have hst5 : Go.step P (lone fr4 cs W4) = .next (lone { fr4 with defers := [] ++ f.marks.map mkD } cs (W4.putObj W.heap.size (.deferred none))) := step_collected (by rw [mo4]; simp) d4 rfl htk
  have hsame : ∀ W5 : World, (W4.putObj W.heap.size (.deferred none)).heap.size = W5.heap.size → (∀ b, b ∉ f.marks → W5.heap[b]? = (W4.putObj W.heap.size (.deferred none)).heap[b]?) → ∃ cv, (results fn4 fr4.tmps).run P W5 = .ok cv W5 ∧ RV E4 ret cv := fun W5 hz hb => res4 W5 (by simpa using hz) fun b hb' => by
    rw [hb b fun h => hb' (List.mem_cons_of_mem _ h)]
    exact World.putObj_heap_other fun e => hb' (by rw [e]; exact List.mem_cons_self ..)
  generalize W4.putObj W.heap.size (.deferred none) = W5 at *
  have hidE : ∀ id, id ∈ idsOf h0 → E4 id = E0 id := fun id hid => by
    have hh := idsOf_mem.1 hid
    have hx0 := h5 id hh
    obtain ⟨y, hy⟩ : ∃ y, E0 id = some y := by
      unfold hasId at hh
      split at hh
      · rename_i o ho; exact (h3.holds id o ho).bound
      · cases hh
    rw [hy] at hx0 ⊢
    have := x2.1 id _ (x1.1 id _ hx0)
    rw [← hag id (subB_ok hsub id hid)] at this
    exact x4.1 id _ this
  have hag4 : ∀ id, id ∈ idsOf h0 ++ newIds h0 outs → (fun id => if id ∈ newIds h0 outs then E4 id else E0 id : Env) id = E4 id := fun id hid => by
    by_cases hn : id ∈ newIds h0 outs
    · simp only [if_pos hn]
    · simp only [if_neg hn]
      exact (hidE id ((List.mem_append.1 hid).resolve_right hn)).symm
  have hx : Ext E0 (fun id => if id ∈ newIds h0 outs then E4 id else E0 id : Env) (newIds h0 outs) := by
    refine ⟨fun id x hx => ?_, fun id hid => ?_⟩
    · by_cases hn : id ∈ newIds h0 outs
      · rw [h4 id hn] at hx; cases hx
      · simp only [if_neg hn]; exact hx
    · by_cases hn : id ∈ newIds h0 outs
      · exact .inr hn
      · simp only [if_neg hn] at hid; exact .inl hid
  have r6 := r5.le hl hc hag4
  have m6 := m5.le r5 hl hc hag4
  have steps : Steps P (lone (b.atR a (.code (.rangeFunc (.tmp t) ps as bd) :: k)) cs W) (lone { fr4 with defers := [] ++ f.marks.map mkD } cs W5) := by
    refine .head (stepR_rangeFunc (l := W.heap.size + 1) (mark := [mkD W.heap.size]) (w₁ := W1) (w₁' := W1) (w₂ := W1) (d := { target := .fn (.func gf) ys.toArray, args := #[.func (.yield (W.heap.size + 1)) #[] #[]] }) (f := gf) (args := (.func (.yield (W.heap.size + 1)) #[] #[] :: ys : List Value).toArray) ?_ ?_ ?_) ?_
    · rw [h1.nr hrn, h1.fn, hW1]; exact run_enterLoop_outer _ _ _ _ _
    · have hg : a.eval (.tmp t) = .func (.func gf) #[] ys.toArray := by
        show a.tmps.getD t undef = _
        rw [Array.getD_eq_getD_getElem?, hc1]; rfl
      simp only [resolve, hg]
      simp [go_sem]
    · simp [invoke, go_sem, call.1]
    · refine Steps.trans st2 (.head (step_leave_returned lv2) ?_)
      rw [finish_atR_inRangeFunc]
      refine .head (stepR_endRangeFunc hend) ?_
      exact Steps.trans s4 (.one hst5)
  unfold Fin
  split
  · rename_i e1 em
    obtain ⟨cv4, w1, w2⟩ := hsame W5 rfl fun _ _ => rfl
    refine ⟨.returned cv4, W5, _, ⟨cv4, _, rfl, hx, RV.agree hag4 ret cv4 hcr w2, r6, m6⟩, steps, by exact f4, mo4, by rw [em]; rfl, k4, fn4, by rw [← f4] at pf4; exact pf4, w1⟩
  · rename_i ms e1 e2 e3
    exact ⟨W5, _, fn4, _, steps, f4, mo4, k4, by simp, pf4, hx, r6, m6, fun W6 hz hb => by
      obtain ⟨cv4, w1, w2⟩ := hsame W6 hz hb
      exact ⟨cv4, w1, RV.agree hag4 ret cv4 hcr w2⟩⟩
  · rename_i e1
    rw [hrn] at e1; cases e1
end
end Go.Proofs.Ytbgbjgedjmhcaaa
