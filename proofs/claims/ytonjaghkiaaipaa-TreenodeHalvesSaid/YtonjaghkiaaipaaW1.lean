/- What the walks of layers 1 and 2 told of memory, told by objects: Words, Short, Fields, Split. No conditions but those of each theorem. -/
import Derived.Test.YtonjaghkiaaipaaSyZ
import Derived.KernelRfl
import Derived.Test.YtonjaghkiaaipaaW0
import Derived.Test.YtonjaghkiaaipaaOA
import Derived.Test.YtonjaghkiaaipaaOB
namespace Go.Proofs.Ytonjaghkiaaipaa
open Go.RowKit
set_option linter.unusedVariables false
set_option linter.unnecessarySimpa false
abbrev U (z : Int) : AV := .val (.int .u64 z)
def encU (x : Int) : List AV := [U x]
/-- words -/
def Wf (L : List Int) : Prop := ∀ x ∈ L, 0 ≤ x ∧ x ≤ 18446744073709551615
theorem Wf.at {L : List Int} (h : Wf L) (k : Nat) : 0 ≤ L.getD k default ∧ L.getD k default ≤ 18446744073709551615 := by
  rw [List.getD_eq_getElem?_getD]
  cases e : L[k]? with
  | none => exact ⟨Int.le_refl 0, by decide⟩
  | some z => exact h z (List.mem_of_getElem? e)
/-- memory that is as it was, below -/
theorem rh_below {E : Env} {h : Hp} {W W' : World} (r : RH E h W) (hb : Below W.heap.size W W') : RH E h W' ∧ Mod E h W E h W' :=
  ⟨⟨fun id o ho => (r.holds id o ho).kept hb.size fun b hb' => hb.block b ((r.holds id o ho).blk_lt hb'), r.apart⟩, ⟨hb.os, hb.tape, hb.output, hb.size, fun b hlt _ => hb.block b hlt, fun id o b h1 h3 => .inl ⟨id, o, h1, fun h => h, h3⟩⟩⟩
/-- a list of one-cell elements that came in as an object, as the walks tell it -/
theorem row_of {E : Env} {W : World} {id n : Nat} {row : Nat → List AV} {c : Value} (hh : Holds E W id (.ro 1 n row)) (hc : RV E (.sl id 0 1 n none) c) :
    ∃ a cap, c = .slice a n cap ∧ (n = 0 ∨ ∃ b off, a = some ⟨b, off, none⟩ ∧ b < W.heap.size ∧ ∀ j, j < n → ∃ v, RVs E (row j) [v] ∧ W.cell? ⟨b, off + j, none⟩ = some v) := by
  obtain ⟨b, k, xs, h1, h2, h3, h4, h5⟩ := hh
  simp only [RV] at hc
  obtain ⟨b2, k2, h6, h7⟩ := hc
  rw [h1] at h6
  simp only [Option.some.injEq, Prod.mk.injEq] at h6
  obtain ⟨rfl, rfl⟩ := h6
  cases b with
  | none =>
    obtain ⟨b', rfl, h8, _⟩ := h7
    exact ⟨b', 0, by rw [h8], .inl h8⟩
  | some a =>
    obtain ⟨o, m, rfl, h8, h9, h10, h11⟩ := h7
    refine ⟨_, m, rfl, ?_⟩
    by_cases h0 : n = 0
    · exact .inl h0
    · right
      have hm : m ≠ 0 := by omega
      rcases h3 with ⟨h3, _⟩ | ⟨a', ha, hlt, hk, hcell⟩
      · cases h3
      · simp only [Option.some.injEq] at ha
        subst ha
        refine ⟨a.block, o, rfl, hlt, fun j hj => ?_⟩
        have hl : j < xs.length := by omega
        refine ⟨xs[j], ?_, ?_⟩
        · have := h5 j hj
          simp only [cellsAt, Nat.mul_one] at this
          rwa [List.drop_eq_getElem_cons hl, List.take_succ_cons, List.take_zero] at this
        · rw [h10 hm, Nat.zero_mul, Nat.add_zero]
          exact hcell _ _ (List.getElem?_eq_getElem hl)
theorem getD_nat (L : List Int) (hw : Wf L) (j : Nat) : (((L.map Int.toNat)[j]?.getD 0 : Nat) : Int) = L.getD j default ∧ (L.map Int.toNat)[j]?.getD 0 < 18446744073709551616 := by
  have := hw.at j
  rw [List.getD_eq_getElem?_getD] at this ⊢
  rw [List.getElem?_map]
  cases e : L[j]? with
  | none => exact ⟨rfl, by decide⟩
  | some z =>
    rw [e] at this
    simp only [Option.getD_some, Option.map_some] at this ⊢
    omega
theorem wo_row {E : Env} {W : World} {id : Nat} {L : List Int} {c : Value} (hw : Wf L) (hh : Holds E W id (.ro 1 L.length (rowG encU L))) (hc : RV E (.sl id 0 1 L.length none) c) : ∃ a cap, c = .slice a L.length cap ∧ OldA.Wo W.heap.size W a L.length (L.map Int.toNat) := by
  obtain ⟨a, cap, rfl, h⟩ := row_of hh hc
  refine ⟨a, cap, rfl, fun j hj => (getD_nat L hw j).2, h.imp (fun h => h) fun ⟨b, off, e, hb, hcell⟩ => ⟨b, off, e, hb, fun j hj => ?_⟩⟩
  obtain ⟨v, h1, h2⟩ := hcell j hj
  simp only [rowG, encU, RVs, RV] at h1
  obtain ⟨y, l, e1, rfl, rfl⟩ := h1
  simp only [List.cons.injEq, and_true] at e1
  rw [h2, e1, (getD_nat L hw j).1]
theorem va_row {E : Env} {W : World} {id : Nat} {L : List Int} {c : Value} (hw : Wf L) (hh : Holds E W id (.ro 1 L.length (rowG encU L))) (hc : RV E (.sl id 0 1 L.length none) c) : ∃ a cap, c = .slice a L.length cap ∧ OldB.Va W.heap.size W a L.length (L.map Int.toNat) := wo_row hw hh hc
theorem wi_row {E : Env} {W : World} {id : Nat} {L : List Int} {c : Value} (hh : Holds E W id (.ro 1 L.length (rowG encI L))) (hc : RV E (.sl id 0 1 L.length none) c) : ∃ a cap, c = .slice a L.length cap ∧ OldB.Wi W.heap.size W a L.length L := by
  obtain ⟨a, cap, rfl, h⟩ := row_of hh hc
  refine ⟨a, cap, rfl, h.imp (fun h => h) fun ⟨b, off, e, hb, hcell⟩ => ⟨b, off, e, hb, fun j hj => ?_⟩⟩
  obtain ⟨v, h1, h2⟩ := hcell j hj
  simp only [rowG, encI, RVs, RV] at h1
  obtain ⟨y, l, e1, rfl, rfl⟩ := h1
  simp only [List.cons.injEq, and_true] at e1
  rw [h2, e1, List.getD_eq_getElem?_getD]
  rfl
/-- a row of words of the call's own that is new -/
theorem own_new {E : Env} {h : Hp} {W W' : World} {v' : Value} {out : List Int} {ws : List Nat} {base : Nat} (hbase : W.heap.size ≤ base) (e : ws.map (fun (x : Nat) => (x : Int)) = out) (hno : hasId h 10 = false) (hr : RH E h W) (hn : ∀ id ∈ newIds h [(10, some (.vec 38 1 out.length (rowG encU out)))], E id = none)
    (ho : W'.ownsRow base 38 1 v' out.length (OldB.vs ws)) (hb : Below W.heap.size W W') :
    ∃ E', Ext E E' (newIds h [(10, some (.vec 38 1 out.length (rowG encU out)))]) ∧ RV E' (.sl 10 0 1 out.length none) v' ∧ RH E' (applyO h [(10, some (.vec 38 1 out.length (rowG encU out)))]) W' ∧ Mod E h W E' (applyO h [(10, some (.vec 38 1 out.length (rowG encU out)))]) W' := by
  subst e
  have en : newIds h [(10, some (.vec 38 1 (ws.map (fun (x : Nat) => (x : Int))).length (rowG encU (ws.map (fun (x : Nat) => (x : Int))))))] = [10] := by simp [newIds, hno]
  rw [en] at hn ⊢
  have hne := hn 10 (by simp)
  have gb : W.grownBy W' none := ⟨hb.os, hb.tape, hb.output, hb.size, fun i hi _ => hb.block i hi⟩
  have fin : ∀ (x : Option Addr × Nat), (∀ b, baseBlk x = some b → W.heap.size ≤ b) → (∀ E' : Env, E' 10 = some x → Holds E' W' 10 (.vec 38 1 (ws.map (fun (x : Nat) => (x : Int))).length (rowG encU (ws.map (fun (x : Nat) => (x : Int))))) ∧ RV E' (.sl 10 0 1 (ws.map (fun (x : Nat) => (x : Int))).length none) v') →
      ∃ E', Ext E E' [10] ∧ RV E' (.sl 10 0 1 (ws.map (fun (x : Nat) => (x : Int))).length none) v' ∧ RH E' (applyO h [(10, some (.vec 38 1 (ws.map (fun (x : Nat) => (x : Int))).length (rowG encU (ws.map (fun (x : Nat) => (x : Int))))))]) W' ∧ Mod E h W E' (applyO h [(10, some (.vec 38 1 (ws.map (fun (x : Nat) => (x : Int))).length (rowG encU (ws.map (fun (x : Nat) => (x : Int))))))]) W' := by
    intro x hx hh
    have hxt := nw_set E 10 x hne
    obtain ⟨h1, h2⟩ := hh (fun y => if y = 10 then some x else E y) (if_pos rfl)
    obtain ⟨q1, q2⟩ := RH.change (h' := upd h 10 (.vec 38 1 (ws.map (fun (x : Nat) => (x : Int))).length (rowG encU (ws.map (fun (x : Nat) => (x : Int)))))) (row := none) hr hxt gb (fun b hb => by cases hb) (by rw [find_upd]; simp) (fun x hx' y hy => by rw [find_upd, if_neg (fun e => hx' e.symm)] at hy; exact hy) h1 (fun b hb => .inr (hx b (by
      simp only [blkOf, if_pos] at hb
      obtain ⟨q1, q2⟩ := x
      cases q1 <;> exact hb)))
    exact ⟨_, hxt, h2, q1, q2⟩
  have hrows : ∀ E' : Env, RowsOK E' 1 (ws.map (fun (x : Nat) => (x : Int))).length (rowG encU (ws.map (fun (x : Nat) => (x : Int)))) (OldB.vs ws) := fun E' q hq => by
    have hq' : q < ws.length := by simpa using hq
    have hq2 : q < (OldB.vs ws).length := by simpa [OldB.vs] using hq'
    simp only [cellsAt, Nat.mul_one]
    rw [List.drop_eq_getElem_cons hq2, List.take_succ_cons, List.take_zero]
    simp only [rowG, encU, RVs, RV]
    refine ⟨_, _, rfl, ?_, rfl⟩
    simp [OldB.vs, List.getD_eq_getElem?_getD, List.getElem?_eq_getElem hq']
  have ho2 := ho
  rcases ho with ⟨hl, ⟨rfl, h0⟩ | ⟨g, cap, cur, rfl, hg, hcur, hc, hm, hs, ht⟩⟩
  · refine fin (none, 0) (fun b hb => by cases hb) fun E' he => ⟨⟨none, 0, OldB.vs ws, he, ⟨hl, .inl ⟨congrArg (fun n => Value.slice none n 0) h0, h0⟩⟩, OldB.one_of ws, hrows E'⟩, ?_⟩
    simp only [RV]
    exact ⟨none, 0, he, none, rfl, h0, rfl⟩
  · refine fin (some ⟨g, 0, none⟩, cap) (fun b hb => by simp [baseBlk] at hb; omega) fun E' he => ⟨⟨_, cap, OldB.vs ws, he, ⟨hl, .inr ⟨g, cap, cur, rfl, Nat.zero_le _, hcur, hc, hm, hs, ht⟩⟩, OldB.one_of ws, hrows E'⟩, ?_⟩
    simp only [RV]
    exact ⟨_, cap, he, 0, cap, rfl, hc, by omega, fun _ => by simp, by simp⟩

abbrev U32 (z : Int) : AV := .val (.int .u32 z)
/-- the checksum of words -/
def sumW (L : List Int) : Int := (OldA.ext 0 (L.map Int.toNat) L.length : Nat)
theorem sumW_bd (L : List Int) : 0 ≤ sumW L ∧ sumW L ≤ 4294967295 := by
  have := OldA.ext_lt 0 (by omega) (L.map Int.toNat) L.length
  unfold sumW
  omega
theorem words_any (L : List Int) (hw : Wf L) (hl : L.length ≤ 1000000) : CallOK Try.prog 56 [.sl 0 0 1 L.length none] [(0, .ro 1 L.length (rowG encU L))] (U32 (sumW L)) [] := by
  refine ⟨enters_of Try.func56 (by kernel_rfl) rfl, fun E W cargs ha hr hn => ?_⟩
  simp only [RVs] at ha
  obtain ⟨c1, l1, rfl, g1, rfl⟩ := ha
  obtain ⟨a, cap, rfl, H⟩ := wo_row hw (hr.holds 0 _ rfl) g1
  refine (OldA.words_ok a L.length cap _ (by omega) W H).mono ?_
  rintro e W' ⟨rfl, hb⟩
  obtain ⟨q1, q2⟩ := rh_below hr hb
  exact ⟨_, E, rfl, Ext.refl E, by simp only [RV]; rfl, q1, q2⟩
theorem rwords_any (L : List Int) (hw : Wf L) (hl : L.length ≤ 1000000) : CallOK Try.prog 52 [.sl 0 0 1 L.length none] [(0, .ro 1 L.length (rowG encU L))] (U32 (sumW L)) [] := by
  refine ⟨enters_of Try.func52 (by kernel_rfl) rfl, fun E W cargs ha hr hn => ?_⟩
  simp only [RVs] at ha
  obtain ⟨c1, l1, rfl, g1, rfl⟩ := ha
  obtain ⟨a, cap, rfl, H⟩ := wo_row hw (hr.holds 0 _ rfl) g1
  refine (OldA.rwords_ok a L.length cap _ (by omega) W H).mono ?_
  rintro e W' ⟨rfl, rfl⟩
  exact ⟨_, E, rfl, Ext.refl E, by simp only [RV]; rfl, hr, Mod.refl _ _ _⟩
/-- a checksum folded -/
def shortF (r : Int) : Int := ((r.toNat / 65536) ^^^ (r.toNat % 65536) : Nat)
theorem shortF_bd (r : Int) (h : 0 ≤ r ∧ r ≤ 4294967295) : 0 ≤ shortF r ∧ shortF r ≤ 65535 := by
  unfold shortF
  have : (r.toNat / 65536) ^^^ (r.toNat % 65536) < 2 ^ 16 := Nat.xor_lt_two_pow (by omega) (by omega)
  omega
abbrev U16 (z : Int) : AV := .val (.int .u16 z)
theorem short_any (r : Int) (h : 0 ≤ r ∧ r ≤ 4294967295) : CallOK Try.prog 55 [U32 r] [] (U16 (shortF r)) [] := by
  refine ⟨enters_of Try.func55 (by kernel_rfl) rfl, fun E W cargs ha hr hn => ?_⟩
  simp only [RVs, RV] at ha
  obtain ⟨c1, l1, rfl, rfl, rfl⟩ := ha
  obtain ⟨n, rfl⟩ : ∃ n : Nat, r = n := ⟨r.toNat, by omega⟩
  refine (OldA.short_any n (by omega) W).mono ?_
  rintro e W' ⟨rfl, rfl⟩
  exact ⟨_, E, rfl, Ext.refl E, by simp only [RV]; rfl, hr, Mod.refl _ _ _⟩
theorem rshort_any (r : Int) (h : 0 ≤ r ∧ r ≤ 4294967295) : CallOK Try.prog 51 [U32 r] [] (U16 (shortF r)) [] := by
  refine ⟨enters_of Try.func51 (by kernel_rfl) rfl, fun E W cargs ha hr hn => ?_⟩
  simp only [RVs, RV] at ha
  obtain ⟨c1, l1, rfl, rfl, rfl⟩ := ha
  obtain ⟨n, rfl⟩ : ∃ n : Nat, r = n := ⟨r.toNat, by omega⟩
  refine (OldA.rshort_any n (by omega) W).mono ?_
  rintro e W' ⟨rfl, rfl⟩
  exact ⟨_, E, rfl, Ext.refl E, by simp only [RV]; rfl, hr, Mod.refl _ _ _⟩

/-! fields of a header -/
def wds : List Int := [4, 4, 4, 20, 16, 16]
theorem wds_fit : ∀ j, j < 6 → OldB.fit wds j := by
  unfold OldB.fit
  decide
/-- the fields of a word -/
def fldF (x : Int) : List Int := [x % 16, x / 16 % 16, x / 256 % 16, x / 4096 % 1048576, x / 4294967296 % 65536, x / 281474976710656 % 65536]
theorem fvl_fld (n : Nat) : (OldB.fvl wds n (OldB.firsts 6 6 (Nat.le_refl _))).map (fun (x : Nat) => (x : Int)) = fldF n := by
  simp only [OldB.fvl, OldB.firsts, OldB.fv, OldB.sw, wds, fldF, List.nil_append, List.cons_append, List.map_cons, List.map_nil]
  show [((n / 2 ^ 0 % 2 ^ 4 : Nat) : Int), ((n / 2 ^ 4 % 2 ^ 4 : Nat) : Int), ((n / 2 ^ 8 % 2 ^ 4 : Nat) : Int), ((n / 2 ^ 12 % 2 ^ 20 : Nat) : Int), ((n / 2 ^ 32 % 2 ^ 16 : Nat) : Int), ((n / 2 ^ 48 % 2 ^ 16 : Nat) : Int)] = _
  simp only [Nat.reducePow, Nat.div_one, Int.natCast_emod, Int.natCast_ediv]
  rfl
theorem split_any (x : Int) (hx : 0 ≤ x ∧ x ≤ 18446744073709551615) : CallOK Try.prog 53 [U x, .sl 0 0 1 6 none] [(0, .ro 1 6 (rowG encI wds))] (.tup [.sl 10 0 1 6 none, I 0]) [(10, some (.vec 38 1 6 (rowG encU (fldF x))))] := by
  refine ⟨enters_of Try.func53 (by kernel_rfl) rfl, fun E W cargs ha hr hn => ?_⟩
  simp only [RVs] at ha
  obtain ⟨c1, l1, rfl, g1, c2, l2, rfl, g2, rfl⟩ := ha
  simp only [RV] at g1
  subst g1
  obtain ⟨a, cap, rfl, H⟩ := wi_row (L := wds) (hr.holds 0 _ rfl) g2
  obtain ⟨n, rfl⟩ : ∃ n : Nat, x = n := ⟨x.toNat, by omega⟩
  refine (OldB.split_ok n (by omega) a 6 cap wds (by omega) wds_fit W H).mono ?_
  rintro e W' ⟨a', cap', rfl, HO, hb⟩
  obtain ⟨E', e1, e2, e3, e4⟩ := own_new (out := fldF n) (by omega) (fvl_fld n) rfl hr hn HO.out hb
  refine ⟨_, E', rfl, e1, ?_, e3, e4⟩
  simp only [RV, RVs]
  exact ⟨[.slice a' 6 cap', .int .i64 0], rfl, _, _, rfl, e2, _, _, rfl, rfl, rfl⟩
/-- the word of fields -/
def packF (v : List Int) : Int := v.getD 0 0 + 16 * v.getD 1 0 + 256 * v.getD 2 0 + 4096 * v.getD 3 0 + 4294967296 * v.getD 4 0 + 281474976710656 * v.getD 5 0
/-- fields that fit -/
def Fits (v : List Int) : Prop := v.length = 6 ∧ (0 ≤ v.getD 0 0 ∧ v.getD 0 0 < 16) ∧ (0 ≤ v.getD 1 0 ∧ v.getD 1 0 < 16) ∧ (0 ≤ v.getD 2 0 ∧ v.getD 2 0 < 16) ∧ (0 ≤ v.getD 3 0 ∧ v.getD 3 0 < 1048576) ∧ (0 ≤ v.getD 4 0 ∧ v.getD 4 0 < 65536) ∧ (0 ≤ v.getD 5 0 ∧ v.getD 5 0 < 65536)
theorem or_shift (a b k : Nat) (h : a < 2 ^ k) : a ||| (b <<< k) = a + 2 ^ k * b := by
  rw [Nat.or_comm, ← Nat.shiftLeft_add_eq_or_of_lt h, Nat.shiftLeft_eq, Nat.add_comm, Nat.mul_comm]
theorem fw_pack (a b c d e f : Nat) (ha : a < 16) (hb : b < 16) (hc : c < 16) (hd : d < 1048576) (he : e < 65536) (hf : f < 65536) : OldB.fw wds [a, b, c, d, e, f] 6 = a + 16 * b + 256 * c + 4096 * d + 4294967296 * e + 281474976710656 * f := by
  simp only [OldB.fw, OldB.sw, wds, List.getElem?_cons_succ, List.getElem?_cons_zero, Option.getD_some]
  show (((((0 ||| (a <<< 0)) ||| (b <<< 4)) ||| (c <<< 8)) ||| (d <<< 12)) ||| (e <<< 32)) ||| (f <<< 48) = _
  rw [Nat.zero_or, Nat.shiftLeft_zero, or_shift a b 4 (by omega), or_shift _ c 8 (by omega), or_shift _ d 12 (by omega), or_shift _ e 32 (by omega), or_shift _ f 48 (by omega)]
theorem fields_any (v : List Int) (hv : Fits v) : CallOK Try.prog 45 [.sl 0 0 1 6 none, .sl 1 0 1 6 none] [(0, .ro 1 6 (rowG encI wds)), (1, .ro 1 6 (rowG encU v))] (.tup [U (packF v), I 0]) [] := by
  obtain ⟨h6, h0, h1, h2, h3, h4, h5⟩ := hv
  match v, h6 with
  | [a, b, c, d, e, f], _ =>
  simp only [List.getD_eq_getElem?_getD, List.getElem?_cons_succ, List.getElem?_cons_zero, Option.getD_some] at h0 h1 h2 h3 h4 h5
  obtain ⟨a, rfl⟩ : ∃ n : Nat, a = n := ⟨a.toNat, by omega⟩
  obtain ⟨b, rfl⟩ : ∃ n : Nat, b = n := ⟨b.toNat, by omega⟩
  obtain ⟨c, rfl⟩ : ∃ n : Nat, c = n := ⟨c.toNat, by omega⟩
  obtain ⟨d, rfl⟩ : ∃ n : Nat, d = n := ⟨d.toNat, by omega⟩
  obtain ⟨e, rfl⟩ : ∃ n : Nat, e = n := ⟨e.toNat, by omega⟩
  obtain ⟨f, rfl⟩ : ∃ n : Nat, f = n := ⟨f.toNat, by omega⟩
  refine ⟨enters_of Try.func45 (by kernel_rfl) rfl, fun E W cargs ha hr hn => ?_⟩
  simp only [RVs] at ha
  obtain ⟨c1, l1, rfl, g1, c2, l2, rfl, g2, rfl⟩ := ha
  have hw : Wf [(a : Int), b, c, d, e, f] := by
    intro x hx
    simp only [List.mem_cons, List.not_mem_nil, or_false] at hx
    omega
  obtain ⟨p, cap, rfl, H⟩ := wi_row (L := wds) (hr.holds 0 _ rfl) g1
  obtain ⟨q, cap2, rfl, H2⟩ := va_row (L := [(a : Int), b, c, d, e, f]) hw (hr.holds 1 _ rfl) g2
  refine (OldB.fields_all p q 6 cap cap2 wds _ (by omega) wds_fit W H H2).mono ?_
  have key : ∀ j, j < 6 → OldB.vfit wds ([(a : Int), b, c, d, e, f].map Int.toNat) j := by
    intro j hj
    unfold OldB.vfit
    match j, hj with
    | 0, _ | 1, _ | 2, _ | 3, _ | 4, _ | 5, _ => simp [wds]; omega
  rintro e' W' ⟨⟨_, rfl⟩ | ⟨hno, _⟩, hb⟩
  · obtain ⟨q1, q2⟩ := rh_below hr hb
    refine ⟨_, E, rfl, Ext.refl E, ?_, q1, q2⟩
    simp only [RV, RVs]
    refine ⟨[_, .int .i64 0], rfl, _, _, rfl, ?_, _, _, rfl, rfl, rfl⟩
    have := fw_pack a b c d e f (by omega) (by omega) (by omega) (by omega) (by omega) (by omega)
    simp only [List.map_cons, List.map_nil, Int.toNat_natCast]
    rw [this]
    simp only [packF, List.getD_eq_getElem?_getD, List.getElem?_cons_succ, List.getElem?_cons_zero, Option.getD_some]
    rfl
  · exact absurd key hno
end Go.Proofs.Ytonjaghkiaaipaa
