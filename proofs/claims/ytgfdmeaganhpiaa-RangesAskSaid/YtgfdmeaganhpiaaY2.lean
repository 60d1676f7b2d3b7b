/- What the walks told of memory say told by objects: normal, walk. No conditions but those of each theorem. -/
import Derived.Test.YtgfdmeaganhpiaaSyZ
import Derived.KernelRfl
import Derived.Test.YtgfdmeaganhpiaaN
import Derived.Test.YtgfdmeaganhpiaaY1
namespace Go.Proofs.Ytgfdmeaganhpiaa
open Go.RowKit
set_option linter.unusedVariables false
set_option linter.unnecessarySimpa false
theorem i64_vld {r : Rn} (h : Old.Vld r) : Old.I64 r.1 ∧ Old.I64 r.2 := by
  obtain ⟨h1, h2, h3⟩ := h
  unfold Old.I64; omega
theorem cell_of {xs : List Value} {es q : Nat} {u v : Value} (h : (xs.drop (q * 2)).take 2 = [u, v]) : xs[q * 2]? = some u ∧ xs[q * 2 + 1]? = some v := by
  have h0 : ((xs.drop (q * 2)).take 2)[0]? = some u := by rw [h]; rfl
  have h1 : ((xs.drop (q * 2)).take 2)[1]? = some v := by rw [h]; rfl
  rw [List.getElem?_take_of_lt (by omega), List.getElem?_drop] at h0 h1
  exact ⟨h0, h1⟩
/-- a list that came in as an object, as the walks tell it -/
theorem rg_of {E : Env} {W : World} {id : Nat} {L : List Rn} {c : Value} (hv : ∀ r ∈ L, Old.Vld r) (hh : Holds E W id (.ro 2 L.length (rowG encR L))) (hc : RV E (.sl id 0 2 L.length none) c) : ∃ a cap, c = .slice a L.length cap ∧ Old.Rg W.heap.size W a L.length L := by
  obtain ⟨b, k, xs, h1, h2, h3, h4, h5⟩ := hh
  simp only [RV] at hc
  obtain ⟨b2, k2, h6, h7⟩ := hc
  rw [h1] at h6
  simp only [Option.some.injEq, Prod.mk.injEq] at h6
  obtain ⟨rfl, rfl⟩ := h6
  cases b with
  | none =>
    obtain ⟨b', rfl, h8, _⟩ := h7
    refine ⟨b', 0, by rw [h8], rfl, fun r hr => i64_vld (hv r hr), .inl h8⟩
  | some a =>
    obtain ⟨o, m, rfl, h8, h9, h10, h11⟩ := h7
    refine ⟨_, m, rfl, rfl, fun r hr => i64_vld (hv r hr), ?_⟩
    by_cases h0 : L.length = 0
    · exact .inl h0
    · right
      have hm : m ≠ 0 := by omega
      rcases h3 with ⟨h3, _⟩ | ⟨a', ha, hlt, hk, hcell⟩
      · cases h3
      · simp only [Option.some.injEq] at ha
        subst ha
        refine ⟨a.block, o, rfl, hlt, fun j hj => ?_⟩
        have hr := h5 j hj
        have hd : L.getD j default = L[j]?.getD (0, 0) := by rw [List.getD_eq_getElem?_getD]; rfl
        simp only [rowG, encR, RVs, RV] at hr
        obtain ⟨y, l, e1, rfl, y2, l2, e2, rfl, e3⟩ := hr
        rw [e2, e3] at e1
        obtain ⟨q1, q2⟩ := cell_of (es := 2) e1
        rw [← hd, h10 hm, Nat.zero_mul, Nat.add_zero]
        have z1 := hcell _ _ q1
        have z2 := hcell _ _ q2
        exact ⟨z1, by rw [← Nat.add_assoc] at z2; exact z2⟩
theorem vr_cells : ∀ (out : List Rn) (q : Nat), q < out.length → cellsAt (Old.vr out) 2 q = [.int .i64 (out.getD q default).1, .int .i64 (out.getD q default).2]
  | [], q, h => by simp at h
  | r :: l, 0, h => by simp [cellsAt, Old.vr]
  | r :: l, q + 1, h => by
    have := vr_cells l q (by simpa using h)
    simp only [cellsAt] at this ⊢
    rw [show (q + 1) * 2 = q * 2 + 2 by omega]
    simpa [Old.vr] using this
theorem vr_one (out : List Rn) : ∀ u ∈ Old.vr out, u.oneCell' = true := by
  intro u hu
  simp only [Old.vr, List.mem_flatMap] at hu
  obtain ⟨r, _, h⟩ := hu
  simp only [List.mem_cons, List.not_mem_nil, or_false] at h
  rcases h with rfl | rfl <;> rfl
/-- a row of the call's own that is new: the object it is -/
theorem own_new {E : Env} {h : Hp} {W W' : World} {v' : Value} {out : List Rn} (hno : hasId h 10 = false) (hr : RH E h W) (hn : ∀ id ∈ newIds h [(10, some (.vec 42 2 out.length (rowG encR out)))], E id = none)
    (ho : W'.ownsRow W.heap.size 42 2 v' out.length (Old.vr out)) (hb : Below W.heap.size W W') :
    ∃ E', Ext E E' (newIds h [(10, some (.vec 42 2 out.length (rowG encR out)))]) ∧ RV E' (.sl 10 0 2 out.length none) v' ∧ RH E' (applyO h [(10, some (.vec 42 2 out.length (rowG encR out)))]) W' ∧ Mod E h W E' (applyO h [(10, some (.vec 42 2 out.length (rowG encR out)))]) W' := by
  have en : newIds h [(10, some (.vec 42 2 out.length (rowG encR out)))] = [10] := by simp [newIds, hno]
  rw [en] at hn ⊢
  have hne := hn 10 (by simp)
  have fin : ∀ (x : Option Addr × Nat), (∀ b, baseBlk x = some b → W.heap.size ≤ b) → (∀ E' : Env, E' 10 = some x → Holds E' W' 10 (.vec 42 2 out.length (rowG encR out)) ∧ RV E' (.sl 10 0 2 out.length none) v') →
      ∃ E', Ext E E' [10] ∧ RV E' (.sl 10 0 2 out.length none) v' ∧ RH E' (applyO h [(10, some (.vec 42 2 out.length (rowG encR out)))]) W' ∧ Mod E h W E' (applyO h [(10, some (.vec 42 2 out.length (rowG encR out)))]) W' := by
    intro x hx hh
    have hxt := nw_set E 10 x hne
    obtain ⟨h1, h2⟩ := hh (fun y => if y = 10 then some x else E y) (if_pos rfl)
    obtain ⟨q1, q2⟩ := RH.change (h' := upd h 10 (.vec 42 2 out.length (rowG encR out))) (row := none) hr hxt (Old.below_grown hb) (fun b hb => by cases hb) (by rw [find_upd]; simp) (fun x hx' y hy => by rw [find_upd, if_neg (fun e => hx' e.symm)] at hy; exact hy) h1 (fun b hb => .inr (hx b (by
      simp only [blkOf, if_pos] at hb
      obtain ⟨q1, q2⟩ := x
      cases q1 <;> exact hb)))
    exact ⟨_, hxt, h2, q1, q2⟩
  have hrows : ∀ E' : Env, RowsOK E' 2 out.length (rowG encR out) (Old.vr out) := fun E' q hq => by
    rw [vr_cells out q hq]
    simp only [rowG, encR, RVs, RV]
    exact ⟨_, _, rfl, rfl, _, _, rfl, rfl, rfl⟩
  have ho2 := ho
  rcases ho with ⟨hl, ⟨rfl, h0⟩ | ⟨g, cap, cur, rfl, hg, hcur, hc, hm, hs, ht⟩⟩
  · refine fin (none, 0) (fun b hb => by cases hb) fun E' he => ⟨⟨none, 0, Old.vr out, he, ⟨hl, .inl ⟨congrArg (fun n => Value.slice none n 0) h0, h0⟩⟩, vr_one out, hrows E'⟩, ?_⟩
    simp only [RV]
    exact ⟨none, 0, he, none, rfl, h0, rfl⟩
  · refine fin (some ⟨g, 0, none⟩, cap) (fun b hb => by simp [baseBlk] at hb; omega) fun E' he => ⟨⟨_, cap, Old.vr out, he, ⟨hl, .inr ⟨g, cap, cur, rfl, Nat.zero_le _, hcur, hc, hm, hs, ht⟩⟩, vr_one out, hrows E'⟩, ?_⟩
    simp only [RV]
    exact ⟨_, cap, he, 0, cap, rfl, hc, by omega, fun _ => by simp, by simp⟩

/-- the set that a walk leaves, as the reference has it: told by its members -/
abbrev NFM (out : List Rn) (p : Int → Prop) : Prop := Old.NF out ∧ ∀ n, Old.Mem out n ↔ p n
theorem walk_bd (f : Nat) (cf : Bool → Bool → Bool) (h0 : cf false false = false) (ef : ∀ args w, (callFunc f args).run Try.prog w = .ok (.enter f args) w) (hcl : ∀ p q w, Calls Try.prog f #[.bool p, .bool q] w fun e w' => e = .returned (.bool (cf p q)) ∧ w' = w)
    (L M out : List Rn) (hl : L.length ≤ 10000) (hm : M.length ≤ 10000) (hv : ∀ r ∈ L, Old.Vld r) (hv2 : ∀ r ∈ M, Old.Vld r) (ho : NFM out fun n => cf (decide (Old.Mem L n)) (decide (Old.Mem M n)) = true) :
    CallOK Try.prog 32 [.sl 0 0 2 L.length none, .sl 1 0 2 M.length none, .fn (.func f) [] []] [(0, .ro 2 L.length (rowG encR L)), (1, .ro 2 M.length (rowG encR M))] (.tup [.sl 10 0 2 out.length none, I 0]) [(10, some (.vec 42 2 out.length (rowG encR out)))] := by
  refine ⟨enters_of Try.func32 (by kernel_rfl) rfl, fun E W cargs ha hr hn => ?_⟩
  simp only [RVs] at ha
  obtain ⟨c1, l1, rfl, g1, c2, l2, rfl, g2, c3, l3, rfl, g3, rfl⟩ := ha
  simp only [RV, RVs] at g3
  obtain ⟨xs, ys, rfl, rfl, rfl⟩ := g3
  obtain ⟨a, cap, rfl, R1⟩ := rg_of hv (hr.holds 0 _ rfl) g1
  obtain ⟨b, cap2, rfl, R2⟩ := rg_of hv2 (hr.holds 1 _ rfl) g2
  refine (Old.walk_any f cf h0 ef hcl a b L.length cap M.length cap2 L M hl hm hv hv2 W R1 R2).mono ?_
  rintro e W' ⟨v', rfl, out', n1, n2, n3, H⟩
  have eo : out' = out := Old.nf_unique _ _ n1 ho.1 fun n => (n3 n).trans (ho.2 n).symm
  subst eo
  obtain ⟨E', e1, e2, e3, e4⟩ := own_new rfl hr hn H.out.1 H.out.2
  refine ⟨_, E', rfl, e1, ?_, e3, e4⟩
  simp only [RV, RVs]
  exact ⟨[v', .int .i64 0], rfl, v', _, rfl, e2, _, _, rfl, rfl, rfl⟩
theorem walk_nil (f : Nat) (cf : Bool → Bool → Bool) (h0 : cf false false = false) (ef : ∀ args w, (callFunc f args).run Try.prog w = .ok (.enter f args) w) (hcl : ∀ p q w, Calls Try.prog f #[.bool p, .bool q] w fun e w' => e = .returned (.bool (cf p q)) ∧ w' = w)
    (L out : List Rn) (hl : L.length ≤ 10000) (hv : ∀ r ∈ L, Old.Vld r) (ho : NFM out fun n => cf (decide (Old.Mem L n)) false = true) :
    CallOK Try.prog 32 [.sl 0 0 2 L.length none, .val (.slice none 0 0), .fn (.func f) [] []] [(0, .ro 2 L.length (rowG encR L))] (.tup [.sl 10 0 2 out.length none, I 0]) [(10, some (.vec 42 2 out.length (rowG encR out)))] := by
  refine ⟨enters_of Try.func32 (by kernel_rfl) rfl, fun E W cargs ha hr hn => ?_⟩
  simp only [RVs] at ha
  obtain ⟨c1, l1, rfl, g1, c2, l2, rfl, g2, c3, l3, rfl, g3, rfl⟩ := ha
  simp only [RV, RVs] at g3 g2
  obtain ⟨xs, ys, rfl, rfl, rfl⟩ := g3
  subst g2
  obtain ⟨a, cap, rfl, R1⟩ := rg_of hv (hr.holds 0 _ rfl) g1
  refine (Old.walk_any f cf h0 ef hcl a none L.length cap 0 0 L [] hl (by omega) hv (fun r hr => by cases hr) W R1 ⟨rfl, fun r hr => (by cases hr), .inl rfl⟩).mono ?_
  rintro e W' ⟨v', rfl, out', n1, n2, n3, H⟩
  have eo : out' = out := Old.nf_unique _ _ n1 ho.1 fun n => (n3 n).trans ((by rw [decide_eq_false (Old.mem_nil n)] : _ ↔ _).trans (ho.2 n).symm)
  subst eo
  obtain ⟨E', e1, e2, e3, e4⟩ := own_new rfl hr hn H.out.1 H.out.2
  refine ⟨_, E', rfl, e1, ?_, e3, e4⟩
  simp only [RV, RVs]
  exact ⟨[v', .int .i64 0], rfl, v', _, rfl, e2, _, _, rfl, rfl, rfl⟩
theorem normal_bd (L out : List Rn) (hl : L.length ≤ 10000) (hv : ∀ r ∈ L, Old.Vld r) (ho : NFM out fun n => Old.Mem L n) :
    CallOK Try.prog 38 [.sl 0 0 2 L.length none] [(0, .ro 2 L.length (rowG encR L))] (.sl 10 0 2 out.length none) [(10, some (.vec 42 2 out.length (rowG encR out)))] := by
  refine ⟨enters_of Try.func38 (by kernel_rfl) rfl, fun E W cargs ha hr hn => ?_⟩
  simp only [RVs] at ha
  obtain ⟨c1, l1, rfl, g1, rfl⟩ := ha
  obtain ⟨a, cap, rfl, R1⟩ := rg_of hv (hr.holds 0 _ rfl) g1
  refine (Old.normal_any a L.length cap L (by omega) hv W R1).mono ?_
  rintro e W' ⟨v', rfl, out', n1, n2, n3, H⟩
  have eo : out' = out := Old.nf_unique _ _ n1 ho.1 fun n => (n3 n).trans (ho.2 n).symm
  subst eo
  obtain ⟨E', e1, e2, e3, e4⟩ := own_new rfl hr hn H.out.1 H.out.2
  exact ⟨_, E', rfl, e1, e2, e3, e4⟩
end Go.Proofs.Ytgfdmeaganhpiaa
