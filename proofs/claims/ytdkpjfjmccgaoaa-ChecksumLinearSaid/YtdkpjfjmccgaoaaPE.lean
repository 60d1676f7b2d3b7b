/- The end of a region by a plan with operations in several orders; special operations far and near. No conditions but those of each theorem. -/
import Derived.Test.YtdkpjfjmccgaoaaJ
import Derived.Deep.Slices
import Derived.Laws.IdiomArrays
namespace Go.Proofs.Ytdkpjfjmccgaoaa
open Go.ChangeShapes Go.WideShapes Go.ChangeAt Go.RowKit Go.Deep
set_option linter.unusedVariables false
set_option linter.unusedSimpArgs false

theorem putAll_at : ∀ (l : List Oper) (vals : List Value) (a : Act) (j : Nat) (o : Oper) (v : Value) (d : Nat), (∀ (i j : Nat) (oi oj : Oper) (s : Nat), l[i]? = some oi → l[j]? = some oj → oi.dst = some s → oj.dst = some s → i = j) → l[j]? = some o → vals[j]? = some v → o.dst = some d → d < a.tmps.size → (putAll l vals a).tmps[d]? = some v
  | [], _, _, j, o, v, d, _, ho, _, _, _ => by simp at ho
  | _ :: _, [], _, j, o, v, d, _, _, hv, _, _ => by simp at hv
  | p :: os, u :: us, a, 0, o, v, d, hd, ho, hv, hod, hlt => by
    simp at ho hv
    subst ho; subst hv
    unfold putAll
    rw [(putAll_keeps os us _).2.2 d (fun o' ho' e => by
      obtain ⟨j, hj⟩ := List.getElem?_of_mem ho'
      have := hd 0 (j + 1) p o' d (by simp) (by simpa using hj) hod e
      omega), hod, put_at _ _ _ hlt]
  | p :: os, u :: us, a, j + 1, o, v, d, hd, ho, hv, hod, hlt => by
    unfold putAll
    exact putAll_at os us _ j o v d (fun i j oi oj s hi hj h1 h2 => by have := hd (i + 1) (j + 1) oi oj s (by simpa using hi) (by simpa using hj) h1 h2; omega) (by simpa using ho) (by simpa using hv) hod (by rw [put_size]; exact hlt)

theorem ond_end {l : List Oper} {er Sp : List Nat} {a0 a' aF b : Act} {vals vals' : List Value} {L : Array Bool} (hok : IOK l a0.tmps.size er Sp) (hF : putAll l vals a0 = aF) (hb : putAll l vals' a0 = b) (hlen : vals'.length = l.length) (hdet : ∀ j, Sp.contains j = false → vals'[j]? = vals[j]?) (hall : ∀ i, i < l.length → L.getD i false = true) (hon : OnD l a0 aF Sp L a')
    (hspec : ∀ j o v d, Sp.contains j = true → l[j]? = some o → vals'[j]? = some v → o.dst = some d → a'.tmps[d]? = some v) : a' = b := by
  subst hb
  obtain ⟨k1, k2, k3⟩ := putAll_keeps l vals' a0
  refine act_ext (hon.size.trans k1.symm) (hon.defers.trans k2.symm) fun s => ?_
  by_cases h : ∀ o ∈ l, o.dst ≠ some s
  · rw [k3 s h]
    exact hon.old s (fun j oj hj hd => absurd hd (h oj (List.mem_of_getElem? hj)))
  · obtain ⟨o, ho, hd⟩ : ∃ o, o ∈ l ∧ o.dst = some s := by
      refine Decidable.byContradiction fun hh => h fun o ho hd => hh ⟨o, ho, hd⟩
    obtain ⟨j, hj⟩ := List.getElem?_of_mem ho
    have hjl := (List.getElem?_eq_some_iff.1 hj).1
    have hs := hok.dst j o s hj hd
    obtain ⟨v, hv⟩ : ∃ v, vals'[j]? = some v := ⟨_, List.getElem?_eq_getElem (by omega)⟩
    rw [putAll_at l vals' a0 j o v s hok.once hj hv hd hs]
    cases hsp : Sp.contains j with
    | true => exact hspec j o v s hsp hj hv hd
    | false =>
      rw [hdet j hsp] at hv
      rw [hon.on s j o hj hd hsp (hall j hjl), ← hF]
      exact putAll_at l vals a0 j o v s hok.once hj hv hd hs

def SP : List Nat := [6, 7, 14, 15, 22, 23, 42, 43, 44, 45, 46, 47]
def SS : List Nat := [24, 25, 32, 33, 40, 41, 60, 61, 3, 4, 5, 6]
def farB (l : List Oper) : Bool := (List.range l.length).all fun i => SP.contains i || match l[i]? with
  | some o => (match o.dst with | some d => !SS.contains d | none => true)
  | none => true
theorem sp_in : ∀ k, k < 4 → SP.contains (ix k) = true ∧ SP.contains (ix k + 1) = true ∧ SP.contains (44 + k) = true ∧ SS.contains (ix k + 18) = true ∧ SS.contains (ix k + 19) = true ∧ SS.contains (3 + k) = true := by decide
theorem j4_far {l : List Oper} (hB : farB l = true) {w0 : World} {base n : Nat} {v : Nat → Value} {ws : Nat → List Nat} {x : Nat → Nat} : JFar l SP (J4 w0 base n v ws x) := by
  intro L a w i o u hL ho hsp h
  obtain ⟨h1, h2, h3, h4, h5, V, h6, h7, h8, h9⟩ := h
  have hi : i < L.size := by rw [hL]; exact (List.getElem?_eq_some_iff.1 ho).1
  have hd : ∀ d, o.dst = some d → SS.contains d = false := fun d hd => by
    have := List.all_eq_true.1 hB i (List.mem_range.2 (List.getElem?_eq_some_iff.1 ho).1)
    rw [hsp, ho] at this
    simpa [hd] using this
  have hn : ∀ j, SP.contains j = true → (L.setIfInBounds i true).getD j false = L.getD j false := fun j hj => by
    rw [getD_set hi, if_neg (fun e => by subst e; rw [hsp] at hj; cases hj)]
  have hp : ∀ s, SS.contains s = true → (a.put o.dst u).tmps[s]? = a.tmps[s]? := fun s hs => put_off _ _ _ _ (fun e => by rw [hd s e] at hs; cases hs)
  refine ⟨by simpa using h1, by rw [put_size]; exact h2, h3, h4, fun m hm hl => ?_, V, fun m hm => ⟨fun hl => ?_, fun hl => ?_⟩, fun m hm hl => ?_, fun m hm hl => ?_, h9⟩
  · have e := sp_in m hm
    rw [hn _ e.2.1]
    rw [hn _ e.2.2.1] at hl
    exact h5 m hm hl
  · have e := sp_in m hm
    rw [hn _ e.2.1] at hl
    rw [hp _ e.2.2.2.2.1]
    exact (h6 m hm).1 hl
  · have e := sp_in m hm
    rw [hn _ e.2.1] at hl
    exact (h6 m hm).2 hl
  · have e := sp_in m hm
    rw [hn _ e.2.2.1] at hl
    rw [hp _ e.2.2.2.2.2]
    exact h7 m hm hl
  · have e := sp_in m hm
    rw [hn _ e.1] at hl
    rw [hp _ e.2.2.2.1]
    exact h8 m hm hl

theorem eval_of {a : Act} {s : Nat} {v : Value} (h : a.tmps[s]? = some v) : a.eval (.tmp s) = v := by
  show a.tmps.getD s undef = v
  rw [Array.getD_eq_getD_getElem?, h]; rfl
theorem stepS_app {P : Program} {a : Act} {o : Oper} {w w' : World} {s x : Nat} {t : TypeId} {v vx u : Value} (ho : o.op = .call { callee := .builtin .append, args := #[.tmp s, .tmp x], argTypes := #[t, t] }) (hs : a.tmps[s]? = some v) (hx : a.tmps[x]? = some vx) (hrun : (Builtin.append_ #[t, t] o.type #[v, vx]).run P w = .ok u w') : (execOp a.eval o).run P w = .ok (.value u) w' := by
  simp [execOp, ho, resolve, invoke, builtin, eval_of hs, eval_of hx, hrun, Result.andThen]
theorem stepS_asg {P : Program} {a : Act} {o : Oper} {w : World} {s : Nat} {v : Value} (ho : o.op = .assign (.tmp s)) (hs : a.tmps[s]? = some v) : (execOp a.eval o).run P w = .ok (.value v) w := by
  simp only [execOp, ho, eval_of hs]; rfl

/-- the steps of such a plan, one behind the other -/
def StepsI (P : Program) (l : List Oper) (a0 aF : Act) (er Sp : List Nat) (J : Array Bool → Act → World → Prop) : Nat → List Oper → Prop
  | k, o :: os => (if Sp.contains k then StepS P l a0 aF Sp J k o else StepD P l a0 aF er J k o) ∧ StepsI P l a0 aF er Sp J (k + 1) os
  | _, [] => True
theorem stepsI_at {P : Program} {l : List Oper} {a0 aF : Act} {er Sp : List Nat} {J : Array Bool → Act → World → Prop} : ∀ {k : Nat} {os : List Oper}, StepsI P l a0 aF er Sp J k os → ∀ (i : Nat) (o : Oper), os[i]? = some o → if Sp.contains (k + i) then StepS P l a0 aF Sp J (k + i) o else StepD P l a0 aF er J (k + i) o
  | _, [], _, i, o, ho => by simp at ho
  | k, o' :: os, h, i, o, ho => by
    cases i with
    | zero => simp at ho; subst ho; exact h.1
    | succ i =>
      have := stepsI_at h.2 i o (by simpa using ho)
      rwa [show k + 1 + i = k + (i + 1) by omega] at this
theorem StepsI.s {P : Program} {l : List Oper} {a0 aF : Act} {er Sp : List Nat} {J : Array Bool → Act → World → Prop} {k : Nat} {o : Oper} {os : List Oper} (h : Sp.contains k = true) (hs : StepS P l a0 aF Sp J k o) (t : StepsI P l a0 aF er Sp J (k + 1) os) : StepsI P l a0 aF er Sp J k (o :: os) := ⟨by rw [if_pos h]; exact hs, t⟩
theorem StepsI.d {P : Program} {l : List Oper} {a0 aF : Act} {er Sp : List Nat} {J : Array Bool → Act → World → Prop} {k : Nat} {o : Oper} {os : List Oper} (h : Sp.contains k = false) (hs : StepD P l a0 aF er J k o) (t : StepsI P l a0 aF er Sp J (k + 1) os) : StepsI P l a0 aF er Sp J k (o :: os) := ⟨by rw [if_neg (by rw [h]; simp)]; exact hs, t⟩
theorem StepsI.nil {P : Program} {l : List Oper} {a0 aF : Act} {er Sp : List Nat} {J : Array Bool → Act → World → Prop} {k : Nat} : StepsI P l a0 aF er Sp J k [] := trivial

/-- a slice of arrays of three words that came in -/
def Tri (n₀ : Nat) (W : World) (a : Option Addr) (len : Nat) (X : Nat → Nat → Nat) : Prop :=
  (∀ j c, X j c < 18446744073709551616) ∧ (len = 0 ∨ ∃ b off, a = some ⟨b, off, none⟩ ∧ b < n₀ ∧ ∀ j, j < len → ∀ c, c < 3 → W.cell? ⟨b, off + j * 3 + c, none⟩ = some (.int .u64 (X j c : Nat)))
theorem addr_at (a : Addr) (j : Nat) : a.add j = if j = 0 then a else ⟨a.block, a.off + j, none⟩ := by
  by_cases e : j = 0
  · subst e; simp [Addr.add]
  · simp [Addr.add, e]
theorem open_tri {H : Type} {enc : TypeId × Value → H} {W : World} {base : Nat} {v : Value} {d : DataW H} {p : List MemPlace} (ok : Value.okWide Try.prog W .any base 41 v) (k : DataW.Trod enc Try.prog W 0 (fun _ => true) true 41 v d p) :
    ∃ (a : Option Addr) (len cap : Nat) (X : Nat → Nat → Nat), v = .slice a len cap ∧ len ≤ 9223372036854775807 ∧ Tri W.heap.size W a len X := by
  obtain ⟨a, len, cap, rfl⟩ := okWide_slice Try.underlying41 ok
  obtain ⟨fuel, hfu⟩ := k
  rcases open_slice Try.underlying41 hfu with ⟨hcs, _⟩ | ⟨x, l, c, m, n, D, Pl, hcs, _, hl, hm, hmm, _, hall⟩
  · simp [Value.cells] at hcs
    obtain ⟨rfl, rfl, rfl⟩ := hcs
    exact ⟨none, 0, 0, fun _ _ => 0, rfl, by omega, fun _ _ => by show 0 < 18446744073709551616; omega, .inl rfl⟩
  · simp [Value.cells] at hcs
    obtain ⟨rfl, rfl, rfl⟩ := hcs
    simp only [if_true] at hmm
    subst hmm
    have hc3 : Try.prog.cellsOf 42 = 3 := by kernel_rfl
    have hv : ∀ i, i < len → ∃ f : Nat → Nat, (∀ c, f c < 18446744073709551616) ∧ ∀ c, c < 3 → W.cell? ((x.add (i * 3)).add c) = some (.int .u64 (f c : Nat)) := fun i hi => by
      obtain ⟨cs', h1, h2⟩ := hall i (by omega)
      rw [hc3] at h1
      obtain ⟨_, hlen, hcell⟩ := World.cells?_some h1
      match cs', hlen with
      | [v0, v1, v2], _ =>
        obtain ⟨y0, y1, y2, q, _, g0, g1, g2⟩ := trod_array3 Try.underlying42 (by kernel_rfl) h2
        obtain ⟨z0, e0, _, f0⟩ := DataW.trod_int Try.underlying33 g0
        obtain ⟨z1, e1, _, f1⟩ := DataW.trod_int Try.underlying33 g1
        obtain ⟨z2, e2, _, f2⟩ := DataW.trod_int Try.underlying33 g2
        simp only [List.cons.injEq, and_true] at e0 e1 e2
        simp [Lit.wf, IntKind.min, IntKind.max, IntKind.signed, IntKind.bits] at f0 f1 f2
        have k0 := hcell 0 (by omega)
        have k1 := hcell 1 (by omega)
        have k2 := hcell 2 (by omega)
        simp at k0 k1 k2
        refine ⟨fun c => match c with | 0 => z0.toNat | 1 => z1.toNat | _ => z2.toNat, fun c => ?_, fun c hc => ?_⟩
        · match c with
          | 0 => simp only; omega
          | 1 => simp only; omega
          | _ + 2 => simp only; omega
        · match c, hc with
          | 0, _ => rw [k0, e0]; simp only; congr 2; omega
          | 1, _ => rw [k1, e1]; simp only; congr 2; omega
          | 2, _ => rw [k2, e2]; simp only; congr 2; omega
    obtain ⟨f, hf⟩ := choose_lt hv
    refine ⟨some x, len, _, fun j c => if j < len then f j c else 0, rfl, by unfold maxLen at hm; omega, fun j c => ?_, ?_⟩
    · show (if j < len then f j c else 0) < 18446744073709551616
      split
      · rename_i h; exact (hf j h).1 c
      · omega
    · by_cases h0 : len = 0
      · exact .inl h0
      · obtain ⟨b, off, spot⟩ := x
        have hc := (hf 0 (by omega)).2 0 (by omega)
        have hspot : spot = none := by simpa [Addr.add] using World.cell?_spot hc
        subst hspot
        refine .inr ⟨b, off, rfl, ?_, fun j hj c hc => ?_⟩
        · have hc' : W.cell? ⟨b, off, none⟩ = some (.int .u64 (f 0 0 : Nat)) := by simpa [Addr.add] using hc
          exact block_lt_of_cell hc'
        · have h1 := (hf j hj).2 c hc
          rw [add_add, addr_at] at h1
          show _ = some (Value.int .u64 ((if j < len then f j c else 0 : Nat) : Int))
          rw [if_pos hj, ← h1]
          by_cases e : j * 3 + c = 0
          · rw [if_pos e]; congr 2; omega
          · rw [if_neg e]; simp [Nat.add_assoc]
end Go.Proofs.Ytdkpjfjmccgaoaa
