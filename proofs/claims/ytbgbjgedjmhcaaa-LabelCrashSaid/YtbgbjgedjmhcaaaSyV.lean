/- The engine, part V: a contract for a heap that is told with other rows. No conditions but those of each theorem. -/
import Derived.Test.YtbgbjgedjmhcaaaSyU
namespace Go.Proofs.Ytbgbjgedjmhcaaa
open Go.RowKit
set_option linter.unusedVariables false
def OSim : Option Ob → Option Ob → Prop
  | none, none => True
  | some o, some o' => ObLe o o' ∧ ObLe o' o
  | _, _ => False
def HpSim (h h' : Hp) : Prop := ∀ id, OSim (find h id) (find h' id)
theorem OSim.refl : ∀ o, OSim o o
  | none => trivial
  | some o => ⟨ObLe.refl o, ObLe.refl o⟩
theorem OSim.symm : ∀ {a b}, OSim a b → OSim b a
  | none, none, _ => trivial
  | some _, some _, h => ⟨h.2, h.1⟩
theorem HpSim.symm {h h' : Hp} (s : HpSim h h') : HpSim h' h := fun id => (s id).symm
theorem HpSim.get {h h' : Hp} (s : HpSim h h') {id : Nat} {o' : Ob} (ho : find h' id = some o') : ∃ o, find h id = some o ∧ ObLe o o' ∧ ObLe o' o := by
  have := s id
  rw [ho] at this
  cases hf : find h id with
  | none => rw [hf] at this; exact this.elim
  | some o => rw [hf] at this; exact ⟨o, rfl, this⟩
theorem RH.sim {E : Env} {h h' : Hp} {W : World} (s : HpSim h h') (r : RH E h W) : RH E h' W := by
  refine ⟨fun id o' ho => ?_, fun i j o' p' hi hj hne hw b hb => ?_⟩
  · obtain ⟨o, h1, h2, _⟩ := s.get ho
    exact (ObLe.ok h2 (r.holds id o h1)).1
  · obtain ⟨o, h1, h2, _⟩ := s.get hi
    obtain ⟨p, h3, h4, _⟩ := s.get hj
    exact fun hb2 => r.apart i j o p h1 h3 hne (by rw [← (ObLe.ok h2 (r.holds i o h1)).2]; exact hw) b (h2.foot (r.holds i o h1) hb) (h4.foot (r.holds j p h3) hb2)
theorem applyO_sim : ∀ (outs : List (Nat × Option Ob)) {h h' : Hp}, HpSim h h' → HpSim (applyO h outs) (applyO h' outs)
  | [], _, _, s => s
  | (id, some o) :: l, h, h', s => applyO_sim l fun x => by
    rw [find_upd, find_upd]
    split
    · exact OSim.refl _
    · exact s x
  | (id, none) :: l, h, h', s => applyO_sim l fun x => by
    rw [find_del, find_del]
    split
    · exact OSim.refl _
    · exact s x
theorem hasId_sim {h h' : Hp} (s : HpSim h h') (id : Nat) : hasId h id = hasId h' id := by
  have := s id
  unfold hasId
  cases hf : find h id <;> cases hf' : find h' id <;> rw [hf, hf'] at this <;> first | rfl | exact this.elim
theorem newIds_sim : ∀ (outs : List (Nat × Option Ob)) {h h' : Hp}, HpSim h h' → newIds h outs = newIds h' outs
  | [], _, _, s => rfl
  | (id, some o) :: l, h, h', s => by
    have ih := newIds_sim l (h := upd h id o) (h' := upd h' id o) fun x => by
      rw [find_upd, find_upd]
      split
      · exact OSim.refl _
      · exact s x
    simp only [newIds, hasId_sim s id, ih]
  | (id, none) :: l, h, h', s => by
    have ih := newIds_sim l (h := del h id) (h' := del h' id) fun x => by
      rw [find_del, find_del]
      split
      · exact OSim.refl _
      · exact s x
    simp only [newIds, ih]
theorem ObLe.owned {o o' : Ob} (h : ObLe o o') : o'.owned = o.owned := by
  cases o <;> cases o' <;> first | rfl | exact (by simp [ObLe] at h)
theorem Mod.sim {E E' : Env} {h h' a a' : Hp} {W W' : World} (s : HpSim h h') (t : HpSim a a') (r : RH E h W) (r' : RH E' a W') (m : Mod E h W E' a W') : Mod E h' W E' a' W' := by
  refine ⟨m.os, m.tape, m.output, m.size, fun b hb hn => m.old b hb fun id o ho hw => ?_, fun id o' b ho hb => ?_⟩
  · obtain ⟨o', h1, h2, h3⟩ := s.symm.get ho
    exact fun hb2 => hn id o' h1 (by rw [← h2.owned]; exact hw) (h2.foot ((RH.sim s r).holds id o' h1) hb2)
  · obtain ⟨o, h1, h2, _⟩ := t.get ho
    rcases m.own id o b h1 (h2.foot (r'.holds id o h1) hb) with ⟨i, p, g1, g2, g3⟩ | g
    · obtain ⟨p', k1, k2, k3⟩ := s.symm.get g1
      exact .inl ⟨i, p', k1, fun hw => by rw [← k2.owned]; exact g2 (by rw [← h2.owned]; exact hw), k2.foot ((RH.sim s r).holds i p' k1) g3⟩
    · exact .inr g
/-- a contract over a heap that is told with other rows -/
theorem CallOK.sim {P : Program} {g : FuncId} {args : List AV} {h h' : Hp} {ret : AV} {outs : List (Nat × Option Ob)} (s : HpSim h h') (c : CallOK P g args h ret outs) : CallOK P g args h' ret outs := by
  refine ⟨c.1, fun E W cargs hr rh hn => ?_⟩
  refine (c.2 E W cargs hr (rh.sim s.symm) (fun id hid => hn id (by rw [← newIds_sim outs s]; exact hid))).mono fun e W' ⟨cv, E', he, hx, hv, hr', hm⟩ => ?_
  exact ⟨cv, E', he, by rw [← newIds_sim outs s]; exact hx, hv, hr'.sim (applyO_sim outs s), hm.sim s (applyO_sim outs s) (rh.sim s.symm) hr'⟩
/-- objects behind a call, told with other rows -/
def OutSim : List (Nat × Option Ob) → List (Nat × Option Ob) → Prop
  | [], [] => True
  | (i, o) :: l, (j, p) :: m => i = j ∧ OSim o p ∧ OutSim l m
  | _, _ => False
theorem OutSim.nil : OutSim [] [] := trivial
theorem OutSim.cons {i : Nat} {o p : Option Ob} {l m : List (Nat × Option Ob)} (e : OSim o p) (t : OutSim l m) : OutSim ((i, o) :: l) ((i, p) :: m) := ⟨rfl, e, t⟩
theorem HpSim.upd {h h' : Hp} (s : HpSim h h') (i : Nat) {o o' : Ob} (e : OSim (some o) (some o')) : HpSim (upd h i o) (upd h' i o') := fun x => by
  rw [find_upd, find_upd]
  split
  · exact e
  · exact s x
theorem HpSim.del {h h' : Hp} (s : HpSim h h') (i : Nat) : HpSim (del h i) (del h' i) := fun x => by
  rw [find_del, find_del]
  split
  · exact OSim.refl _
  · exact s x
theorem out_sim : ∀ {outs outs' : List (Nat × Option Ob)} {h h' : Hp}, OutSim outs outs' → HpSim h h' → HpSim (applyO h outs) (applyO h' outs') ∧ newIds h outs = newIds h' outs'
  | [], [], h, h', _, s => ⟨s, rfl⟩
  | (i, some o) :: l, (j, some p) :: m, h, h', ⟨e, e2, e3⟩, s => by
    subst e
    obtain ⟨g1, g2⟩ := out_sim e3 (s.upd i e2)
    exact ⟨g1, by simp only [newIds, hasId_sim s i, g2]⟩
  | (i, none) :: l, (j, none) :: m, h, h', ⟨e, e2, e3⟩, s => by
    subst e
    obtain ⟨g1, g2⟩ := out_sim e3 (s.del i)
    exact ⟨g1, by simp only [newIds, g2]⟩
  | (i, some o) :: l, (j, none) :: m, _, _, ⟨_, e2, _⟩, _ => e2.elim
  | (i, none) :: l, (j, some o) :: m, _, _, ⟨_, e2, _⟩, _ => e2.elim
  | [], _ :: _, _, _, e, _ => e.elim
  | _ :: _, [], _, _, e, _ => e.elim
/-- a contract whose objects behind the call are told with other rows -/
theorem CallOK.simO {P : Program} {g : FuncId} {args : List AV} {h : Hp} {ret : AV} {outs outs' : List (Nat × Option Ob)} (c : CallOK P g args h ret outs) (s : OutSim outs outs') : CallOK P g args h ret outs' := by
  have s0 : HpSim h h := fun id => OSim.refl _
  obtain ⟨g1, g2⟩ := out_sim s s0
  refine ⟨c.1, fun E W cargs hr rh hn => ?_⟩
  refine (c.2 E W cargs hr rh (fun id hid => hn id (by rw [← g2]; exact hid))).mono fun e W' ⟨cv, E', he, hx, hv, hr', hm⟩ => ?_
  exact ⟨cv, E', he, by rw [← g2]; exact hx, hv, hr'.sim g1, hm.sim s0 g1 rh hr'⟩
/-! ### Rows that are written out, under other names -/
theorem renL_drop (σ : List (Nat × Nat)) : ∀ (n : Nat) (l : List AV), renL σ (l.drop n) = (renL σ l).drop n
  | 0, l => rfl
  | n + 1, [] => rfl
  | n + 1, x :: l => by simp only [List.drop_succ_cons, renL]; exact renL_drop σ n l
theorem renL_take (σ : List (Nat × Nat)) : ∀ (n : Nat) (l : List AV), renL σ (l.take n) = (renL σ l).take n
  | 0, l => rfl
  | n + 1, [] => rfl
  | n + 1, x :: l => by simp only [List.take_succ_cons, renL]; rw [renL_take σ n l]
theorem renL_rowsOf (σ : List (Nat × Nat)) (cs : List AV) (es q : Nat) : renL σ (rowsOf cs es q) = rowsOf (renL σ cs) es q := by
  unfold rowsOf; rw [renL_take, renL_drop]
theorem OSim.rowsV {σ : List (Nat × Nat)} {ty es n : Nat} {cs cs' : List AV} (h : renL σ cs = cs') : OSim (some (renO σ (.vec ty es n (rowsOf cs es)))) (some (.vec ty es n (rowsOf cs' es))) := by
  subst h
  exact ⟨⟨rfl, rfl, rfl, fun q _ => renL_rowsOf σ cs es q⟩, ⟨rfl, rfl, rfl, fun q _ => (renL_rowsOf σ cs es q).symm⟩⟩
theorem OSim.rowsR {σ : List (Nat × Nat)} {es n : Nat} {cs cs' : List AV} (h : renL σ cs = cs') : OSim (some (renO σ (.ro es n (rowsOf cs es)))) (some (.ro es n (rowsOf cs' es))) := by
  subst h
  exact ⟨⟨rfl, rfl, fun q _ => renL_rowsOf σ cs es q⟩, ⟨rfl, rfl, fun q _ => (renL_rowsOf σ cs es q).symm⟩⟩
theorem HpSim.nil : HpSim [] [] := fun _ => trivial
theorem HpSim.cons {k k' : Nat} {o o' : Ob} {h h' : Hp} (e : k = k') (s : OSim (some o) (some o')) (t : HpSim h h') : HpSim ((k, o) :: h) ((k', o') :: h') := by
  subst e
  intro id
  simp only [find]
  split
  · exact s
  · exact t id
theorem CallOK.simR {P : Program} {g : FuncId} {args : List AV} {h h' : Hp} {ret : AV} {outs : List (Nat × Option Ob)} (c : CallOK P g args h ret outs) (s : HpSim h h') : CallOK P g args h' ret outs := c.sim s
end Go.Proofs.Ytbgbjgedjmhcaaa
