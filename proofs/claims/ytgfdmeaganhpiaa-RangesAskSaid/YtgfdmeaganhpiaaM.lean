/- Lists of ranges as sets of numbers: the mathematics of layer 3. No condition. -/
import Derived.Test.YtgfdmeaganhpiaaRows
namespace Go.Proofs.Ytgfdmeaganhpiaa.Old
set_option linter.unusedVariables false

/-- a range: its start and its length -/
abbrev Rn := Int × Int
/-- a number is in a range of the list -/
def Mem (l : List Rn) (n : Int) : Prop := ∃ r ∈ l, r.1 ≤ n ∧ n < r.1 + r.2
/-- a range is valid -/
def Vld (r : Rn) : Prop := 0 ≤ r.1 ∧ 0 ≤ r.2 ∧ r.1 + r.2 ≤ 1073741824
instance (r : Rn) : Decidable (Vld r) := by unfold Vld; infer_instance
/-- a normal form -/
def NF (l : List Rn) : Prop := (∀ r ∈ l, 0 ≤ r.1 ∧ 1 ≤ r.2 ∧ r.1 + r.2 ≤ 1073741824) ∧ l.Pairwise (fun a b => a.1 + a.2 < b.1)

theorem mem_nil (n : Int) : ¬ Mem [] n := fun ⟨r, h, _⟩ => by cases h
theorem mem_cons (r : Rn) (l : List Rn) (n : Int) : Mem (r :: l) n ↔ (r.1 ≤ n ∧ n < r.1 + r.2) ∨ Mem l n := by
  constructor
  · rintro ⟨x, hx, h⟩
    rcases List.mem_cons.1 hx with rfl | hx
    · exact .inl h
    · exact .inr ⟨x, hx, h⟩
  · rintro (h | ⟨x, hx, h⟩)
    · exact ⟨r, List.mem_cons_self .., h⟩
    · exact ⟨x, List.mem_cons_of_mem _ hx, h⟩
theorem mem_append (a b : List Rn) (n : Int) : Mem (a ++ b) n ↔ Mem a n ∨ Mem b n := by
  induction a with
  | nil => simp [mem_nil]
  | cons r a ih => rw [List.cons_append, mem_cons, mem_cons, ih, or_assoc]
theorem mem_one (r : Rn) (n : Int) : Mem [r] n ↔ r.1 ≤ n ∧ n < r.1 + r.2 := by rw [mem_cons]; simp [mem_nil]
theorem nf_nil : NF [] := ⟨fun r h => (by cases h), List.Pairwise.nil⟩

/-- a range added behind the last one -/
def addR (l : List Rn) (r : Rn) : List Rn := match l.getLast? with
  | none => [r]
  | some k => if r.1 ≤ k.1 + k.2 then l.dropLast ++ [(k.1, max k.2 (r.1 + r.2 - k.1))] else l ++ [r]
theorem addR_nil (r : Rn) : addR [] r = [r] := rfl
theorem addR_on (l : List Rn) (k r : Rn) (h : r.1 ≤ k.1 + k.2) : addR (l ++ [k]) r = l ++ [(k.1, max k.2 (r.1 + r.2 - k.1))] := by
  simp [addR, h]
theorem addR_off (l : List Rn) (k r : Rn) (h : ¬ r.1 ≤ k.1 + k.2) : addR (l ++ [k]) r = l ++ [k] ++ [r] := by
  simp [addR, h]
theorem nil_or (l : List Rn) : l = [] ∨ ∃ i k, l = i ++ [k] := by
  rcases List.eq_nil_or_concat l with h | ⟨i, k, h⟩
  · exact .inl h
  · exact .inr ⟨i, k, by simpa using h⟩

theorem add_ok (l : List Rn) (r : Rn) (hl : NF l) (hs : ∀ k ∈ l, k.1 ≤ r.1) (h0 : 0 ≤ r.1) (h1 : 1 ≤ r.2) (h2 : r.1 + r.2 ≤ 1073741824) :
    NF (addR l r) ∧ (∀ n, Mem (addR l r) n ↔ Mem l n ∨ (r.1 ≤ n ∧ n < r.1 + r.2)) ∧ (∀ k ∈ addR l r, k.1 ≤ r.1) ∧ (∀ T, (∀ k ∈ l, k.1 + k.2 ≤ T) → r.1 + r.2 ≤ T → ∀ k ∈ addR l r, k.1 + k.2 ≤ T) := by
  rcases nil_or l with rfl | ⟨i, k, rfl⟩
  · rw [addR_nil]
    refine ⟨⟨fun x hx => ?_, List.pairwise_singleton _ _⟩, fun n => ?_, fun x hx => ?_, fun T _ hT x hx => ?_⟩
    · obtain rfl := List.mem_singleton.1 hx; exact ⟨h0, h1, h2⟩
    · rw [mem_one]; simp [mem_nil]
    · obtain rfl := List.mem_singleton.1 hx; exact Int.le_refl _
    · obtain rfl := List.mem_singleton.1 hx; exact hT
  · obtain ⟨hv, hp⟩ := hl
    rw [List.pairwise_append] at hp
    obtain ⟨hp1, _, hp2⟩ := hp
    have hk := hv k (by simp)
    have hkr := hs k (by simp)
    by_cases h : r.1 ≤ k.1 + k.2
    · rw [addR_on i k r h]
      obtain ⟨m, hm⟩ : ∃ m, m = max k.2 (r.1 + r.2 - k.1) := ⟨_, rfl⟩
      rw [← hm]
      have hm1 : k.2 ≤ m ∧ r.1 + r.2 - k.1 ≤ m ∧ (m = k.2 ∨ m = r.1 + r.2 - k.1) := by omega
      refine ⟨⟨fun x hx => ?_, ?_⟩, fun n => ?_, fun x hx => ?_, fun T hl hT x hx => ?_⟩
      · rcases List.mem_append.1 hx with hx | hx
        · exact hv x (by simp [hx])
        · obtain rfl := List.mem_singleton.1 hx
          simp only
          omega
      · rw [List.pairwise_append]
        refine ⟨hp1, List.pairwise_singleton _ _, fun a ha b hb => ?_⟩
        obtain rfl := List.mem_singleton.1 hb
        exact hp2 a ha k (by simp)
      · rw [mem_append, mem_append, mem_one, mem_one]
        simp only
        constructor
        · rintro (h | h)
          · exact .inl (.inl h)
          · by_cases h3 : n < k.1 + k.2
            · exact .inl (.inr (by omega))
            · exact .inr (by omega)
        · rintro ((h | h) | h)
          · exact .inl h
          · exact .inr (by omega)
          · exact .inr (by omega)
      · rcases List.mem_append.1 hx with hx | hx
        · exact hs x (by simp [hx])
        · obtain rfl := List.mem_singleton.1 hx
          exact hkr
      · rcases List.mem_append.1 hx with hx | hx
        · exact hl x (by simp [hx])
        · obtain rfl := List.mem_singleton.1 hx
          have := hl k (by simp)
          simp only
          omega
    · rw [addR_off i k r h]
      refine ⟨⟨fun x hx => ?_, ?_⟩, fun n => ?_, fun x hx => ?_, fun T hl hT x hx => ?_⟩
      · rcases List.mem_append.1 hx with hx | hx
        · exact hv x hx
        · obtain rfl := List.mem_singleton.1 hx
          exact ⟨h0, h1, h2⟩
      · rw [List.pairwise_append]
        refine ⟨by rw [List.pairwise_append]; exact ⟨hp1, List.pairwise_singleton _ _, hp2⟩, List.pairwise_singleton _ _, fun a ha b hb => ?_⟩
        obtain rfl := List.mem_singleton.1 hb
        rcases List.mem_append.1 ha with ha | ha
        · have := hp2 a ha k (by simp)
          omega
        · obtain rfl := List.mem_singleton.1 ha
          omega
      · rw [mem_append, mem_one]
      · rcases List.mem_append.1 hx with hx | hx
        · exact hs x hx
        · obtain rfl := List.mem_singleton.1 hx
          exact Int.le_refl _
      · rcases List.mem_append.1 hx with hx | hx
        · exact hl x hx
        · obtain rfl := List.mem_singleton.1 hx
          exact hT

/-- the ends of a list of ranges -/
def ends : List Rn → List Int
  | [] => []
  | r :: l => r.1 :: (r.1 + r.2) :: ends l
theorem ends_append (a b : List Rn) : ends (a ++ b) = ends a ++ ends b := by
  induction a with
  | nil => rfl
  | cons r a ih => simp [ends, ih]
theorem ends_length (l : List Rn) : (ends l).length = 2 * l.length := by
  induction l with
  | nil => rfl
  | cons r a ih => simp [ends, ih]; omega
theorem ends_in (l : List Rn) (h : NF l) : ∀ e ∈ ends l, 0 ≤ e ∧ e ≤ 1073741824 := by
  replace h := h.1
  induction l with
  | nil => intro e he; cases he
  | cons r l ih =>
    intro e he
    have hr := h r (by simp)
    simp only [ends, List.mem_cons] at he
    rcases he with rfl | rfl | he
    · omega
    · omega
    · exact ih (fun x hx => h x (by simp [hx])) e he
theorem ends_above (l : List Rn) (h : NF l) (t : Int) (ht : ∀ r ∈ l, t < r.1) : ∀ e ∈ ends l, t < e := by
  replace h := h.1
  induction l with
  | nil => intro e he; cases he
  | cons r l ih =>
    intro e he
    have hr := h r (by simp)
    have hr2 := ht r (by simp)
    simp only [ends, List.mem_cons] at he
    rcases he with rfl | rfl | he
    · exact hr2
    · omega
    · exact ih (fun x hx => ht x (by simp [hx])) (fun x hx => h x (by simp [hx])) e he
theorem nf_tail {r : Rn} {l : List Rn} (h : NF (r :: l)) : NF l := ⟨fun x hx => h.1 x (by simp [hx]), (List.pairwise_cons.1 h.2).2⟩
theorem ends_asc (l : List Rn) (h : NF l) : (ends l).Pairwise (· < ·) := by
  induction l with
  | nil => exact List.Pairwise.nil
  | cons r l ih =>
    have ht := nf_tail h
    have hr := h.1 r (by simp)
    have hab := ends_above l ht (r.1 + r.2) (fun x hx => (List.pairwise_cons.1 h.2).1 x hx)
    simp only [ends]
    refine List.pairwise_cons.2 ⟨fun e he => ?_, List.pairwise_cons.2 ⟨fun e he => hab e he, ih ht⟩⟩
    rcases List.mem_cons.1 he with rfl | he
    · omega
    · have := hab e he; omega
theorem asc_at {E : List Int} (h : E.Pairwise (· < ·)) {i j : Nat} (hij : i < j) (hj : j < E.length) : E[i]?.getD 0 < E[j]?.getD 0 := by
  rw [List.getElem?_eq_getElem hj, List.getElem?_eq_getElem (by omega : i < E.length)]
  exact List.pairwise_iff_getElem.1 h i j (by omega) hj hij
/-- a number is in the set exactly if an odd number of ends is at or ahead of it -/
theorem mem_odd (l : List Rn) (h : NF l) (n : Int) (p : Nat) (hp : p ≤ (ends l).length) (h1 : ∀ i, i < p → (ends l)[i]?.getD 0 ≤ n) (h2 : ∀ i, p ≤ i → i < (ends l).length → n < (ends l)[i]?.getD 0) : Mem l n ↔ p % 2 = 1 := by
  induction l generalizing p with
  | nil =>
    simp [ends] at hp
    subst hp
    simp [mem_nil]
  | cons r l ih =>
    have ht := nf_tail h
    have hr := h.1 r (by simp)
    have hab := ends_above l ht (r.1 + r.2) (fun x hx => (List.pairwise_cons.1 h.2).1 x hx)
    have hno : n < r.1 + r.2 → ¬ Mem l n := fun hn ⟨x, hx, hx1, hx2⟩ => by
      have := (List.pairwise_cons.1 h.2).1 x hx
      omega
    rw [mem_cons]
    have hlen : (ends (r :: l)).length = (ends l).length + 2 := by simp [ends]
    match p, hp, h1, h2 with
    | 0, hp, h1, h2 =>
      have := h2 0 (by omega) (by omega)
      simp [ends] at this
      constructor
      · rintro (h | h)
        · omega
        · exact absurd h (hno (by omega))
      · intro h; omega
    | 1, hp, h1, h2 =>
      have a1 := h1 0 (by omega)
      have a2 := h2 1 (by omega) (by omega)
      simp [ends] at a1 a2
      exact ⟨fun _ => rfl, fun _ => .inl ⟨a1, a2⟩⟩
    | q + 2, hp, h1, h2 =>
      have a2 := h1 1 (by omega)
      simp [ends] at a2
      have := ih ht q (by omega) (fun i hi => by have := h1 (i + 2) (by omega); simpa [ends] using this) (fun i hi hi2 => by have := h2 (i + 2) (by omega) (by omega); simpa [ends] using this)
      rw [this]
      constructor
      · rintro (h | h)
        · omega
        · omega
      · intro h; exact .inr (by omega)

/-- normal forms of one set are one -/
theorem nf_unique (a b : List Rn) (ha : NF a) (hb : NF b) (h : ∀ n, Mem a n ↔ Mem b n) : a = b := by
  induction a generalizing b with
  | nil =>
    cases b with
    | nil => rfl
    | cons r b =>
      have hr := hb.1 r (by simp)
      exact absurd ((h r.1).2 (by rw [mem_cons]; exact .inl ⟨Int.le_refl _, by omega⟩)) (mem_nil _)
  | cons r a ih =>
    cases b with
    | nil =>
      have hr := ha.1 r (by simp)
      exact absurd ((h r.1).1 (by rw [mem_cons]; exact .inl ⟨Int.le_refl _, by omega⟩)) (mem_nil _)
    | cons s b =>
      have hr := ha.1 r (by simp)
      have hs := hb.1 s (by simp)
      have ra := (List.pairwise_cons.1 ha.2).1
      have sb := (List.pairwise_cons.1 hb.2).1
      have na : ∀ n, n ≤ r.1 + r.2 → ¬ Mem a n := fun n hn ⟨x, hx, h1, h2⟩ => by have := ra x hx; omega
      have nb : ∀ n, n ≤ s.1 + s.2 → ¬ Mem b n := fun n hn ⟨x, hx, h1, h2⟩ => by have := sb x hx; omega
      have lo : r.1 = s.1 := by
        rcases Int.lt_trichotomy r.1 s.1 with h1 | h1 | h1
        · have := (h r.1).1 (by rw [mem_cons]; exact .inl ⟨Int.le_refl _, by omega⟩)
          rw [mem_cons] at this
          rcases this with h2 | h2
          · omega
          · exact absurd h2 (nb _ (by omega))
        · exact h1
        · have := (h s.1).2 (by rw [mem_cons]; exact .inl ⟨Int.le_refl _, by omega⟩)
          rw [mem_cons] at this
          rcases this with h2 | h2
          · omega
          · exact absurd h2 (na _ (by omega))
      have hi : r.1 + r.2 = s.1 + s.2 := by
        rcases Int.lt_trichotomy (r.1 + r.2) (s.1 + s.2) with h1 | h1 | h1
        · have := (h (r.1 + r.2)).2 (by rw [mem_cons]; exact .inl ⟨by omega, by omega⟩)
          rw [mem_cons] at this
          rcases this with h2 | h2
          · omega
          · exact absurd h2 (na _ (by omega))
        · exact h1
        · have := (h (s.1 + s.2)).1 (by rw [mem_cons]; exact .inl ⟨by omega, by omega⟩)
          rw [mem_cons] at this
          rcases this with h2 | h2
          · omega
          · exact absurd h2 (nb _ (by omega))
      have e : r = s := by
        obtain ⟨r1, r2⟩ := r
        obtain ⟨s1, s2⟩ := s
        simp only at lo hi
        subst lo
        have : r2 = s2 := by omega
        rw [this]
      subst e
      rw [ih b (nf_tail ha) (nf_tail hb) fun n => ?_]
      have := h n
      rw [mem_cons, mem_cons] at this
      by_cases hn : n ≤ r.1 + r.2
      · exact ⟨fun hm => absurd hm (na n hn), fun hm => absurd hm (nb n hn)⟩
      · constructor
        · intro hm
          rcases this.1 (.inr hm) with h1 | h1
          · omega
          · exact h1
        · intro hm
          rcases this.2 (.inr hm) with h1 | h1
          · omega
          · exact h1
/-- the fold of the normal form -/
def nrm (acc : List Rn) : List Rn → List Rn
  | [] => acc
  | r :: l => nrm (if 0 < r.2 then addR acc r else acc) l
theorem nrm_snoc (acc l : List Rn) (r : Rn) : nrm acc (l ++ [r]) = if 0 < r.2 then addR (nrm acc l) r else nrm acc l := by
  induction l generalizing acc with
  | nil => rfl
  | cons x l ih => simp only [List.cons_append, nrm]; exact ih _
end Go.Proofs.Ytgfdmeaganhpiaa.Old
