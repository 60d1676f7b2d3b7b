/- The program's Load (over a map of bad sectors that is empty). No conditions but those of each theorem. -/
import Derived.Test.YtfaeieeokelokaaT
import Derived.Laws.IdiomRangeMap
namespace Go.Proofs.Ytfaeieeokelokaa
open Go.ChangeShapes Go.WideShapes Go.ChangeAt Go.RowKit
set_option linter.unusedVariables false
set_option linter.unusedSimpArgs false
section
variable {W W' : World} {A : Nat} {c : Co} {k : Dk}
theorem DA.rowN (h : DA W A c k) {d : Nat} (hd : d < k.U.length) {X : List Int} (hg : Gr [(gb c.bs d).n] W W') (hr : Row W' (gb c.bs d).n (gb c.bs d).cn X) (hl : X.length = (gu k.U d).now.length) :
    DA W' A c { k with U := k.U.set d { gu k.U d with now := X } } := by
  have hd' : d < c.bs.length := by rw [h.lb]; exact hd
  refine h.setU _ (by simp) hg (fun x hx => by obtain rfl := List.mem_singleton.1 hx; exact h.sep.n1 d hd') (fun i hi => ?_) (fun i hi => ?_) (fun i hi => ?_)
  · have hi' : i < k.U.length := by simpa using hi
    rw [gu_set]
    by_cases e : i = d
    · subst e; rw [if_pos ⟨rfl, hi'⟩]; exact ⟨hl, rfl, by show (gu k.U i).dur.length = X.length; rw [hl]; exact h.ld i hi'⟩
    · rw [if_neg (by omega)]; exact ⟨rfl, rfl, h.ld i hi'⟩
  · have hi' : i < k.U.length := by simpa using hi
    rw [gu_set]
    by_cases e : i = d
    · subst e; rw [if_pos ⟨rfl, hi'⟩]; exact hr
    · rw [if_neg (by omega)]
      exact (h.rn i hi').gr hg (fun x => (h.sep.nn i d (by rw [h.lb]; exact hi') hd' e).1 (List.mem_singleton.1 x))
  · have hi' : i < k.U.length := by simpa using hi
    have e2 : (gu (k.U.set d { gu k.U d with now := X }) i).dur = (gu k.U i).dur := by
      rw [gu_set]
      by_cases e : i = d
      · subst e; rw [if_pos ⟨rfl, hi'⟩]
      · rw [if_neg (by omega)]
    rw [e2]
    exact (h.rd i hi').gr hg (fun x => h.sep.nd d i hd' (by rw [h.lb]; exact hi') (List.mem_singleton.1 x).symm)
theorem DA.rowD (h : DA W A c k) {d : Nat} (hd : d < k.U.length) {X : List Int} (hg : Gr [(gb c.bs d).d] W W') (hr : Row W' (gb c.bs d).d (gb c.bs d).cd X) (hl : X.length = (gu k.U d).now.length) :
    DA W' A c { k with U := k.U.set d { gu k.U d with dur := X } } := by
  have hd' : d < c.bs.length := by rw [h.lb]; exact hd
  refine h.setU _ (by simp) hg (fun x hx => by obtain rfl := List.mem_singleton.1 hx; exact h.sep.d1 d hd') (fun i hi => ?_) (fun i hi => ?_) (fun i hi => ?_)
  · have hi' : i < k.U.length := by simpa using hi
    rw [gu_set]
    by_cases e : i = d
    · subst e; rw [if_pos ⟨rfl, hi'⟩]; exact ⟨rfl, rfl, hl⟩
    · rw [if_neg (by omega)]; exact ⟨rfl, rfl, h.ld i hi'⟩
  · have hi' : i < k.U.length := by simpa using hi
    have e2 : (gu (k.U.set d { gu k.U d with dur := X }) i).now = (gu k.U i).now := by
      rw [gu_set]
      by_cases e : i = d
      · subst e; rw [if_pos ⟨rfl, hi'⟩]
      · rw [if_neg (by omega)]
    rw [e2]
    exact (h.rn i hi').gr hg (fun x => h.sep.nd i d (by rw [h.lb]; exact hi') hd' (List.mem_singleton.1 x))
  · have hi' : i < k.U.length := by simpa using hi
    rw [gu_set]
    by_cases e : i = d
    · subst e; rw [if_pos ⟨rfl, hi'⟩]; exact hr
    · rw [if_neg (by omega)]
      exact (h.rd i hi').gr hg (fun x => (h.sep.nn i d (by rw [h.lb]; exact hi') hd' e).2 (List.mem_singleton.1 x))
end
/-- an empty map: nothing is deleted -/
theorem delf_ok {W : World} {b : Nat} {bad : Int → Int → Bool} (h : BM W b 0 bad) (x : Value) :
    Calls Try.prog 62 #[.map (some b), x] W fun e W' => e = .returned (.tuple #[]) ∧ Below W.heap.size W W' := by
  obtain ⟨D, ⟨es, clock, hb, hF, hs, hD⟩, _⟩ := h
  obtain rfl : es = #[] := by
    have : es.size = 0 := by omega
    exact Array.size_eq_zero_iff.1 this
  have hr := run_range_map (P := Try.prog) W 74 83 99 b #[] clock Try.underlying74 hb
  have hn : ∀ ty, (Instr.next (.pointer (some ⟨W.heap.size, 0, none⟩)) false ty).run Try.prog (W.alloc (.mapIter (some b) clock #[] clock)) = .ok (.tuple #[.bool false]) (W.alloc (.mapIter (some b) clock #[] clock)) := fun ty => by
    rcases run_next_map (P := Try.prog) W ty b clock clock #[] #[] clock hb (fun x hx => by simp at hx) (Nat.le_refl _) with ⟨_, h⟩ | ⟨e, he, _⟩
    · exact h
    · simp [leftOf] at he
  have hB := hid ((Below.refl W.heap.size W).alloc (Nat.le_refl _) (.mapIter (some b) clock #[] clock))
  clear hb hF hs hD
  go_enter Try.func62, Try.ntmps62
  go_wp2_with fail
  generalize W.alloc (.mapIter (some b) clock #[] clock) = W1 at *
  go_loopw [9] (fun _ wr => wr = W1) (fun _ _ => 0)
  case atStart => exact rfl
  case round =>
    obtain rfl := hrel
    go_wp2_with fail
    go_end0
    exact ⟨rfl, hB.out⟩
end Go.Proofs.Ytfaeieeokelokaa
