/- An array of disks as one object of the engine. No conditions but those of each theorem. -/
import Derived.Test.YtbgbjgedjmhcaaaSyZ
import Derived.Test.YtbgbjgedjmhcaaaOD
namespace Go.Proofs.Ytbgbjgedjmhcaaa
open Go.RowKit
open OldD (DA Dk Co fp Gr Row BM gb gu fp_cases fp_A fp_m fp_u fp_f fp_n fp_d Fresh)
set_option linter.unusedVariables false
set_option linter.unusedSimpArgs false
theorem own_heq {w w' : World} {base : Nat} {e : TypeId} {size : Nat} {v : Value} {n : Nat} {xs : List Value} (he : w'.heap = w.heap) (h : w.ownsRow base e size v n xs) : w'.ownsRow base e size v n xs := by
  refine ⟨h.1, ?_⟩
  rcases h.2 with hn | ⟨g, cap, cur, rfl, hb, hgg, rest⟩
  · exact .inl hn
  · exact .inr ⟨g, cap, cur, rfl, hb, by rw [he]; exact hgg, rest⟩
theorem BM_heq {w w' : World} {b n : Nat} {bad : Int → Int → Bool} (he : w'.heap = w.heap) (h : BM w b n bad) : BM w' b n bad := by
  obtain ⟨D, ⟨es, clock, hb, F, hs, hD⟩, h2⟩ := h
  exact ⟨D, ⟨es, clock, by rw [he]; exact hb, F, hs, hD⟩, h2⟩
theorem DA_heq {W W' : World} {A : Nat} {c : Co} {k : Dk} (e : W'.heap = W.heap) (h : DA W A c k) : DA W' A c k where
  blk := own_heq e h.blk
  ru := own_heq e h.ru
  rf := own_heq e h.rf
  mp := BM_heq e h.mp
  rn i hi := own_heq e (h.rn i hi)
  rd i hi := own_heq e (h.rd i hi)
  lb := h.lb
  ld := h.ld
  b8 := h.b8
  bn := h.bn
  fi := h.fi
  sep := h.sep
theorem DA_uniq {W : World} {A : Nat} {c c' : Co} {k k' : Dk} (h : DA W A c k) (h' : DA W A c' k') : ∀ b, b ∈ fp A c' → b ∈ fp A c := by
  have e0 := h.c0.symm.trans h'.c0
  have e1 := h.c1.symm.trans h'.c1
  have e2 := h.c2.symm.trans h'.c2
  simp only [Option.some.injEq, Value.slice.injEq, Value.map.injEq] at e0 e1 e2
  intro b hb
  rcases fp_cases hb with rfl | rfl | hb | hb | ⟨i, hi, hb⟩
  · exact fp_A
  · rw [← e1]; exact fp_m
  · exact fp_u (by rw [e0.1]; exact hb)
  · exact fp_f (by rw [e2.1]; exact hb)
  · rw [h'.lb] at hi
    have hi2 : i < k.U.length := by omega
    obtain ⟨u, h1, h2, h3, h4, h5, h6⟩ := h.unit hi2
    obtain ⟨u', g1, g2, g3, g4, g5, g6⟩ := h'.unit hi
    rw [e0.1, g1] at h1
    simp only [Option.some.injEq, Addr.mk.injEq, and_true] at h1
    subst h1
    have e3 := h3.symm.trans g3
    have e4 := h4.symm.trans g4
    simp only [Option.some.injEq, Value.slice.injEq, Addr.mk.injEq, and_true] at e3 e4
    rcases hb with hb | hb
    · rw [hb, ← e3.1]; exact fp_n (by rw [h.lb]; exact hi2)
    · rw [hb, ← e4.1]; exact fp_d (by rw [h.lb]; exact hi2)
/-- an array whose map of bad sectors has at most m entries -/
def dbox (m : Nat) (k : Dk) : Box where
  ok H A := ∃ W c, W.heap = H ∧ DA W A c k ∧ c.mn ≤ m
  foot H A b := ∃ W c k', W.heap = H ∧ DA W A c k' ∧ b ∈ fp A c
  lt := by
    rintro H a b _ ⟨W, c, k', rfl, h, hb⟩
    exact h.fp_lt b hb
  kept := by
    rintro H H' a ⟨W, c, rfl, h, hm⟩ hs hk
    have hg : Gr ((List.range W.heap.size).filter fun b => decide (b ∉ fp a c)) W { W with heap := H' } := ⟨rfl, rfl, rfl, hs, fun b hlt hn => by
      refine hk b ⟨W, c, k, rfl, h, ?_⟩
      simp only [List.mem_filter, List.mem_range, decide_eq_true_eq, not_and, Classical.not_not] at hn
      exact hn hlt⟩
    have h2 := h.gr hg (fun x hx hf => by
      simp only [List.mem_filter, List.mem_range, decide_eq_true_eq] at hf
      exact hf.2 hx)
    refine ⟨⟨_, c, rfl, h2, hm⟩, ?_⟩
    rintro b ⟨W', c', k', e, h', hb⟩
    exact ⟨W, c, k, rfl, h, DA_uniq h2 (DA_heq (W' := { W with heap := H' }) e.symm h') b hb⟩
theorem dbox_open {E : Env} {W : World} {id m : Nat} {k : Dk} {c : Value} (hh : Holds E W id (.box (dbox m k))) (hc : RV E (.ptr id 0 0 0) c) :
    ∃ A co kk, c = .pointer (some ⟨A, 0, none⟩) ∧ E id = some (some ⟨A, 0, none⟩, kk) ∧ DA W A co k ∧ co.mn ≤ m ∧ ∀ b, Foot E W id (.box (dbox m k)) b ↔ b ∈ fp A co := by
  obtain ⟨A, kk, h1, W1, co, h2, h3, h4⟩ := hh
  simp only [RV] at hc
  obtain ⟨a, k2, h5, rfl⟩ := hc
  rw [h1] at h5
  simp only [Option.some.injEq, Prod.mk.injEq] at h5
  obtain ⟨rfl, rfl⟩ := h5
  have hd := DA_heq (W' := W) h2.symm h3
  refine ⟨A, co, kk, rfl, h1, hd, h4, fun b => ⟨?_, fun hb => ⟨A, by simp [blkOf, h1], W, co, k, rfl, hd, hb⟩⟩⟩
  rintro ⟨a, h6, W2, c2, k2, h7, h8, h9⟩
  simp only [blkOf, h1, Option.some.injEq] at h6
  subst h6
  exact DA_uniq hd (DA_heq (W' := W) h7.symm h8) b h9
theorem dbox_holds {E : Env} {W : World} {id m A kk : Nat} {co : Co} {k : Dk} (h1 : E id = some (some ⟨A, 0, none⟩, kk)) (h : DA W A co k) (hm : co.mn ≤ m) : Holds E W id (.box (dbox m k)) ∧ ∀ b, Foot E W id (.box (dbox m k)) b → b ∈ fp A co := by
  refine ⟨⟨A, kk, h1, W, co, rfl, h, hm⟩, ?_⟩
  rintro b ⟨a, h6, W2, c2, k2, h7, h8, h9⟩
  simp only [blkOf, h1, Option.some.injEq] at h6
  subst h6
  exact DA_uniq h (DA_heq (W' := W) h7.symm h8) b h9
theorem find1 {n id : Nat} {o o' : Ob} (h : find [(n, o)] id = some o') : id = n ∧ o' = o := by
  unfold find at h
  by_cases e : n = id
  · rw [if_pos (by simpa using e)] at h; exact ⟨e.symm, (Option.some.inj h).symm⟩
  · rw [if_neg (by simpa using e)] at h; simp [find] at h
/-- a call that changes nothing but the array, as a contract -/
theorem dk_call {g : FuncId} {args : List AV} {cargs : List Value} {m m' : Nat} {k k' : Dk} {ret : AV} {cret : Value} (hent : ∀ cargs w, (callFunc g cargs).run Try.prog w = .ok (.enter g cargs) w)
    (hargs : ∀ E cs, RVs E args cs → cs = cargs) (hret : ∀ E, RV E ret cret)
    (H : ∀ W A c, DA W A c k → c.mn ≤ m → Calls Try.prog g (Value.pointer (some ⟨A, 0, none⟩) :: cargs).toArray W fun e W' => e = .returned cret ∧ ∃ c', DA W' A c' k' ∧ c'.mn ≤ m' ∧ Gr (fp A c) W W' ∧ Fresh W A c c') :
    CallOK Try.prog g (.ptr 0 0 0 0 :: args) [(0, .box (dbox m k))] ret [(0, some (.box (dbox m' k')))] := by
  refine ⟨hent, fun E W cs hcs rh hn => ?_⟩
  simp only [RVs] at hcs
  obtain ⟨y, l, rfl, hy, hl⟩ := hcs
  obtain rfl := hargs E l hl
  obtain ⟨A, co, kk, rfl, h1, h2, h3, h4⟩ := dbox_open (rh.holds 0 _ rfl) hy
  refine (H W A co h2 h3).mono ?_
  rintro e W' ⟨rfl, c', q1, q2, q3, q4⟩
  obtain ⟨p1, p2⟩ := dbox_holds (E := E) h1 q1 q2
  refine ⟨cret, E, rfl, Ext.refl E, hret E, ⟨fun id o ho => ?_, fun i j o p hi hj hne => ?_⟩, ⟨q3.os, q3.tape, q3.output, q3.size, fun b hlt hno => ?_, fun id o b ho hb => ?_⟩⟩
  · obtain ⟨rfl, rfl⟩ := find1 (n := 0) ho; exact p1
  · exact absurd ((find1 (n := 0) hi).1.trans (find1 (n := 0) hj).1.symm) hne
  · exact q3.block b hlt fun hb => hno 0 _ rfl rfl ((h4 b).2 hb)
  · obtain ⟨rfl, rfl⟩ := find1 (n := 0) ho
    rcases q4 b (p2 b hb) with h | h
    · exact .inl ⟨0, _, rfl, fun _ => rfl, (h4 b).2 h⟩
    · exact .inr h
end Go.Proofs.Ytbgbjgedjmhcaaa
