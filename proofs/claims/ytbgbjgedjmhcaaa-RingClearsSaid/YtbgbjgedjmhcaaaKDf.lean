/- What the law needs, one text behind the other. No conditions but those of each theorem. -/
import Derived.KernelRfl
import Derived.Test.YtbgbjgedjmhcaaaRows
import Derived.WalkKit
import Derived.ProofKit
import Derived.OpenShut
import Derived.LoopTactic
import Derived.Outline
import Derived.Below
import Derived.WalkLawsBesides
import Derived.WalkSpells
import Derived.Deep.QuietTactic
import Derived.BigQuiet
import Derived.Laws.BitsAllLaws
import Derived.Laws.OwnMore
import Derived.Laws.AppendOwn
import Derived.OwnWalk
import Derived.Lib.SmallJoins
import Derived.StillTailTactics
import Derived.RangeFuncBox
import Derived.RangeFuncLeaves
import Derived.RangeFuncFrom
import Derived.RangeFuncWrites
import Derived.Shelf.Abstract
import Derived.Shelf.RegionOpen
import Derived.OwnWalkIn
import Derived.TacticsInMore
import Derived.LoopNIn
import Derived.LoopIn
import Derived.Laws.AppendOwnNone
import Derived.Maps.AppendAt
import Derived.RangeFuncNested
import Derived.StillTail
import Derived.OrdersIn
import Derived.CallsIn
import Derived.Deep.AppendLies
import Derived.Test.YtbgbjgedjmhcaaaKDe
set_option linter.unnecessarySimpa false
set_option linter.unusedSimpArgs false
set_option linter.unusedVariables false
set_option maxHeartbeats 16000000
set_option maxRecDepth 10000
namespace Go.Proofs.Ytbgbjgedjmhcaaa
open Go.RowKit
open OldD (DA Dk Co fp Gr Row BM gb gu fp_cases fp_A fp_m fp_u fp_f fp_n fp_d Fresh)
theorem own_heq {w w' : World} {base : Nat} {e : TypeId} {size : Nat} {v : Value} {n : Nat} {xs : List Value} (he : w'.heap = w.heap) (h : w.ownsRow base e size v n xs) : w'.ownsRow base e size v n xs := by
  refine ⟨h.1, ?_⟩
  rcases h.2 with hn | ⟨g, cap, cur, rfl, hb, hgg, rest⟩
  · exact .inl hn
  · exact .inr ⟨g, cap, cur, rfl, hb, by rw [he]; exact hgg, rest⟩
theorem BM_heq {w w' : World} {b n : Nat} {bad : Int → Int → Bool} (he : w'.heap = w.heap) (h : BM w b n bad) : BM w' b n bad := by
  obtain ⟨D, ⟨es, clock, hb, F, hs, hD⟩, h2⟩ := h
  exact ⟨D, ⟨es, clock, by rw [he]; exact hb, F, hs, hD⟩, h2⟩
theorem DA_heq {W W' : World} {A : Nat} {c : Co} {k : Dk} (e : W'.heap = W.heap) (h : DA W A c k) : DA W' A c k where
  blk := own_heq e h.blk
  ru := own_heq e h.ru
  rf := own_heq e h.rf
  mp := BM_heq e h.mp
  rn i hi := own_heq e (h.rn i hi)
  rd i hi := own_heq e (h.rd i hi)
  lb := h.lb
  ld := h.ld
  b8 := h.b8
  bn := h.bn
  fi := h.fi
  sep := h.sep
theorem DA_uniq {W : World} {A : Nat} {c c' : Co} {k k' : Dk} (h : DA W A c k) (h' : DA W A c' k') : ∀ b, b ∈ fp A c' → b ∈ fp A c := by
  have e0 := h.c0.symm.trans h'.c0
  have e1 := h.c1.symm.trans h'.c1
  have e2 := h.c2.symm.trans h'.c2
  simp only [Option.some.injEq, Value.slice.injEq, Value.map.injEq] at e0 e1 e2
  intro b hb
  rcases fp_cases hb with rfl | rfl | hb | hb | ⟨i, hi, hb⟩
  · exact fp_A
  · rw [← e1]; exact fp_m
  · exact fp_u (by rw [e0.1]; exact hb)
  · exact fp_f (by rw [e2.1]; exact hb)
  · rw [h'.lb] at hi
    have hi2 : i < k.U.length := by omega
    obtain ⟨u, h1, h2, h3, h4, h5, h6⟩ := h.unit hi2
    obtain ⟨u', g1, g2, g3, g4, g5, g6⟩ := h'.unit hi
    rw [e0.1, g1] at h1
    simp only [Option.some.injEq, Addr.mk.injEq, and_true] at h1
    subst h1
    have e3 := h3.symm.trans g3
    have e4 := h4.symm.trans g4
    simp only [Option.some.injEq, Value.slice.injEq, Addr.mk.injEq, and_true] at e3 e4
    rcases hb with hb | hb
    · rw [hb, ← e3.1]; exact fp_n (by rw [h.lb]; exact hi2)
    · rw [hb, ← e4.1]; exact fp_d (by rw [h.lb]; exact hi2)
def dbox (m : Nat) (k : Dk) : Box where
  ok H A := ∃ W c, W.heap = H ∧ DA W A c k ∧ c.mn ≤ m
  foot H A b := ∃ W c k', W.heap = H ∧ DA W A c k' ∧ b ∈ fp A c
  lt := by
    rintro H a b _ ⟨W, c, k', rfl, h, hb⟩
    exact h.fp_lt b hb
  kept := by
    rintro H H' a ⟨W, c, rfl, h, hm⟩ hs hk
    have hg : Gr ((List.range W.heap.size).filter fun b => decide (b ∉ fp a c)) W { W with heap := H' } := ⟨rfl, rfl, rfl, hs, fun b hlt hn => by
      refine hk b ⟨W, c, k, rfl, h, ?_⟩
      simp only [List.mem_filter, List.mem_range, decide_eq_true_eq, not_and, Classical.not_not] at hn
      exact hn hlt⟩
    have h2 := h.gr hg (fun x hx hf => by
      simp only [List.mem_filter, List.mem_range, decide_eq_true_eq] at hf
      exact hf.2 hx)
    refine ⟨⟨_, c, rfl, h2, hm⟩, ?_⟩
    rintro b ⟨W', c', k', e, h', hb⟩
    exact ⟨W, c, k, rfl, h, DA_uniq h2 (DA_heq (W' := { W with heap := H' }) e.symm h') b hb⟩
theorem dbox_open {E : Env} {W : World} {id m : Nat} {k : Dk} {c : Value} (hh : Holds E W id (.box (dbox m k))) (hc : RV E (.ptr id 0 0 0) c) :
    ∃ A co kk, c = .pointer (some ⟨A, 0, none⟩) ∧ E id = some (some ⟨A, 0, none⟩, kk) ∧ DA W A co k ∧ co.mn ≤ m ∧ ∀ b, Foot E W id (.box (dbox m k)) b ↔ b ∈ fp A co := by
  obtain ⟨A, kk, h1, W1, co, h2, h3, h4⟩ := hh
  simp only [RV] at hc
  obtain ⟨a, k2, h5, rfl⟩ := hc
  rw [h1] at h5
  simp only [Option.some.injEq, Prod.mk.injEq] at h5
  obtain ⟨rfl, rfl⟩ := h5
  have hd := DA_heq (W' := W) h2.symm h3
  refine ⟨A, co, kk, rfl, h1, hd, h4, fun b => ⟨?_, fun hb => ⟨A, by simp [blkOf, h1], W, co, k, rfl, hd, hb⟩⟩⟩
  rintro ⟨a, h6, W2, c2, k2, h7, h8, h9⟩
  simp only [blkOf, h1, Option.some.injEq] at h6
  subst h6
  exact DA_uniq hd (DA_heq (W' := W) h7.symm h8) b h9
theorem dbox_holds {E : Env} {W : World} {id m A kk : Nat} {co : Co} {k : Dk} (h1 : E id = some (some ⟨A, 0, none⟩, kk)) (h : DA W A co k) (hm : co.mn ≤ m) : Holds E W id (.box (dbox m k)) ∧ ∀ b, Foot E W id (.box (dbox m k)) b → b ∈ fp A co := by
  refine ⟨⟨A, kk, h1, W, co, rfl, h, hm⟩, ?_⟩
  rintro b ⟨a, h6, W2, c2, k2, h7, h8, h9⟩
  simp only [blkOf, h1, Option.some.injEq] at h6
  subst h6
  exact DA_uniq h (DA_heq (W' := W) h7.symm h8) b h9
theorem find1 {n id : Nat} {o o' : Ob} (h : find [(n, o)] id = some o') : id = n ∧ o' = o := by
  unfold find at h
  by_cases e : n = id
  · rw [if_pos (by simpa using e)] at h; exact ⟨e.symm, (Option.some.inj h).symm⟩
  · rw [if_neg (by simpa using e)] at h; simp [find] at h
theorem dk_call {g : FuncId} {args : List AV} {cargs : List Value} {m m' : Nat} {k k' : Dk} {ret : AV} {cret : Value} (hent : ∀ cargs w, (callFunc g cargs).run Try.prog w = .ok (.enter g cargs) w)
    (hargs : ∀ E cs, RVs E args cs → cs = cargs) (hret : ∀ E, RV E ret cret)
    (H : ∀ W A c, DA W A c k → c.mn ≤ m → Calls Try.prog g (Value.pointer (some ⟨A, 0, none⟩) :: cargs).toArray W fun e W' => e = .returned cret ∧ ∃ c', DA W' A c' k' ∧ c'.mn ≤ m' ∧ Gr (fp A c) W W' ∧ Fresh W A c c') :
    CallOK Try.prog g (.ptr 0 0 0 0 :: args) [(0, .box (dbox m k))] ret [(0, some (.box (dbox m' k')))] := by
  refine ⟨hent, fun E W cs hcs rh hn => ?_⟩
  simp only [RVs] at hcs
  obtain ⟨y, l, rfl, hy, hl⟩ := hcs
  obtain rfl := hargs E l hl
  obtain ⟨A, co, kk, rfl, h1, h2, h3, h4⟩ := dbox_open (rh.holds 0 _ rfl) hy
  refine (H W A co h2 h3).mono ?_
  rintro e W' ⟨rfl, c', q1, q2, q3, q4⟩
  obtain ⟨p1, p2⟩ := dbox_holds (E := E) h1 q1 q2
  refine ⟨cret, E, rfl, Ext.refl E, hret E, ⟨fun id o ho => ?_, fun i j o p hi hj hne => ?_⟩, ⟨q3.os, q3.tape, q3.output, q3.size, fun b hlt hno => ?_, fun id o b ho hb => ?_⟩⟩
  · obtain ⟨rfl, rfl⟩ := find1 (n := 0) ho; exact p1
  · exact absurd ((find1 (n := 0) hi).1.trans (find1 (n := 0) hj).1.symm) hne
  · exact q3.block b hlt fun hb => hno 0 _ rfl rfl ((h4 b).2 hb)
  · obtain ⟨rfl, rfl⟩ := find1 (n := 0) ho
    rcases q4 b (p2 b hb) with h | h
    · exact .inl ⟨0, _, rfl, fun _ => rfl, (h4 b).2 h⟩
    · exact .inr h
end Go.Proofs.Ytbgbjgedjmhcaaa
namespace Go.Proofs.Ytbgbjgedjmhcaaa
open Go.RowKit Go.ChangeShapes Go.WideShapes Go.ChangeAt
open OldD (DA Dk Co fp Gr Row BM gb gu fp_cases fp_A fp_m fp_u fp_f fp_n fp_d Fresh hid hd hs has_ok hd_iff chk3 chk4 rdV wrE wrK flK)
def szV (k : Dk) (d : Int) : Int := if hd k d = true then ((gu k.U d.toNat).now.length : Int) else 0
theorem size_ok {W : World} {A : Nat} {c : Co} {k : Dk} (h : DA W A c k) (d : Int) :
    Calls Try.prog 61 #[.pointer (some ⟨A, 0, none⟩), .int .i64 d] W fun e W' => e = .returned (.int .i64 (szV k d)) ∧ W' = W := by
  cases hh : hd k d with
  | false =>
    have HF := hid (has_ok h d)
    rw [hh] at HF
    have : szV k d = 0 := by simp [szV, hh]
    rw [this]
    clear h hh this
    go_enter Try.func61, Try.ntmps61
    go_wp2_with fail
    refine HF.out.mono ?_
    rintro e w1 ⟨rfl, rfl⟩
    go_wp2_with fail
    go_ret
    exact ⟨rfl, rfl⟩
  | true =>
    obtain ⟨n, rfl, hn⟩ := hd_iff.1 hh
    have : szV k (n : Int) = ((gu k.U n).now.length : Int) := by simp [szV, hh]
    rw [this]
    have HF := hid (has_ok h (n : Int))
    rw [hh] at HF
    have c0 := h.c0
    obtain ⟨ub, hub, hul, c1, -, -, -⟩ := h.unit hn
    rw [hub] at c0
    have hb8 := h.b8
    have hbn := h.bn n hn
    generalize (gu k.U n).now.length = len at *
    clear h hub hh this
    go_enter Try.func61, Try.ntmps61
    go_wp2_with fail
    refine HF.out.mono ?_
    rintro e w1 ⟨rfl, rfl⟩
    go_wp2_with fail
    go_ret
    exact ⟨rfl, rfl⟩
theorem size_c (m : Nat) (k : Dk) (d : Int) : CallOK Try.prog 61 [.ptr 0 0 0 0, I d] [(0, .box (dbox m k))] (I (szV k d)) [(0, some (.box (dbox m k)))] :=
  dk_call (cargs := [.int .i64 d]) (cret := .int .i64 (szV k d)) Try.call61 (fun E cs h => by simpa [RVs, RV, I] using h) (fun E => by simp [RV, I]) fun W A c h hm =>
    (size_ok h d).mono fun e W' ⟨he, hw⟩ => by subst hw; exact ⟨he, c, h, hm, Gr.refl _ _, Fresh.refl _ _ _⟩
theorem count_c (m : Nat) (k : Dk) : CallOK Try.prog 59 [.ptr 0 0 0 0] [(0, .box (dbox m k))] (I (k.U.length : Int)) [(0, some (.box (dbox m k)))] :=
  dk_call (cargs := []) (cret := .int .i64 (k.U.length : Int)) Try.call59 (fun E cs h => by simpa [RVs, RV, I] using h) (fun E => by simp [RV, I]) fun W A c h hm =>
    (OldD.count_ok h).mono fun e W' ⟨he, hw⟩ => by subst hw; exact ⟨he, c, h, hm, Gr.refl _ _, Fresh.refl _ _ _⟩
theorem read_c (m : Nat) (k : Dk) (d t : Int) : CallOK Try.prog 154 [.ptr 0 0 0 0, I d, I t] [(0, .box (dbox m k))] (.tup [.val (.int .u64 (rdV k d t)), I (chk4 k d t)]) [(0, some (.box (dbox m k)))] :=
  dk_call (cargs := [.int .i64 d, .int .i64 t]) (cret := .tuple #[.int .u64 (rdV k d t), .int .i64 (chk4 k d t)]) Try.call154 (fun E cs h => by
      simp only [RVs, RV, I] at h
      obtain ⟨_, _, rfl, rfl, _, _, rfl, rfl, rfl⟩ := h
      rfl) (fun E => by simp only [RV, RVs, I]; exact ⟨_, rfl, _, _, rfl, rfl, _, _, rfl, rfl, rfl⟩) fun W A c h hm =>
    (OldD.read_ok h d t).mono fun e W' ⟨he, hb⟩ => ⟨he, c, h.below hb, hm, Gr.of_below hb _, Fresh.refl _ _ _⟩
def Bd (k : Dk) : Prop := 0 ≤ k.fuse ∧ k.fuse ≤ 9223372036854775807 ∧ k.F.length ≤ 2 ^ 32 ∧ 0 ≤ k.wr ∧ k.wr ≤ 2 ^ 32
theorem write_c (m : Nat) (k : Dk) (d t v : Int) (hb : Bd k) : CallOK Try.prog 155 [.ptr 0 0 0 0, I d, I t, .val (.int .u64 v)] [(0, .box (dbox m k))] (I (wrE k d t)) [(0, some (.box (dbox m (wrK k d t v))))] :=
  dk_call (cargs := [.int .i64 d, .int .i64 t, .int .u64 v]) (cret := .int .i64 (wrE k d t)) Try.call155 (fun E cs h => by
      simp only [RVs, RV, I] at h
      obtain ⟨_, _, rfl, rfl, _, _, rfl, rfl, _, _, rfl, rfl, rfl⟩ := h
      rfl) (fun E => by simp only [RV, I]) fun W A c h hm =>
    (OldD.write_ok h d t v hb.1 hb.2.1 hb.2.2.1 hb.2.2.2.1 hb.2.2.2.2).mono fun e W' ⟨he, HH⟩ => by
      obtain ⟨c', h1, h2, h3, h4⟩ := HH.out
      exact ⟨he, c', h1, by omega, h2, h3⟩
theorem flush_c (m : Nat) (k : Dk) (d : Int) (hF : k.F.length ≤ 2 ^ 32) : CallOK Try.prog 153 [.ptr 0 0 0 0, I d] [(0, .box (dbox m k))] (I (chk3 k d 0)) [(0, some (.box (dbox m (flK k d))))] :=
  dk_call (cargs := [.int .i64 d]) (cret := .int .i64 (chk3 k d 0)) Try.call153 (fun E cs h => by simpa [RVs, RV, I] using h) (fun E => by simp [RV, I]) fun W A c h hm =>
    (OldD.flush_ok h d hF).mono fun e W' ⟨he, HH⟩ => ⟨he, c, HH.out.1, hm, HH.out.2, Fresh.refl _ _ _⟩
end Go.Proofs.Ytbgbjgedjmhcaaa
namespace Go.Proofs.Ytbgbjgedjmhcaaa
open Go.RowKit
open OldD (DA Dk Co fp Gr Row Fresh hid hd hs gu nk good ldK ge vu Ar un stF)
theorem box_step {E : Env} {h : Hp} {W W' : World} {m m' A kk : Nat} {k k' : Dk} {co c' : Co} (r : RH E h W) (hf : find h 0 = some (.box (dbox m k))) (hE : E 0 = some (some ⟨A, 0, none⟩, kk))
    (hft : ∀ b, Foot E W 0 (.box (dbox m k)) b ↔ b ∈ fp A co) (q1 : DA W' A c' k') (q2 : c'.mn ≤ m') (q3 : Gr (fp A co) W W') (q4 : Fresh W A co c') :
    RH E (upd h 0 (.box (dbox m' k'))) W' ∧ Mod E h W E (upd h 0 (.box (dbox m' k'))) W' := by
  obtain ⟨p1, p2⟩ := dbox_holds (E := E) hE q1 q2
  have hu : ∀ x y, x ≠ 0 → find (upd h 0 (.box (dbox m' k'))) x = some y → find h x = some y := fun x y hx hy => by
    rw [find_upd, if_neg (fun e => hx e.symm)] at hy; exact hy
  have h0 : ∀ y, find (upd h 0 (.box (dbox m' k'))) 0 = some y → y = .box (dbox m' k') := fun y hy => by
    rw [find_upd, if_pos rfl] at hy; exact (Option.some.inj hy).symm
  have hk : ∀ x y, x ≠ 0 → find h x = some y → (∀ b, Foot E W x y b → b < W.heap.size ∧ b ∉ fp A co ∧ W'.heap[b]? = W.heap[b]?) := fun x y hx hy b hb => by
    have h1 := Holds.blk_lt hb (r.holds x y hy)
    have h2 : b ∉ fp A co := fun hm => r.apart 0 x _ y hf hy (fun e => hx e.symm) rfl b ((hft b).2 hm) hb
    exact ⟨h1, h2, q3.block b h1 h2⟩
  have hfk : ∀ x y, x ≠ 0 → find h x = some y → ∀ b, Foot E W' x y b → Foot E W x y b := fun x y hx hy b hb => Foot.kept q3.size (fun b hb => (hk x y hx hy b hb).2.2) (r.holds x y hy) b hb
  refine ⟨⟨fun x y hy => ?_, fun x y o p hx hy hne hw b hb hb2 => ?_⟩, ⟨q3.os, q3.tape, q3.output, q3.size, fun b hlt hno => q3.block b hlt fun hb => hno 0 _ hf rfl ((hft b).2 hb), fun x y b hy hb => ?_⟩⟩
  · by_cases e : x = 0
    · subst e; rw [h0 y hy]; exact p1
    · exact (r.holds x y (hu x y e hy)).kept q3.size fun b hb => (hk x y e (hu x y e hy) b hb).2.2
  · have key : ∀ x y o p, find (upd h 0 (.box (dbox m' k'))) x = some o → find (upd h 0 (.box (dbox m' k'))) y = some p → x = 0 → y ≠ 0 → Foot E W' x o b → Foot E W' y p b → False := fun x y o p hx hy e0 e1 hb hb2 => by
      subst e0
      rw [h0 o hx] at hb
      obtain ⟨g1, g2, _⟩ := hk y p e1 (hu y p e1 hy) b (hfk y p e1 (hu y p e1 hy) b hb2)
      rcases q4 b (p2 b hb) with h | h
      · exact g2 h
      · omega
    by_cases e0 : x = 0
    · exact key x y o p hx hy e0 (fun e => hne (e0.trans e.symm)) hb hb2
    · by_cases e1 : y = 0
      · exact key y x p o hy hx e1 e0 hb2 hb
      · exact r.apart x y o p (hu x o e0 hx) (hu y p e1 hy) hne hw b (hfk x o e0 (hu x o e0 hx) b hb) (hfk y p e1 (hu y p e1 hy) b hb2)
  · by_cases e : x = 0
    · subst e
      rw [h0 y hy] at hb
      rcases q4 b (p2 b hb) with h | h
      · exact .inl ⟨0, _, hf, fun _ => rfl, (hft b).2 h⟩
      · exact .inr h
    · exact .inl ⟨x, y, hu x y e hy, fun h => h, hfk x y e (hu x y e hy) b hb⟩
theorem row_of {E : Env} {W : World} {id n : Nat} {row : Nat → List AV} {c : Value} (hh : Holds E W id (.ro 1 n row)) (hc : RV E (.sl id 0 1 n none) c) :
    ∃ a cap, c = .slice a n cap ∧ (n = 0 ∨ ∃ b off, a = some ⟨b, off, none⟩ ∧ b < W.heap.size ∧ ∀ j, j < n → ∃ v, RVs E (row j) [v] ∧ W.cell? ⟨b, off + j, none⟩ = some v) := by
  obtain ⟨b, k, xs, h1, h2, h3, h4, h5⟩ := hh
  simp only [RV] at hc
  obtain ⟨b2, k2, h6, h7⟩ := hc
  rw [h1] at h6
  simp only [Option.some.injEq, Prod.mk.injEq] at h6
  obtain ⟨rfl, rfl⟩ := h6
  cases b with
  | none =>
    obtain ⟨b', rfl, h8, _⟩ := h7
    exact ⟨b', 0, by rw [h8], .inl h8⟩
  | some a =>
    obtain ⟨o, m, rfl, h8, h9, h10, h11⟩ := h7
    refine ⟨_, m, rfl, ?_⟩
    by_cases h0 : n = 0
    · exact .inl h0
    · right
      have hm : m ≠ 0 := by omega
      rcases h3 with ⟨h3, _⟩ | ⟨a', ha, hlt, hk, hcell⟩
      · cases h3
      · simp only [Option.some.injEq] at ha
        subst ha
        refine ⟨a.block, o, rfl, hlt, fun j hj => ?_⟩
        have hl : j < xs.length := by omega
        refine ⟨xs[j], ?_, ?_⟩
        · have := h5 j hj
          simp only [cellsAt, Nat.mul_one] at this
          rwa [List.drop_eq_getElem_cons hl, List.take_succ_cons, List.take_zero] at this
        · rw [h10 hm, Nat.zero_mul, Nat.add_zero]
          exact hcell _ _ (List.getElem?_eq_getElem hl)
theorem new_c (X : List Int) (h8 : X.length ≤ 8) (hX : ∀ i, i < X.length → good (ge X i)) :
    CallOK Try.prog 57 [.sl 1 0 1 X.length none] [(1, .ro 1 X.length (rowG encI X))] (.tup [.ptr 10 0 0 0, I 0]) [(10, some (.box (dbox 0 (nk X))))] := by
  refine ⟨Try.call57, fun E W cs hcs rh hn => ?_⟩
  simp only [RVs] at hcs
  obtain ⟨y, l, rfl, hy, rfl⟩ := hcs
  obtain ⟨a, cap, rfl, h⟩ := row_of (rh.holds 1 _ rfl) hy
  have hA : Ar W a X := h.imp (fun h => h) fun ⟨b, off, e, hb, hcell⟩ => ⟨b, off, e, hb, fun j hj => by
    obtain ⟨v, h1, h2⟩ := hcell j hj
    simp only [rowG, encI, I, RVs, RV] at h1
    obtain ⟨y, l, e1, rfl, rfl⟩ := h1
    simp only [List.cons.injEq, and_true] at e1
    rw [h2, e1, List.getD_eq_getElem?_getD]
    rfl⟩
  refine (OldD.new_ok a cap X W h8 hX hA).mono ?_
  rintro e W' ⟨A, rfl, HH⟩
  obtain ⟨c, h1, h2, h3, h4⟩ := HH.out
  have hne := hn 10 (by simp [newIds, hasId, find, upd])
  have hxt := nw_set E 10 (some ⟨A, 0, none⟩, 0) hne
  obtain ⟨p1, p2⟩ := dbox_holds (E := fun y => if y = 10 then some (some ⟨A, 0, none⟩, 0) else E y) (id := 10) (m := 0) (kk := 0) (by simp) h2 (by omega)
  have gb : W.grownBy W' none := ⟨h3.os, h3.tape, h3.output, h3.size, fun i hi _ => h3.block i hi⟩
  obtain ⟨q1, q2⟩ := RH.change (h' := upd [(1, .ro 1 X.length (rowG encI X))] 10 (.box (dbox 0 (nk X)))) (row := none) rh hxt gb (fun b hb => by cases hb) (by rw [find_upd]; simp) (fun x hx y hy => by rw [find_upd, if_neg (fun e => hx e.symm)] at hy; exact hy) p1 (fun b hb => .inr (h4 b (p2 b hb)))
  refine ⟨_, _, rfl, hxt, ?_, q1, q2⟩
  simp only [RV, RVs, I]
  exact ⟨[.pointer (some ⟨A, 0, none⟩), .int .i64 0], rfl, _, _, rfl, ⟨⟨A, 0, none⟩, 0, by simp, rfl⟩, _, _, rfl, rfl, rfl⟩
theorem own_row {E : Env} {W : World} {id : Nat} {X : List Int} {c : Value} (h1 : 1 ≤ X.length) (hh : Holds E W id (.vec 22 1 X.length (rowG encU X))) (hc : RV E (.sl id 0 1 X.length none) c) :
    ∃ g cg, c = .slice (some ⟨g, 0, none⟩) X.length cg ∧ Row W g cg X ∧ Foot E W id (.vec 22 1 X.length (rowG encU X)) g := by
  obtain ⟨b, k, xs, g1, g2, g3, g4⟩ := hh
  simp only [RV] at hc
  obtain ⟨b2, k2, h6, h7⟩ := hc
  rw [g1] at h6
  simp only [Option.some.injEq, Prod.mk.injEq] at h6
  obtain ⟨rfl, rfl⟩ := h6
  have hxs : xs = vu X := by
    have hl : xs.length = X.length := by have := g2.1; omega
    refine List.ext_getElem (by simp [vu, hl]) fun i hi hi2 => ?_
    have := g4 i (by omega)
    simp only [cellsAt, Nat.mul_one] at this
    rw [List.drop_eq_getElem_cons hi, List.take_succ_cons, List.take_zero] at this
    simp only [rowG, encU, U, RVs, RV] at this
    obtain ⟨y, l, e1, rfl, rfl⟩ := this
    simp only [List.cons.injEq, and_true] at e1
    have hi3 : i < X.length := by omega
    rw [e1]
    simp [vu, List.getD_eq_getElem?_getD, List.getElem?_eq_getElem hi3]
  subst hxs
  obtain ⟨g, rfl⟩ := OldD.own_pos g2 (by omega)
  obtain ⟨o, m, rfl, h8, h9, h10, h11⟩ := h7
  have : m = k := by simpa using h11
  subst this
  have ho : o = 0 := by have := h10 (by omega); simpa using this
  subst ho
  exact ⟨g, m, rfl, g2, by simp [Foot, Ob.bx, FootB, blkOf, g1]⟩
theorem load_c (k : Dk) (n : Nat) (X : List Int) (hn : n < k.U.length) (hl : X.length = (gu k.U n).now.length) (h1 : 1 ≤ X.length) (hF : k.F.length ≤ 2 ^ 32) :
    CallOK Try.prog 58 [.ptr 0 0 0 0, I (n : Int), .sl 1 0 1 X.length none] [(0, .box (dbox 0 k)), (1, .vec 22 1 X.length (rowG encU X))] (I 0) [(0, some (.box (dbox 0 (ldK k n X))))] := by
  refine ⟨Try.call58, fun E W cs hcs rh _ => ?_⟩
  simp only [RVs, RV, I] at hcs
  obtain ⟨y, l, rfl, ⟨a0, k0, e0, rfl⟩, y2, l2, rfl, rfl, y3, l3, rfl, hs3, rfl⟩ := hcs
  obtain ⟨A, co, kk, e1, e2, e3, e4, e5⟩ := dbox_open (rh.holds 0 _ rfl) (c := .pointer (some ⟨a0.block, a0.off + (0 * 0 + 0), none⟩)) (by simp only [RV]; exact ⟨a0, k0, e0, rfl⟩)
  obtain ⟨g, cg, rfl, hr, hfg⟩ := own_row h1 (rh.holds 1 _ rfl) (by simp only [RV]; exact hs3)
  rw [e1]
  refine (OldD.load_ok e3 n hn g cg X hr (fun hm => rh.apart 0 1 _ _ rfl rfl (by decide) rfl g ((e5 g).2 hm) hfg) hl hF (by omega)).mono ?_
  rintro e W' ⟨rfl, HH⟩
  obtain ⟨q1, q2⟩ := box_step (m' := 0) rh rfl e2 e5 HH.out.1 e4 HH.out.2 (Fresh.refl _ _ _)
  exact ⟨_, E, rfl, Ext.refl E, by simp [RV, I], q1, q2⟩
end Go.Proofs.Ytbgbjgedjmhcaaa
namespace Go.Proofs.Ytbgbjgedjmhcaaa
open Go.RowKit
def Wf (L : List Int) : Prop := ∀ x ∈ L, 0 ≤ x ∧ x ≤ 18446744073709551615
theorem Wf.at {L : List Int} (h : Wf L) (k : Nat) : 0 ≤ L.getD k default ∧ L.getD k default ≤ 18446744073709551615 := by
  rw [List.getD_eq_getElem?_getD]
  cases e : L[k]? with
  | none => exact ⟨Int.le_refl 0, by decide⟩
  | some z => exact h z (List.mem_of_getElem? e)
theorem rh_below {E : Env} {h : Hp} {W W' : World} (r : RH E h W) (hb : Below W.heap.size W W') : RH E h W' ∧ Mod E h W E h W' :=
  ⟨⟨fun id o ho => (r.holds id o ho).kept hb.size fun b hb' => hb.block b (Holds.blk_lt hb' (r.holds id o ho)), fun i j o p hi hj hne hw b h1 h2 => r.apart i j o p hi hj hne hw b (Foot.kept hb.size (fun b hb' => hb.block b (Holds.blk_lt hb' (r.holds i o hi))) (r.holds i o hi) b h1) (Foot.kept hb.size (fun b hb' => hb.block b (Holds.blk_lt hb' (r.holds j p hj))) (r.holds j p hj) b h2)⟩, ⟨hb.os, hb.tape, hb.output, hb.size, fun b hlt _ => hb.block b hlt, fun id o b h1 h3 => .inl ⟨id, o, h1, fun h => h, Foot.kept hb.size (fun b hb' => hb.block b (Holds.blk_lt hb' (r.holds id o h1))) (r.holds id o h1) b h3⟩⟩⟩
theorem getD_nat (L : List Int) (hw : Wf L) (j : Nat) : (((L.map Int.toNat)[j]?.getD 0 : Nat) : Int) = L.getD j default ∧ (L.map Int.toNat)[j]?.getD 0 < 18446744073709551616 := by
  have := hw.at j
  rw [List.getD_eq_getElem?_getD] at this ⊢
  rw [List.getElem?_map]
  cases e : L[j]? with
  | none => exact ⟨rfl, by decide⟩
  | some z =>
    rw [e] at this
    simp only [Option.getD_some, Option.map_some] at this ⊢
    omega
theorem wo_row {E : Env} {W : World} {id : Nat} {L : List Int} {c : Value} (hw : Wf L) (hh : Holds E W id (.ro 1 L.length (rowG encU L))) (hc : RV E (.sl id 0 1 L.length none) c) : ∃ a cap, c = .slice a L.length cap ∧ OldA.Wo W.heap.size W a L.length (L.map Int.toNat) := by
  obtain ⟨a, cap, rfl, h⟩ := row_of hh hc
  refine ⟨a, cap, rfl, fun j hj => (getD_nat L hw j).2, h.imp (fun h => h) fun ⟨b, off, e, hb, hcell⟩ => ⟨b, off, e, hb, fun j hj => ?_⟩⟩
  obtain ⟨v, h1, h2⟩ := hcell j hj
  simp only [rowG, encU, U, RVs, RV] at h1
  obtain ⟨y, l, e1, rfl, rfl⟩ := h1
  simp only [List.cons.injEq, and_true] at e1
  rw [h2, e1, (getD_nat L hw j).1]
theorem wo_blk {E : Env} {W : World} {id ty q n : Nat} {cs : List AV} {L : List Int} {c : Value} (hw : Wf L) (hh : Holds E W id (.blk ty cs)) (hc : RV E (.sl id q 1 n none) c) (hl : L.length = n) (hcs : ∀ j, j < n → nth cs (q + j) = some (U (L.getD j default))) :
    ∃ a cap, c = .slice a n cap ∧ OldA.Wo W.heap.size W a n (L.map Int.toNat) := by
  obtain ⟨b, k, xs, h1, h2, h3, h4⟩ := hh
  simp only [RV] at hc
  obtain ⟨b2, k2, h6, h7⟩ := hc
  rw [h1] at h6
  simp only [Option.some.injEq, Prod.mk.injEq] at h6
  obtain ⟨rfl, rfl⟩ := h6
  obtain ⟨o, m, rfl, h8, h9, h10, h11⟩ := h7
  refine ⟨_, m, rfl, fun j hj => (getD_nat L hw j).2, ?_⟩
  by_cases h0 : n = 0
  · exact .inl h0
  · right
    have ho := h10 (by omega)
    refine ⟨b, o, rfl, (Array.getElem?_eq_some_iff.1 h2).1, fun j hj => ?_⟩
    obtain ⟨y, hy, hy2⟩ := h3.get _ _ (hcs j hj)
    simp only [U, RV] at hy2
    rw [cell_of_row W b _ _ _ _ h2, ho]
    rw [(getD_nat L hw j).1, ← hy2]
    simp only [Nat.mul_one, Nat.zero_add, List.getElem?_toArray]
    exact hy
abbrev U32 (z : Int) : AV := .val (.int .u32 z)
def extW (s : Int) (L : List Int) : Int := (OldA.ext s.toNat (L.map Int.toNat) L.length : Nat)
def sumW (L : List Int) : Int := extW 0 L
theorem extW_bd (s : Int) (L : List Int) (h : 0 ≤ s ∧ s ≤ 4294967295) : 0 ≤ extW s L ∧ extW s L ≤ 4294967295 := by
  have := OldA.ext_lt s.toNat (by omega) (L.map Int.toNat) L.length
  unfold extW
  omega
theorem sumW_bd (L : List Int) : 0 ≤ sumW L ∧ sumW L ≤ 4294967295 := extW_bd 0 L (by omega)
theorem xor_back (a r : Nat) : a ^^^ (a ^^^ r) = r := by rw [← Nat.xor_assoc, Nat.xor_self, Nat.zero_xor]
theorem nt_def (r : Nat) : OldA.nt r = 4294967295 ^^^ r := by unfold OldA.nt; rfl
theorem nt_nt (r : Nat) : OldA.nt (OldA.nt r) = r := by
  rw [nt_def, nt_def]
  generalize (4294967295 : Nat) = a
  exact xor_back a r
theorem wds_app (r : Nat) (A B : List Nat) : ∀ k, k ≤ A.length → OldA.wds r (A ++ B) k = OldA.wds r A k
  | 0, _ => rfl
  | k + 1, h => by
    unfold OldA.wds
    rw [wds_app r A B k (by omega), List.getElem?_append_left (by omega)]
theorem wds_one (r : Nat) (A : List Nat) (y : Nat) : OldA.wds (OldA.wds r A A.length) [y] 1 = OldA.wds r (A ++ [y]) (A.length + 1) := by
  show OldA.wd (OldA.wds r A A.length) ([y][0]?.getD 0) 8 = OldA.wd (OldA.wds r (A ++ [y]) A.length) ((A ++ [y])[A.length]?.getD 0) 8
  rw [wds_app r A [y] A.length (Nat.le_refl _), List.getElem?_append_right (Nat.le_refl _), Nat.sub_self]
theorem ext_one (s : Nat) (A : List Nat) (y : Nat) : OldA.ext (OldA.ext s A A.length) [y] 1 = OldA.ext s (A ++ [y]) (A.length + 1) := by
  unfold OldA.ext
  rw [nt_nt, wds_one]
theorem extW_app (s : Int) (L : List Int) (x : Int) : extW (extW s L) [x] = extW s (L ++ [x]) := by
  have h := ext_one s.toNat (L.map Int.toNat) x.toNat
  rw [List.length_map] at h
  unfold extW
  rw [Int.toNat_natCast, List.map_append, List.length_append]
  exact congrArg _ h
theorem sums_blk (ty q n : Nat) (cs : List AV) (L : List Int) (hw : Wf L) (hl : L.length = n) (hn : n ≤ 1000000) (hcs : ∀ j, j < n → nth cs (q + j) = some (U (L.getD j default))) : CallOK Try.prog 95 [.sl 0 q 1 n none] [(0, .blk ty cs)] (U32 (sumW L)) [] := by
  refine ⟨enters_of Try.func95 (by kernel_rfl) rfl, fun E W cargs ha hr hno => ?_⟩
  simp only [RVs] at ha
  obtain ⟨c1, l1, rfl, g1, rfl⟩ := ha
  obtain ⟨a, cap, rfl, H⟩ := wo_blk hw (hr.holds 0 _ rfl) g1 hl hcs
  refine (OldA.words_ok a n cap _ (by omega) W H).mono ?_
  rintro e W' ⟨rfl, hb⟩
  obtain ⟨q1, q2⟩ := rh_below hr hb
  exact ⟨_, E, rfl, Ext.refl E, by simp only [RV]; rw [← hl]; rfl, q1, q2⟩
theorem rsums_any (L : List Int) (hw : Wf L) (hl : L.length ≤ 1000000) : CallOK Try.prog 97 [.sl 0 0 1 L.length none] [(0, .ro 1 L.length (rowG encU L))] (U32 (sumW L)) [] := by
  refine ⟨enters_of Try.func97 (by kernel_rfl) rfl, fun E W cargs ha hr hn => ?_⟩
  simp only [RVs] at ha
  obtain ⟨c1, l1, rfl, g1, rfl⟩ := ha
  obtain ⟨a, cap, rfl, H⟩ := wo_row hw (hr.holds 0 _ rfl) g1
  refine (OldA.rwords_ok a L.length cap _ (by omega) W H).mono ?_
  rintro e W' ⟨rfl, rfl⟩
  exact ⟨_, E, rfl, Ext.refl E, by simp only [RV]; rfl, hr, Mod.refl _ _ _⟩
end Go.Proofs.Ytbgbjgedjmhcaaa
namespace Go.Proofs.Ytbgbjgedjmhcaaa
open Go.RowKit
abbrev U8 (z : Int) : AV := .val (.int .u8 z)
def ln (n : Nat) : Nat := 1 + n / 8 + (n % 8 + 7) / 8
theorem ln_bd (n : Nat) : 1 ≤ ln n ∧ n ≤ 8 * (ln n - 1) ∧ 8 * (ln n - 1) ≤ n + 7 := by unfold ln; omega
theorem length_any (n : Nat) (h : n ≤ 1000000) : CallOK Try.prog 118 [I n] [] (I (ln n)) [] := by
  have h0 : ¬ (n : Int) < 0 := by omega
  refine CallOK.intro Try.call118 Try.func118 rfl rfl trivial ?_
  refine Safe.ends mixed Try.func118 9 [⟨100, []⟩, ⟨200, []⟩, ⟨300, []⟩] (r := I ((1 : Int) + (↑n : Int) / (8 : Int) + ((↑n : Int) % (8 : Int) + (8 : Int) - (1 : Int)) / (8 : Int))) (hp := []) (ob := [(0 : Int) ≤ (↑n : Int) ∧ (0 : Int) < (8 : Int), inK IntKind.i64 ((↑n : Int) / (8 : Int)), inK IntKind.i64 ((1 : Int) + (↑n : Int) / (8 : Int)), (0 : Int) ≤ (↑n : Int) ∧ (0 : Int) < (8 : Int), inK IntKind.i64 ((↑n : Int) % (8 : Int) + (8 : Int)), inK IntKind.i64 ((↑n : Int) % (8 : Int) + (8 : Int) - (1 : Int)), (0 : Int) ≤ (↑n : Int) % (8 : Int) + (8 : Int) - (1 : Int) ∧ (0 : Int) < (8 : Int), inK IntKind.i64 (((↑n : Int) % (8 : Int) + (8 : Int) - (1 : Int)) / (8 : Int)), inK IntKind.i64 ((1 : Int) + (↑n : Int) / (8 : Int) + ((↑n : Int) % (8 : Int) + (8 : Int) - (1 : Int)) / (8 : Int))]) rfl (by kernel_rfl) ⟨(by omega), (by simp only [inK]; omega), (by simp only [inK]; omega), (by omega), (by simp only [inK]; omega), (by simp only [inK]; omega), (by omega), (by simp only [inK]; omega), (by simp only [inK]; omega), trivial⟩ ?_ trivial trivial rfl
  unfold ln
  exact congrArg (fun z => I z) (by omega)
theorem rlength_any (n : Nat) (h : n ≤ 1000000) : CallOK Try.prog 127 [I n] [] (I (ln n)) [] := by
  have h0 : ¬ (n : Int) < 0 := by omega
  refine CallOK.intro Try.call127 Try.func127 rfl rfl trivial ?_
  refine Safe.ends mixed Try.func127 9 [⟨100, []⟩, ⟨200, []⟩, ⟨300, []⟩] (r := I ((1 : Int) + (↑n : Int) / (8 : Int) + min ((↑n : Int) % (8 : Int)) (1 : Int))) (hp := []) (ob := [(0 : Int) ≤ (↑n : Int) ∧ (0 : Int) < (8 : Int), inK IntKind.i64 ((↑n : Int) / (8 : Int)), inK IntKind.i64 ((1 : Int) + (↑n : Int) / (8 : Int)), (0 : Int) ≤ (↑n : Int) ∧ (0 : Int) < (8 : Int), inK IntKind.i64 ((1 : Int) + (↑n : Int) / (8 : Int) + min ((↑n : Int) % (8 : Int)) (1 : Int))]) rfl (by kernel_rfl) ⟨(by omega), (by simp only [inK]; omega), (by simp only [inK]; omega), (by omega), (by simp only [inK]; omega), trivial⟩ ?_ trivial trivial rfl
  unfold ln
  all_goals exact congrArg (fun z => I z) (by omega)
theorem byteAt_bd (t : ByteArray) (k : Nat) : 0 ≤ byteAt t k ∧ byteAt t k ≤ 255 := by
  unfold byteAt
  have := (t.data.toList[k]?.getD 0).toNat_lt
  omega
theorem byteAt_64 (t : ByteArray) (k : Nat) : 0 ≤ byteAt t k ∧ byteAt t k ≤ 18446744073709551615 := by
  have := byteAt_bd t k
  omega
theorem shB_bd (t : ByteArray) (k i : Nat) : 0 ≤ byteAt t k * 2 ^ (8 * ((i : Int) % 8)).toNat ∧ byteAt t k * 2 ^ (8 * ((i : Int) % 8)).toNat ≤ 18446744073709551615 := by
  have h := byteAt_bd t k
  have h8 : (8 * ((i : Int) % 8)).toNat = 8 * (i % 8) := by omega
  rw [h8]
  have hp : (2 : Int) ^ (8 * (i % 8)) ≤ 2 ^ 56 := by
    have : 2 ^ (8 * (i % 8)) ≤ 2 ^ 56 := Nat.pow_le_pow_right (by omega) (by omega)
    exact_mod_cast this
  have hp0 : (0 : Int) ≤ 2 ^ (8 * (i % 8)) := by
    have : 0 ≤ 2 ^ (8 * (i % 8)) := Nat.zero_le _
    exact_mod_cast this
  have h1 := Int.mul_nonneg h.1 hp0
  have h2 : byteAt t k * 2 ^ (8 * (i % 8)) ≤ 255 * 2 ^ 56 := Int.mul_le_mul (by omega) hp hp0 (by omega)
  exact ⟨h1, Int.le_trans h2 (by decide)⟩
theorem or64 (x y : Int) : 0 ≤ bitsV .or .u64 x y ∧ bitsV .or .u64 x y ≤ 18446744073709551615 := by
  have : ((BitVec.ofInt 64 x ||| BitVec.ofInt 64 y).toNat : Int) < 18446744073709551616 := by
    have := (BitVec.ofInt 64 x ||| BitVec.ofInt 64 y).isLt
    omega
  show 0 ≤ (((BitVec.ofInt 64 x ||| BitVec.ofInt 64 y).toNat : Nat) : Int) ∧ (((BitVec.ofInt 64 x ||| BitVec.ofInt 64 y).toNat : Nat) : Int) ≤ _
  omega
def textP (t : ByteArray) : Nat → List Int
  | 0 => (List.replicate (ln t.size) 0).set 0 (t.size : Int)
  | i + 1 => (textP t i).set (1 + (i : Int) / 8).toNat (bitsV .or .u64 ((textP t i).getD (1 + (i : Int) / 8).toNat default) (byteAt t i * 2 ^ (8 * ((i : Int) % 8)).toNat))
def textW (t : ByteArray) : List Int := textP t t.size
theorem textP_len (t : ByteArray) : ∀ i, (textP t i).length = ln t.size
  | 0 => by simp [textP]
  | i + 1 => by simp [textP, textP_len t i]
theorem textW_len (t : ByteArray) : (textW t).length = ln t.size := textP_len t _
theorem textP_wf (t : ByteArray) (ht : t.size ≤ 1000000) : ∀ i, Wf (textP t i)
  | 0 => fun x hx => by
    rcases List.mem_or_eq_of_mem_set hx with h | h
    · rw [(List.mem_replicate.1 h).2]; omega
    · omega
  | i + 1 => fun x hx => by
    rcases List.mem_or_eq_of_mem_set hx with h | h
    · exact textP_wf t ht i x h
    · rw [h]; exact or64 _ _
theorem ob_setN {ty n i : Nat} (L : List Int) (x : Int) (r : List AV) (hn : n = L.length) (h : r = encU x) : ObLe (.vec ty 1 n (setRow (rowG encU L) i r)) (.vec ty 1 n (rowG encU (L.set i x))) := by
  obtain ⟨_, _, e, h4⟩ := ob_set (ty := ty) (es := 1) (n := n) (i := i) encU L x r hn h
  exact ⟨rfl, rfl, rfl, fun q hq => h4 q (by rw [← e]; exact hq)⟩
theorem ob_zero {n ty : Nat} {z : Int} {σ : List (Nat × Nat)} {L : List Int} (hL : L = (List.replicate n 0).set 0 z) : ObLe (.vec ty 1 n (fun q => renL σ (setRow (fun _ => [U 0]) 0 [U z] q))) (.vec ty 1 n (rowG encU L)) := by
  subst hL
  refine ⟨rfl, rfl, rfl, fun q hq => ?_⟩
  unfold rowG encU
  show renL σ (setRow (fun _ => [U 0]) 0 [U z] q) = _
  unfold setRow
  rw [List.getD_eq_getElem?_getD, List.getElem?_set]
  by_cases e : q = 0
  · subst e; simp [hq]; rfl
  · rw [if_neg e, if_neg (fun h => e h.symm), List.getElem?_replicate, if_pos hq]; rfl
theorem text_ok (t : ByteArray) (hs : t.size ≤ 8192) : CallOK Try.prog 90 [S t] [] (.tup [.sl 10 0 1 (textW t).length none, I 0]) [(10, some (.vec 22 1 (textW t).length (rowG encU (textW t))))] := by
  rw [textW_len]
  refine CallOK.intro Try.call90 Try.func90 rfl rfl trivial ?_
  have lg := length_any t.size (by omega)
  have hbd := ln_bd t.size
  have hgt : ¬ (t.size : Int) > 8192 := by omega
  refine Safe.withLoop (loopAt Try.f90 0) [20] 41 (fun i : Nat => [(0, S t), (4, .sl 20 0 1 (ln t.size) none), (19, I t.size), (20, I i)]) (fun i => [(20, .vec 22 1 (ln t.size) (rowG encU (textP t i)))]) (fun i => i ≤ t.size) (fun i => t.size - i) ?_ ?_
  · intro i hi ih
    have hl := textP_len t i
    by_cases hlt : i < t.size
    · have h1 : (i : Int) < (t.size : Int) := by omega
      have b8 := byteAt_64 t i
      have s8 := shB_bd t i i
      have o8 := or64 ((textP t i).getD (1 + (i : Int) / 8).toNat default) (byteAt t i * 2 ^ (8 * ((i : Int) % 8)).toNat)
      refine Safe.goto mixed 13 [⟨1100, [(0, .tt true)]⟩, ⟨1200, []⟩, ⟨1300, []⟩, ⟨1400, []⟩] [0, 4, 19, 20] [20] (todo' := loopAt Try.f90 0) (sl := slotsOf 41 [(0, S t), (4, .sl 20 0 1 (ln t.size) none), (19, I ↑t.size), (20, I ((↑i : Int) + (1 : Int)))]) (hp := [(20, .vec 22 1 (ln t.size) (setRow (rowG encU (textP t i)) ((1 : Int) + (↑i : Int) / (8 : Int)).toNat [U (bitsV BinOp.or IntKind.u64 ((textP t i).getD ((1 : Int) + (↑i : Int) / (8 : Int)).toNat default) (byteAt t i * (2 : Int) ^ ((8 : Int) * ((↑i : Int) % (8 : Int))).toNat))]))]) (ob := [decide ((↑i : Int) < (↑t.size : Int)) = true, (0 : Int) ≤ (↑i : Int) ∧ (0 : Int) < (8 : Int), inK IntKind.i64 ((↑i : Int) / (8 : Int)), inK IntKind.i64 ((1 : Int) + (↑i : Int) / (8 : Int)), (0 : Int) ≤ (1 : Int) + (↑i : Int) / (8 : Int) ∧ (1 : Int) + (↑i : Int) / (8 : Int) < (↑(ln t.size) : Int), ((1 : Int) + (↑i : Int) / (8 : Int)).toNat < ln t.size, (0 : Int) ≤ (↑i : Int) ∧ (↑i : Int) < (↑t.size : Int), inK IntKind.u64 (byteAt t i), (0 : Int) ≤ (↑i : Int) ∧ (0 : Int) < (8 : Int), inK IntKind.i64 ((8 : Int) * ((↑i : Int) % (8 : Int))), (0 : Int) ≤ (8 : Int) * ((↑i : Int) % (8 : Int)) ∧ (8 : Int) * ((↑i : Int) % (8 : Int)) ≤ (↑IntKind.u64.bits : Int), inK IntKind.u64 (byteAt t i * (2 : Int) ^ ((8 : Int) * ((↑i : Int) % (8 : Int))).toNat), inK IntKind.u64 (bitsV BinOp.or IntKind.u64 ((textP t i).getD ((1 : Int) + (↑i : Int) / (8 : Int)).toNat default) (byteAt t i * (2 : Int) ^ ((8 : Int) * ((↑i : Int) % (8 : Int))).toNat)), (0 : Int) ≤ (1 : Int) + (↑i : Int) / (8 : Int) ∧ (1 : Int) + (↑i : Int) / (8 : Int) < (↑(ln t.size) : Int), ((1 : Int) + (↑i : Int) / (8 : Int)).toNat < ln t.size, inK IntKind.i64 ((↑i : Int) + (1 : Int))]) rfl rfl (by kernel_rfl) ⟨(decide_eq_true h1), (by first | omega | assumption), (by simp only [inK]; first | omega | assumption), (by simp only [inK]; first | omega | assumption), (by first | omega | assumption), (by first | omega | assumption), (by first | omega | assumption), (by simp only [inK]; first | omega | assumption), (by first | omega | assumption), (by simp only [inK]; first | omega | assumption), (by first | decide | (simp only [Go.IntKind.bits]; first | omega | assumption)), (by simp only [inK]; first | omega | assumption), (by simp only [inK]; first | omega | assumption), (by first | omega | assumption), (by first | omega | assumption), (by simp only [inK]; first | omega | assumption), trivial⟩ rfl ⟨rfl, closed_set (fun _ => rfl) rfl, trivial⟩ ?_
      · skip
        exact Safe.leH (ih (i + 1) (by omega) (by omega)) rfl (SlLe.refl _) ⟨ob_setN (textP t i) _ _ hl.symm rfl, trivial⟩ rfl ⟨rfl, fun _ => rfl, trivial⟩
    · have hn : ¬ (i : Int) < (t.size : Int) := by omega
      obtain rfl : i = t.size := by omega
      refine Safe.gotoE mixed 7 [⟨1100, [(0, .tt false)]⟩, ⟨1200, []⟩] [2, 3] [20] (sl := slotsOf 41 [(2, .sl 20 0 1 (ln t.size) none), (3, I 0)]) (hp := [(20, .vec 22 1 (ln t.size) (rowG encU (textP t t.size)))]) (ob := [decide ((↑t.size : Int) < (↑t.size : Int)) = false]) rfl rfl (by kernel_rfl) ⟨(decide_eq_false hn), trivial⟩ rfl ⟨rfl, fun _ => rfl, trivial⟩ fun td htd => ?_
      refine Safe.ren [(20, 10)] rfl rfl rfl rfl ⟨rfl, fun _ => rfl, trivial⟩ ?_
      refine Safe.endsT Try.func90 htd (r := .tup [.sl 10 0 1 (ln t.size) none, I 0]) (hp := [(10, .vec 22 1 (ln t.size) (fun q => renL [(20, 10)] (rowG encU (textP t t.size) q)))]) (ob := []) rfl (by kernel_rfl) trivial rfl ⟨?_, trivial⟩ ⟨rfl, fun _ => rfl, trivial⟩ rfl
      all_goals exact ⟨rfl, rfl, rfl, fun _ _ => rfl⟩
  · intro H
    refine Safe.goto mixed 16 [⟨100, []⟩, ⟨200, [(2, .tt false)]⟩, ⟨300, [(2, .call [] (I ((↑(ln t.size) : Int))) [])]⟩, ⟨400, []⟩, ⟨500, []⟩] [0, 4, 19, 20] [303] (todo' := loopAt Try.f90 0) (sl := slotsOf 41 [(0, S t), (4, .sl 303 0 1 (ln t.size) none), (19, I ↑t.size), (20, I 0)]) (hp := [(303, .vec 22 1 (ln t.size) (setRow (fun x => List.map AV.val (Value.int IntKind.u64 (0 : Int)).cells.toList) 0 [U (↑t.size : Int)]))]) (ob := [decide ((↑t.size : Int) > (8192 : Int)) = false, CallOK Try.prog 118 ([] ++ [I ↑t.size] ++ []) [] (I (↑(ln t.size) : Int)) [], (0 : Int) ≤ (↑(ln t.size) : Int) ∧ (↑(ln t.size) : Int) ≤ (↑(ln t.size) : Int) ∧ (↑(ln t.size) : Int) ≤ (1099511627776 : Int), inK IntKind.u64 (↑t.size : Int), (0 : Int) ≤ (0 : Int) ∧ (0 : Int) < (↑(ln t.size) : Int), 0 < ln t.size]) rfl rfl (by kernel_rfl) ⟨(decide_eq_false hgt), lg, (by first | omega), (by simp only [inK]; first | omega), (by first | omega), (by first | omega), trivial⟩ rfl ⟨rfl, closed_set (fun _ => rfl) rfl, trivial⟩ ?_
    refine Safe.ren [(303, 20)] rfl rfl rfl rfl ⟨rfl, closed_set (fun _ => rfl) rfl, trivial⟩ ?_
    · exact Safe.leH (H 0 (by omega)) rfl (SlLe.refl _) ⟨ob_zero rfl, trivial⟩ rfl ⟨rfl, fun _ => rfl, trivial⟩
end Go.Proofs.Ytbgbjgedjmhcaaa
namespace Go.Proofs.Ytbgbjgedjmhcaaa
open Go.RowKit
theorem rtwords_ok (t : ByteArray) (hs : t.size ≤ 8192) : CallOK Try.prog 125 [S t] [] (.sl 10 0 1 (textW t).length none) [(10, some (.vec 22 1 (textW t).length (rowG encU (textW t))))] := by
  rw [textW_len]
  refine CallOK.intro Try.call125 Try.func125 rfl rfl trivial ?_
  have lg := rlength_any t.size (by omega)
  have hbd := ln_bd t.size
  refine Safe.withLoop (loopAt Try.f125 0) [20] 37 (fun i : Nat => [(0, S t), (3, .sl 20 0 1 (ln t.size) none), (4, I i)]) (fun i => [(20, .vec 22 1 (ln t.size) (rowG encU (textP t i)))]) (fun i => i ≤ t.size) (fun i => t.size - i) ?_ ?_
  · intro i hi ih
    have hl := textP_len t i
    by_cases hlt : i < t.size
    · have h1 : (i : Int) < (t.size : Int) := by omega
      have b8 := byteAt_64 t i
      have s8 := shB_bd t i i
      have o8 := or64 ((textP t i).getD (1 + (i : Int) / 8).toNat default) (byteAt t i * 2 ^ (8 * ((i : Int) % 8)).toNat)
      refine Safe.goto mixed 11 [⟨1100, [(3, .tt true)]⟩, ⟨1200, []⟩, ⟨1300, []⟩] [0, 3, 4] [20] (todo' := loopAt Try.f125 0) (sl := slotsOf 37 [(0, S t), (3, .sl 20 0 1 (ln t.size) none), (4, I ((↑i : Int) + (1 : Int)))]) (hp := [(20, .vec 22 1 (ln t.size) (setRow (rowG encU (textP t i)) ((1 : Int) + (↑i : Int) / (8 : Int)).toNat [U (bitsV BinOp.or IntKind.u64 ((textP t i).getD ((1 : Int) + (↑i : Int) / (8 : Int)).toNat default) (byteAt t i * (2 : Int) ^ ((8 : Int) * ((↑i : Int) % (8 : Int))).toNat))]))]) (ob := [decide ((↑i : Int) < (↑t.size : Int)) = true, (0 : Int) ≤ (↑i : Int) ∧ (0 : Int) < (8 : Int), inK IntKind.i64 ((↑i : Int) / (8 : Int)), inK IntKind.i64 ((1 : Int) + (↑i : Int) / (8 : Int)), (0 : Int) ≤ (1 : Int) + (↑i : Int) / (8 : Int) ∧ (1 : Int) + (↑i : Int) / (8 : Int) < (↑(ln t.size) : Int), ((1 : Int) + (↑i : Int) / (8 : Int)).toNat < ln t.size, (0 : Int) ≤ (↑i : Int) ∧ (↑i : Int) < (↑t.size : Int), inK IntKind.u64 (byteAt t i), (0 : Int) ≤ (↑i : Int) ∧ (0 : Int) < (8 : Int), inK IntKind.i64 ((8 : Int) * ((↑i : Int) % (8 : Int))), (0 : Int) ≤ (8 : Int) * ((↑i : Int) % (8 : Int)) ∧ (8 : Int) * ((↑i : Int) % (8 : Int)) ≤ (↑IntKind.u64.bits : Int), inK IntKind.u64 (byteAt t i * (2 : Int) ^ ((8 : Int) * ((↑i : Int) % (8 : Int))).toNat), inK IntKind.u64 (bitsV BinOp.or IntKind.u64 ((textP t i).getD ((1 : Int) + (↑i : Int) / (8 : Int)).toNat default) (byteAt t i * (2 : Int) ^ ((8 : Int) * ((↑i : Int) % (8 : Int))).toNat)), (0 : Int) ≤ (1 : Int) + (↑i : Int) / (8 : Int) ∧ (1 : Int) + (↑i : Int) / (8 : Int) < (↑(ln t.size) : Int), ((1 : Int) + (↑i : Int) / (8 : Int)).toNat < ln t.size, inK IntKind.i64 ((↑i : Int) + (1 : Int))]) rfl rfl (by kernel_rfl) ⟨(decide_eq_true h1), (by first | omega | assumption), (by simp only [inK]; first | omega | assumption), (by simp only [inK]; first | omega | assumption), (by first | omega | assumption), (by first | omega | assumption), (by first | omega | assumption), (by simp only [inK]; first | omega | assumption), (by first | omega | assumption), (by simp only [inK]; first | omega | assumption), (by first | decide | (simp only [Go.IntKind.bits]; first | omega | assumption)), (by simp only [inK]; first | omega | assumption), (by simp only [inK]; first | omega | assumption), (by first | omega | assumption), (by first | omega | assumption), (by simp only [inK]; first | omega | assumption), trivial⟩ rfl ⟨rfl, closed_set (fun _ => rfl) rfl, trivial⟩ ?_
      · skip
        exact Safe.leH (ih (i + 1) (by omega) (by omega)) rfl (SlLe.refl _) ⟨ob_setN (textP t i) _ _ hl.symm rfl, trivial⟩ rfl ⟨rfl, fun _ => rfl, trivial⟩
    · have hn : ¬ (i : Int) < (t.size : Int) := by omega
      obtain rfl : i = t.size := by omega
      refine Safe.gotoE mixed 7 [⟨1100, [(3, .tt false)]⟩, ⟨1200, []⟩] [2] [20] (sl := slotsOf 37 [(2, .sl 20 0 1 (ln t.size) none)]) (hp := [(20, .vec 22 1 (ln t.size) (rowG encU (textP t t.size)))]) (ob := [decide ((↑t.size : Int) < (↑t.size : Int)) = false]) rfl rfl (by kernel_rfl) ⟨(decide_eq_false hn), trivial⟩ rfl ⟨rfl, fun _ => rfl, trivial⟩ fun td htd => ?_
      refine Safe.ren [(20, 10)] rfl rfl rfl rfl ⟨rfl, fun _ => rfl, trivial⟩ ?_
      refine Safe.endsT Try.func125 htd (r := .sl 10 0 1 (ln t.size) none) (hp := [(10, .vec 22 1 (ln t.size) (fun q => renL [(20, 10)] (rowG encU (textP t t.size) q)))]) (ob := []) rfl (by kernel_rfl) trivial rfl ⟨?_, trivial⟩ ⟨rfl, fun _ => rfl, trivial⟩ rfl
      all_goals exact ⟨rfl, rfl, rfl, fun _ _ => rfl⟩
  · intro H
    refine Safe.goto mixed 11 [⟨100, []⟩, ⟨200, [(2, .call [] (I ((↑(ln t.size) : Int))) [])]⟩, ⟨300, []⟩, ⟨400, []⟩] [0, 3, 4] [203] (todo' := loopAt Try.f125 0) (sl := slotsOf 37 [(0, S t), (3, .sl 203 0 1 (ln t.size) none), (4, I 0)]) (hp := [(203, .vec 22 1 (ln t.size) (setRow (fun x => List.map AV.val (Value.int IntKind.u64 (0 : Int)).cells.toList) 0 [U (↑t.size : Int)]))]) (ob := [CallOK Try.prog 127 ([] ++ [I ↑t.size] ++ []) [] (I (↑(ln t.size) : Int)) [], (0 : Int) ≤ (↑(ln t.size) : Int) ∧ (↑(ln t.size) : Int) ≤ (↑(ln t.size) : Int) ∧ (↑(ln t.size) : Int) ≤ (1099511627776 : Int), inK IntKind.u64 (↑t.size : Int), (0 : Int) ≤ (0 : Int) ∧ (0 : Int) < (↑(ln t.size) : Int), 0 < ln t.size]) rfl rfl (by kernel_rfl) ⟨lg, (by first | omega), (by simp only [inK]; first | omega), (by first | omega), (by first | omega), trivial⟩ rfl ⟨rfl, closed_set (fun _ => rfl) rfl, trivial⟩ ?_
    refine Safe.ren [(203, 20)] rfl rfl rfl rfl ⟨rfl, closed_set (fun _ => rfl) rfl, trivial⟩ ?_
    · exact Safe.leH (H 0 (by omega)) rfl (SlLe.refl _) ⟨ob_zero rfl, trivial⟩ rfl ⟨rfl, fun _ => rfl, trivial⟩
theorem rtext_ok (t : ByteArray) (hs : t.size ≤ 8192) : CallOK Try.prog 108 [S t] [] (.tup [.sl 10 0 1 (textW t).length none, I 0]) [(10, some (.vec 22 1 (textW t).length (rowG encU (textW t))))] := by
  have rw' := rtwords_ok t hs
  refine CallOK.intro Try.call108 Try.func108 rfl rfl trivial ?_
  have hgt : ¬ (t.size : Int) > 8192 := by omega
  refine Safe.gotoE mixed 9 [⟨100, []⟩, ⟨200, [(2, .tt false)]⟩, ⟨300, [(1, .call [] (.sl 355 0 1 ((textW t).length) none) [(355, some (.vec 22 1 ((textW t).length) (fun q => renL [(10, 355)] (rowG encU (textW t) q))))])]⟩] [2, 3] [355] (sl := slotsOf 9 [(2, .sl 355 0 1 ((textW t).length) none), (3, I 0)]) (hp := [(355, .vec 22 1 ((textW t).length) (fun q => renL [(10, 355)] (rowG encU (textW t) q)))]) (ob := [decide ((↑t.size : Int) > (8192 : Int)) = false, CallOK Try.prog 125 ([] ++ [AV.val (Value.string t)] ++ []) [] (.sl 355 0 1 (textW t).length none) [(355, some (.vec 22 1 (textW t).length fun q => renL [(10, 355)] (rowG encU (textW t) q)))]]) rfl rfl (by kernel_rfl) ⟨(decide_eq_false hgt), (CallOK.ren rw' [(10, 355)] [10] rfl rfl rfl rfl trivial rfl ⟨rfl, fun _ => rfl, trivial⟩), trivial⟩ rfl ⟨rfl, closed_renN (fun _ => rfl), trivial⟩ fun td htd => ?_
  refine Safe.ren [(355, 10)] rfl rfl rfl rfl ⟨rfl, closed_renN (fun _ => rfl), trivial⟩ ?_
  refine Safe.endsT Try.func108 htd (r := .tup [.sl 10 0 1 ((textW t).length) none, I 0]) (hp := [(10, .vec 22 1 ((textW t).length) (fun q => renL [(355, 10)] (renL [(10, 355)] (rowG encU (textW t) q))))]) (ob := []) rfl (by kernel_rfl) trivial rfl ⟨?_, trivial⟩ ⟨rfl, fun _ => rfl, trivial⟩ rfl
  all_goals exact ⟨rfl, rfl, rfl, fun _ _ => rfl⟩
def fbyte (L : List Int) (i : Nat) : Int := IntKind.u8.wrap (L.getD (1 + (i : Int) / 8).toNat default / 2 ^ (8 * ((i : Int) % 8)).toNat)
theorem fbyte_bd (L : List Int) (i : Nat) : 0 ≤ fbyte L i ∧ fbyte L i < 256 := by
  unfold fbyte
  generalize L.getD (1 + (i : Int) / 8).toNat default / 2 ^ (8 * ((i : Int) % 8)).toNat = z
  simp [IntKind.wrap, IntKind.signed, IntKind.bits]
  omega
def fromT (L : List Int) (n : Nat) : ByteArray := ⟨((List.range n).map fun q => UInt8.ofNat (fbyte L q).toNat).toArray⟩
theorem fromT_size (L : List Int) (n : Nat) : (fromT L n).size = n := by simp [fromT, ByteArray.size]
theorem fromT_at (L : List Int) (n q : Nat) (h : q < n) : byteAt (fromT L n) q = fbyte L q := by
  unfold byteAt fromT
  have hb := fbyte_bd L q
  have : (fbyte L q).toNat % 256 = (fbyte L q).toNat := Nat.mod_eq_of_lt (by omega)
  simp only [List.getElem?_map, List.getElem?_range h, Option.map_some, Option.getD_some, UInt8.toNat_ofNat', this]
  omega
def encB8 (x : Int) : List AV := [U8 x]
def fb (L : List Int) (N i : Nat) : List Int := (List.range N).map fun q => if q < i then fbyte L q else 0
theorem fb_len (L : List Int) (N i : Nat) : (fb L N i).length = N := by simp [fb]
theorem fb_set (L : List Int) (N i : Nat) (hi : i < N) : (fb L N i).set i (fbyte L i) = fb L N (i + 1) := by
  refine List.ext_getElem (by simp [fb_len]) fun q h1 h2 => ?_
  simp only [fb, List.getElem_set, List.getElem_map, List.getElem_range]
  by_cases e : i = q
  · subst e; simp
  · rw [if_neg e]
    by_cases h : q < i
    · rw [if_pos h, if_pos (by omega)]
    · rw [if_neg h, if_neg (by omega)]
theorem ob_setB {ty n i : Nat} (L : List Int) (x : Int) (r : List AV) (hn : n = L.length) (h : r = encB8 x) : ObLe (.vec ty 1 n (setRow (rowG encB8 L) i r)) (.vec ty 1 n (rowG encB8 (L.set i x))) := by
  obtain ⟨_, _, e, h4⟩ := ob_set (ty := ty) (es := 1) (n := n) (i := i) encB8 L x r hn h
  exact ⟨rfl, rfl, rfl, fun q hq => h4 q (by rw [← e]; exact hq)⟩
theorem fb_row (L : List Int) (N i q : Nat) (hq : q < N) (hi : q < i) : rowG encB8 (fb L N i) q = [U8 (fbyte L q)] := by
  unfold rowG encB8 fb
  rw [List.getD_eq_getElem?_getD, List.getElem?_map, List.getElem?_range hq]
  simp [hi]
theorem rowstr (L : List Int) (N n i : Nat) (hn : n ≤ N) (hi : n ≤ i) : RowStr (fromT L n) n (rowG encB8 (fb L N i)) :=
  ⟨fromT_size L n, fun q hq => by
    rw [fb_row L N i q (by omega) (by omega)]
    unfold strRow
    rw [fromT_at L n q hq]⟩
end Go.Proofs.Ytbgbjgedjmhcaaa
namespace Go.Proofs.Ytbgbjgedjmhcaaa
open Go.RowKit
def fromOK (L : List Int) (n : Nat) : Prop := L.getD 0 default = (n : Int) ∧ n ≤ 8192 ∧ L.length = ln n
def pads (L : List Int) (n N : Nat) : Prop := ∀ i, n ≤ i → i < N → fbyte L i = 0
def nB (n : Nat) : Nat := 8 * (ln n - 1)
theorem fb_zero {ty : Nat} {N : Nat} {σ : List (Nat × Nat)} (L : List Int) : ObLe (.vec ty 1 N (fun q => renL σ ((fun _ => [U8 0]) q))) (.vec ty 1 N (rowG encB8 (fb L N 0))) := by
  refine ⟨rfl, rfl, rfl, fun q hq => ?_⟩
  unfold rowG encB8 fb
  rw [List.getD_eq_getElem?_getD, List.getElem?_map, List.getElem?_range hq]
  rfl
theorem ft_ok (L : List Int) (n : Nat) (hw : Wf L) (hf : fromOK L n) (hp : pads L n (nB n)) : CallOK Try.prog 117 [.sl 0 0 1 L.length none] [(0, .ro 1 L.length (rowG encU L))] (.tup [S (fromT L n), I 0]) [] := by
  obtain ⟨h0, hn, hl⟩ := hf
  have hbd := ln_bd n
  obtain ⟨N, hN⟩ : ∃ N, N = nB n := ⟨_, rfl⟩
  rw [← hN] at hp
  unfold nB at hN
  have lg := length_any n (by omega)
  have qz : ¬ (L.length : Int) = 0 := by omega
  have qg : ¬ L.getD 0 default > 8192 := by omega
  have ql : ¬ ¬ (L.length : Int) = ((ln n : Nat) : Int) := by omega
  refine CallOK.intro Try.call117 Try.func117 rfl rfl ⟨rfl, fun _ => rfl, trivial⟩ ?_
  refine Safe.withLoop (loopAt Try.f117 0) [0, 20] 69 (fun i : Nat => [(0, .sl 0 0 1 L.length none), (4, I n), (5, .sl 20 0 1 N none), (36, I N), (37, I i)]) (fun i => [(0, .ro 1 L.length (rowG encU L)), (20, .vec 5 1 N (rowG encB8 (fb L N i)))]) (fun i => i ≤ N) (fun i => N - i) ?_ ?_
  · intro i hi ih
    by_cases hlt : i < N
    · have h1 : (i : Int) < (N : Int) := by omega
      have w8 := hw.at (1 + (i : Int) / 8).toNat
      have ef : fbyte L i = IntKind.u8.wrap (L.getD (1 + (i : Int) / 8).toNat default / 2 ^ (8 * ((i : Int) % 8)).toNat) := rfl
      have hset : ObLe (.vec 5 1 N (setRow (rowG encB8 (fb L N i)) i [U8 (fbyte L i)])) (.vec 5 1 N (rowG encB8 (fb L N (i + 1)))) := by
        rw [← fb_set L N i hlt]
        exact ob_setB _ _ _ (fb_len L N i).symm rfl
      rw [ef] at hset
      have e1 : setRow (rowG encB8 (fb L N i)) i [U8 (IntKind.u8.wrap (L.getD (1 + (i : Int) / 8).toNat default / 2 ^ (8 * ((i : Int) % 8)).toNat))] i = [U8 (IntKind.u8.wrap (L.getD (1 + (i : Int) / 8).toNat default / 2 ^ (8 * ((i : Int) % 8)).toNat))] := by simp [setRow]
      by_cases hni : n ≤ i
      · have h2 : (i : Int) ≥ (n : Int) := by omega
        have hz := hp i hni hlt
        rw [ef] at hz
        have hz2 : ¬ ¬ IntKind.u8.wrap (L.getD (1 + (i : Int) / 8).toNat default / 2 ^ (8 * ((i : Int) % 8)).toNat) = 0 := fun h => h hz
        clear ef
        refine Safe.goto mixed 18 [⟨1100, [(0, .tt true)]⟩, ⟨1200, []⟩, ⟨1300, [(12, .wrap)]⟩, ⟨1400, [(2, .tt true), (7, .row [.val (Value.int IntKind.u8 (IntKind.u8.wrap (L.getD ((1 : Int) + (↑i : Int) / (8 : Int)).toNat default / (2 : Int) ^ ((8 : Int) * ((↑i : Int) % (8 : Int))).toNat)))]), (8, .tt false)]⟩, ⟨1500, []⟩] [0, 4, 5, 36, 37] [0, 20] (todo' := loopAt Try.f117 0) (sl := slotsOf 69 [(0, .sl 0 0 1 L.length none), (4, I ↑n), (5, .sl 20 0 1 N none), (36, I ↑N), (37, I ((↑i : Int) + (1 : Int)))]) (hp := [(0, .ro 1 L.length (rowG encU L)), (20, .vec 5 1 N (setRow (rowG encB8 (fb L N i)) i [AV.val (Value.int IntKind.u8 (IntKind.u8.wrap (L.getD ((1 : Int) + (↑i : Int) / (8 : Int)).toNat default / (2 : Int) ^ ((8 : Int) * ((↑i : Int) % (8 : Int))).toNat)))]))]) (ob := [decide ((↑i : Int) < (↑N : Int)) = true, (0 : Int) ≤ (↑i : Int) ∧ (0 : Int) < (8 : Int), inK IntKind.i64 ((↑i : Int) / (8 : Int)), inK IntKind.i64 ((1 : Int) + (↑i : Int) / (8 : Int)), (0 : Int) ≤ (1 : Int) + (↑i : Int) / (8 : Int) ∧ (1 : Int) + (↑i : Int) / (8 : Int) < (↑L.length : Int), ((1 : Int) + (↑i : Int) / (8 : Int)).toNat < L.length, (0 : Int) ≤ (↑i : Int) ∧ (0 : Int) < (8 : Int), inK IntKind.i64 ((8 : Int) * ((↑i : Int) % (8 : Int))), (0 : Int) ≤ (8 : Int) * ((↑i : Int) % (8 : Int)) ∧ (8 : Int) * ((↑i : Int) % (8 : Int)) ≤ (↑IntKind.u64.bits : Int), (0 : Int) ≤ (↑i : Int) ∧ (↑i : Int) < (↑N : Int), i < N, decide ((↑i : Int) ≥ (↑n : Int)) = true, (0 : Int) ≤ (↑i : Int) ∧ (↑i : Int) < (↑N : Int), i < N, List.drop 0 (setRow (rowG encB8 (fb L N i)) i [AV.val (Value.int IntKind.u8 (IntKind.u8.wrap (L.getD ((1 : Int) + (↑i : Int) / (8 : Int)).toNat default / (2 : Int) ^ ((8 : Int) * ((↑i : Int) % (8 : Int))).toNat)))] i) = [AV.val (Value.int IntKind.u8 (IntKind.u8.wrap (L.getD ((1 : Int) + (↑i : Int) / (8 : Int)).toNat default / (2 : Int) ^ ((8 : Int) * ((↑i : Int) % (8 : Int))).toNat)))], (decide ¬IntKind.u8.wrap (L.getD ((1 : Int) + (↑i : Int) / (8 : Int)).toNat default / (2 : Int) ^ ((8 : Int) * ((↑i : Int) % (8 : Int))).toNat) = (0 : Int)) = false, inK IntKind.i64 ((↑i : Int) + (1 : Int))]) rfl rfl (by kernel_rfl) ⟨(decide_eq_true h1), (by first | omega | assumption | rfl), (by simp only [inK]; first | omega | assumption | rfl), (by simp only [inK]; first | omega | assumption | rfl), (by first | omega | assumption | rfl), (by first | omega | assumption | rfl), (by first | omega | assumption | rfl), (by simp only [inK]; first | omega | assumption | rfl), (by first | decide | (simp only [Go.IntKind.bits]; first | omega | assumption | rfl)), (by first | omega | assumption | rfl), (by first | omega | assumption | rfl), (decide_eq_true h2), (by first | omega | assumption | rfl), (by first | omega | assumption | rfl), (by first | omega | assumption | rfl), (decide_eq_false (fun hn => hn hz)), (by simp only [inK]; first | omega | assumption | rfl), trivial⟩ rfl ⟨rfl, fun _ => rfl, rfl, closed_set (fun _ => rfl) rfl, trivial⟩ ?_
        all_goals exact Safe.leH (ih (i + 1) (by omega) (by omega)) rfl (SlLe.refl _) ⟨ObLe.refl _, hset, trivial⟩ rfl ⟨rfl, fun _ => rfl, rfl, fun _ => rfl, trivial⟩
      · have h2 : ¬ (i : Int) ≥ (n : Int) := by omega
        refine Safe.goto mixed 18 [⟨1100, [(0, .tt true)]⟩, ⟨1200, []⟩, ⟨1300, [(12, .wrap)]⟩, ⟨1400, [(2, .tt false)]⟩, ⟨1500, []⟩] [0, 4, 5, 36, 37] [0, 20] (todo' := loopAt Try.f117 0) (sl := slotsOf 69 [(0, .sl 0 0 1 L.length none), (4, I ↑n), (5, .sl 20 0 1 N none), (36, I ↑N), (37, I ((↑i : Int) + (1 : Int)))]) (hp := [(0, .ro 1 L.length (rowG encU L)), (20, .vec 5 1 N (setRow (rowG encB8 (fb L N i)) i [AV.val (Value.int IntKind.u8 (IntKind.u8.wrap (L.getD ((1 : Int) + (↑i : Int) / (8 : Int)).toNat default / (2 : Int) ^ ((8 : Int) * ((↑i : Int) % (8 : Int))).toNat)))]))]) (ob := [decide ((↑i : Int) < (↑N : Int)) = true, (0 : Int) ≤ (↑i : Int) ∧ (0 : Int) < (8 : Int), inK IntKind.i64 ((↑i : Int) / (8 : Int)), inK IntKind.i64 ((1 : Int) + (↑i : Int) / (8 : Int)), (0 : Int) ≤ (1 : Int) + (↑i : Int) / (8 : Int) ∧ (1 : Int) + (↑i : Int) / (8 : Int) < (↑L.length : Int), ((1 : Int) + (↑i : Int) / (8 : Int)).toNat < L.length, (0 : Int) ≤ (↑i : Int) ∧ (0 : Int) < (8 : Int), inK IntKind.i64 ((8 : Int) * ((↑i : Int) % (8 : Int))), (0 : Int) ≤ (8 : Int) * ((↑i : Int) % (8 : Int)) ∧ (8 : Int) * ((↑i : Int) % (8 : Int)) ≤ (↑IntKind.u64.bits : Int), (0 : Int) ≤ (↑i : Int) ∧ (↑i : Int) < (↑N : Int), i < N, decide ((↑i : Int) ≥ (↑n : Int)) = false, inK IntKind.i64 ((↑i : Int) + (1 : Int))]) rfl rfl (by kernel_rfl) ⟨(decide_eq_true h1), (by first | omega | assumption | rfl), (by simp only [inK]; first | omega | assumption | rfl), (by simp only [inK]; first | omega | assumption | rfl), (by first | omega | assumption | rfl), (by first | omega | assumption | rfl), (by first | omega | assumption | rfl), (by simp only [inK]; first | omega | assumption | rfl), (by first | decide | (simp only [Go.IntKind.bits]; first | omega | assumption | rfl)), (by first | omega | assumption | rfl), (by first | omega | assumption | rfl), (decide_eq_false h2), (by simp only [inK]; first | omega | assumption | rfl), trivial⟩ rfl ⟨rfl, fun _ => rfl, rfl, closed_set (fun _ => rfl) rfl, trivial⟩ ?_
        all_goals exact Safe.leH (ih (i + 1) (by omega) (by omega)) rfl (SlLe.refl _) ⟨ObLe.refl _, hset, trivial⟩ rfl ⟨rfl, fun _ => rfl, rfl, fun _ => rfl, trivial⟩
    · have hn2 : ¬ (i : Int) < (N : Int) := by omega
      obtain rfl : i = N := by omega
      have rs := rowstr L i n i (by omega) (by omega)
      refine Safe.ends mixed Try.func117 7 [⟨1100, [(0, .tt false)]⟩, ⟨1200, [(3, .is (S (fromT L n)))]⟩] (r := .tup [S (fromT L n), I 0]) (hp := [(0, .ro 1 L.length (rowG encU L))]) (ob := [decide ((↑i : Int) < (↑i : Int)) = false, (0 : Int) ≤ (↑n : Int) ∧ (↑n : Int) ≤ (↑i : Int), 0 + n ≤ i, RowStr (fromT L n) n (rowG encB8 (fb L i i)), AV.val (Value.string (fromT L n)) = AV.val (Value.string (fromT L n))]) rfl (by kernel_rfl) ⟨(decide_eq_false hn2), (by first | omega | assumption | rfl), (by first | omega | assumption | rfl), (by first | omega | assumption | rfl), (by first | omega | assumption | rfl), trivial⟩ rfl ⟨ObLe.refl _, trivial⟩ ⟨rfl, fun _ => rfl, trivial⟩ rfl
      all_goals skip
  · intro H
    refine Safe.goto mixed 16 [⟨1100, []⟩, ⟨1200, [(2, .tt false), (7, .tt false), (15, .is (I ↑n)), (16, .call [] (I ((↑(ln n) : Int))) []), (17, .tt false)]⟩, ⟨1300, [(3, .is (I ↑n))]⟩, ⟨1400, [(3, .is (I ↑N))]⟩, ⟨1500, []⟩] [0, 4, 5, 36, 37] [0, 1404] (todo' := loopAt Try.f117 0) (sl := slotsOf 69 [(0, .sl 0 0 1 L.length none), (4, I ↑n), (5, .sl 1404 0 1 N none), (36, I ↑N), (37, I 0)]) (hp := [(0, .ro 1 L.length (rowG encU L)), (1404, .vec 5 1 N (fun x => List.map AV.val (Value.int IntKind.u8 (0 : Int)).cells.toList))]) (ob := [decide ((↑L.length : Int) = (0 : Int)) = false, (0 : Int) ≤ (0 : Int) ∧ (0 : Int) < (↑L.length : Int), 0 < L.length, decide (L.getD 0 default > (8192 : Int)) = false, (0 : Int) ≤ (0 : Int) ∧ (0 : Int) < (↑L.length : Int), 0 < L.length, inK IntKind.i64 (L.getD 0 default), I (L.getD 0 default) = I ↑n, CallOK Try.prog 118 ([] ++ [I ↑n] ++ []) [] (I (↑(ln n) : Int)) [], (decide ¬(↑L.length : Int) = (↑(ln n) : Int)) = false, (0 : Int) ≤ (0 : Int) ∧ (0 : Int) < (↑L.length : Int), 0 < L.length, inK IntKind.i64 (L.getD 0 default), I (L.getD 0 default) = I ↑n, inK IntKind.i64 ((↑L.length : Int) - (1 : Int)), inK IntKind.i64 ((8 : Int) * ((↑L.length : Int) - (1 : Int))), I ((8 : Int) * ((↑L.length : Int) - (1 : Int))) = I ↑N, (0 : Int) ≤ (↑N : Int) ∧ (↑N : Int) ≤ (↑N : Int) ∧ (↑N : Int) ≤ (1099511627776 : Int)]) rfl rfl (by kernel_rfl) ⟨(decide_eq_false qz), (by first | omega | assumption | exact congrArg (fun z => I z) (by omega)), (by first | omega | assumption | exact congrArg (fun z => I z) (by omega)), (decide_eq_false qg), (by first | omega | assumption | exact congrArg (fun z => I z) (by omega)), (by first | omega | assumption | exact congrArg (fun z => I z) (by omega)), (by simp only [inK]; first | omega | assumption | exact congrArg (fun z => I z) (by omega)), (by first | omega | assumption | exact congrArg (fun z => I z) (by omega)), lg, (decide_eq_false ql), (by first | omega | assumption | exact congrArg (fun z => I z) (by omega)), (by first | omega | assumption | exact congrArg (fun z => I z) (by omega)), (by simp only [inK]; first | omega | assumption | exact congrArg (fun z => I z) (by omega)), (by first | omega | assumption | exact congrArg (fun z => I z) (by omega)), (by simp only [inK]; first | omega | assumption | exact congrArg (fun z => I z) (by omega)), (by simp only [inK]; first | omega | assumption | exact congrArg (fun z => I z) (by omega)), (by first | omega | assumption | exact congrArg (fun z => I z) (by omega)), (by first | omega | assumption | exact congrArg (fun z => I z) (by omega)), trivial⟩ rfl ⟨rfl, fun _ => rfl, rfl, fun _ => rfl, trivial⟩ ?_
    refine Safe.ren [(1404, 20)] rfl rfl rfl rfl ⟨rfl, fun _ => rfl, rfl, fun _ => rfl, trivial⟩ ?_
    all_goals exact Safe.leH (H 0 (by omega)) rfl (SlLe.refl _) ⟨ObLe.refl _, fb_zero L, trivial⟩ rfl ⟨rfl, fun _ => rfl, rfl, fun _ => rfl, trivial⟩
end Go.Proofs.Ytbgbjgedjmhcaaa
namespace Go.Proofs.Ytbgbjgedjmhcaaa
open Go.RowKit
theorem first_at (p : Nat → Prop) : ∀ N n, (∃ i, n ≤ i ∧ i < n + N ∧ p i) → ∃ k, n ≤ k ∧ k < n + N ∧ p k ∧ ∀ j, n ≤ j → j < k → ¬ p j
  | 0, n, ⟨i, h1, h2, _⟩ => by omega
  | N + 1, n, ⟨i, h1, h2, h3⟩ => by
    by_cases h : p n
    · exact ⟨n, Nat.le_refl _, by omega, h, fun j _ _ => by omega⟩
    · have hne : i ≠ n := fun e => h (e ▸ h3)
      obtain ⟨k, k1, k2, k3, k4⟩ := first_at p N (n + 1) ⟨i, by omega, by omega, h3⟩
      refine ⟨k, by omega, by omega, k3, fun j j1 j2 => ?_⟩
      by_cases e : j = n
      · rw [e]; exact h
      · exact k4 j (by omega) j2
theorem first_pad {L : List Int} {n N : Nat} (h : ¬ pads L n N) : ∃ k, n ≤ k ∧ k < N ∧ ¬ fbyte L k = 0 ∧ ∀ j, n ≤ j → j < k → fbyte L j = 0 := by
  have : ∃ i, n ≤ i ∧ i < n + (N - n) ∧ ¬ fbyte L i = 0 := by
    refine Classical.byContradiction fun hc => h fun i h1 h2 => Classical.byContradiction fun h3 => hc ⟨i, h1, by omega, h3⟩
  obtain ⟨k, k1, k2, k3, k4⟩ := first_at (fun i => ¬ fbyte L i = 0) (N - n) n this
  exact ⟨k, k1, by omega, k3, fun j h1 h2 => Classical.not_not.1 (k4 j h1 h2)⟩
theorem ft_pad (L : List Int) (n : Nat) (hw : Wf L) (hf : fromOK L n) (hq : ¬ pads L n (nB n)) : CallOK Try.prog 117 [.sl 0 0 1 L.length none] [(0, .ro 1 L.length (rowG encU L))] (.tup [.val (.string ⟨#[]⟩), I 2]) [] := by
  obtain ⟨h0, hn, hl⟩ := hf
  have hbd := ln_bd n
  obtain ⟨N, hN⟩ : ∃ N, N = nB n := ⟨_, rfl⟩
  rw [← hN] at hq
  obtain ⟨k0, hk1, hk2, hk3, hp⟩ := first_pad hq
  unfold nB at hN
  have lg := length_any n (by omega)
  have qz : ¬ (L.length : Int) = 0 := by omega
  have qg : ¬ L.getD 0 default > 8192 := by omega
  have ql : ¬ ¬ (L.length : Int) = ((ln n : Nat) : Int) := by omega
  refine CallOK.intro Try.call117 Try.func117 rfl rfl ⟨rfl, fun _ => rfl, trivial⟩ ?_
  refine Safe.withLoop (loopAt Try.f117 0) [0, 20] 69 (fun i : Nat => [(0, .sl 0 0 1 L.length none), (4, I n), (5, .sl 20 0 1 N none), (36, I N), (37, I i)]) (fun i => [(0, .ro 1 L.length (rowG encU L)), (20, .vec 5 1 N (rowG encB8 (fb L N i)))]) (fun i => i ≤ k0) (fun i => N - i) ?_ ?_
  · intro i hi ih
    have hlt : i < N := by omega
    have h1 : (i : Int) < (N : Int) := by omega
    have w8 := hw.at (1 + (i : Int) / 8).toNat
    have ef : fbyte L i = IntKind.u8.wrap (L.getD (1 + (i : Int) / 8).toNat default / 2 ^ (8 * ((i : Int) % 8)).toNat) := rfl
    have hset : ObLe (.vec 5 1 N (setRow (rowG encB8 (fb L N i)) i [U8 (fbyte L i)])) (.vec 5 1 N (rowG encB8 (fb L N (i + 1)))) := by
      rw [← fb_set L N i hlt]
      exact ob_setB _ _ _ (fb_len L N i).symm rfl
    rw [ef] at hset
    have e1 : setRow (rowG encB8 (fb L N i)) i [U8 (IntKind.u8.wrap (L.getD (1 + (i : Int) / 8).toNat default / 2 ^ (8 * ((i : Int) % 8)).toNat))] i = [U8 (IntKind.u8.wrap (L.getD (1 + (i : Int) / 8).toNat default / 2 ^ (8 * ((i : Int) % 8)).toNat))] := by simp [setRow]
    by_cases hik : i = k0
    · subst hik
      have h2 : (i : Int) ≥ (n : Int) := by omega
      rw [ef] at hk3
      clear ef
      refine Safe.ends mixed Try.func117 16 [⟨1100, [(0, .tt true)]⟩, ⟨1200, []⟩, ⟨1300, [(12, .wrap)]⟩, ⟨1400, [(2, .tt true), (7, .row [.val (Value.int IntKind.u8 (IntKind.u8.wrap (L.getD ((1 : Int) + (↑i : Int) / (8 : Int)).toNat default / (2 : Int) ^ ((8 : Int) * ((↑i : Int) % (8 : Int))).toNat)))]), (8, .tt true)]⟩, ⟨1500, []⟩] (r := .tup [S (ByteArray.mk #[]), I 2]) (hp := [(0, .ro 1 L.length (rowG encU L))]) (ob := [decide ((↑i : Int) < (↑N : Int)) = true, (0 : Int) ≤ (↑i : Int) ∧ (0 : Int) < (8 : Int), inK IntKind.i64 ((↑i : Int) / (8 : Int)), inK IntKind.i64 ((1 : Int) + (↑i : Int) / (8 : Int)), (0 : Int) ≤ (1 : Int) + (↑i : Int) / (8 : Int) ∧ (1 : Int) + (↑i : Int) / (8 : Int) < (↑L.length : Int), ((1 : Int) + (↑i : Int) / (8 : Int)).toNat < L.length, (0 : Int) ≤ (↑i : Int) ∧ (0 : Int) < (8 : Int), inK IntKind.i64 ((8 : Int) * ((↑i : Int) % (8 : Int))), (0 : Int) ≤ (8 : Int) * ((↑i : Int) % (8 : Int)) ∧ (8 : Int) * ((↑i : Int) % (8 : Int)) ≤ (↑IntKind.u64.bits : Int), (0 : Int) ≤ (↑i : Int) ∧ (↑i : Int) < (↑N : Int), i < N, decide ((↑i : Int) ≥ (↑n : Int)) = true, (0 : Int) ≤ (↑i : Int) ∧ (↑i : Int) < (↑N : Int), i < N, List.drop 0 (setRow (rowG encB8 (fb L N i)) i [AV.val (Value.int IntKind.u8 (IntKind.u8.wrap (L.getD ((1 : Int) + (↑i : Int) / (8 : Int)).toNat default / (2 : Int) ^ ((8 : Int) * ((↑i : Int) % (8 : Int))).toNat)))] i) = [AV.val (Value.int IntKind.u8 (IntKind.u8.wrap (L.getD ((1 : Int) + (↑i : Int) / (8 : Int)).toNat default / (2 : Int) ^ ((8 : Int) * ((↑i : Int) % (8 : Int))).toNat)))], (decide ¬IntKind.u8.wrap (L.getD ((1 : Int) + (↑i : Int) / (8 : Int)).toNat default / (2 : Int) ^ ((8 : Int) * ((↑i : Int) % (8 : Int))).toNat) = (0 : Int)) = true]) rfl (by kernel_rfl) ⟨(decide_eq_true h1), (by first | omega | assumption | rfl), (by simp only [inK]; first | omega | assumption | rfl), (by simp only [inK]; first | omega | assumption | rfl), (by first | omega | assumption | rfl), (by first | omega | assumption | rfl), (by first | omega | assumption | rfl), (by simp only [inK]; first | omega | assumption | rfl), (by first | decide | (simp only [Go.IntKind.bits]; first | omega | assumption | rfl)), (by first | omega | assumption | rfl), (by first | omega | assumption | rfl), (decide_eq_true h2), (by first | omega | assumption | rfl), (by first | omega | assumption | rfl), (by first | omega | assumption | rfl), (decide_eq_true hk3), trivial⟩ rfl ⟨ObLe.refl _, trivial⟩ ⟨rfl, fun _ => rfl, trivial⟩ rfl
    · by_cases hni : n ≤ i
      · have h2 : (i : Int) ≥ (n : Int) := by omega
        have hz := hp i hni (by omega)
        rw [ef] at hz
        have hz2 : ¬ ¬ IntKind.u8.wrap (L.getD (1 + (i : Int) / 8).toNat default / 2 ^ (8 * ((i : Int) % 8)).toNat) = 0 := fun h => h hz
        clear ef
        refine Safe.goto mixed 18 [⟨1100, [(0, .tt true)]⟩, ⟨1200, []⟩, ⟨1300, [(12, .wrap)]⟩, ⟨1400, [(2, .tt true), (7, .row [.val (Value.int IntKind.u8 (IntKind.u8.wrap (L.getD ((1 : Int) + (↑i : Int) / (8 : Int)).toNat default / (2 : Int) ^ ((8 : Int) * ((↑i : Int) % (8 : Int))).toNat)))]), (8, .tt false)]⟩, ⟨1500, []⟩] [0, 4, 5, 36, 37] [0, 20] (todo' := loopAt Try.f117 0) (sl := slotsOf 69 [(0, .sl 0 0 1 L.length none), (4, I ↑n), (5, .sl 20 0 1 N none), (36, I ↑N), (37, I ((↑i : Int) + (1 : Int)))]) (hp := [(0, .ro 1 L.length (rowG encU L)), (20, .vec 5 1 N (setRow (rowG encB8 (fb L N i)) i [AV.val (Value.int IntKind.u8 (IntKind.u8.wrap (L.getD ((1 : Int) + (↑i : Int) / (8 : Int)).toNat default / (2 : Int) ^ ((8 : Int) * ((↑i : Int) % (8 : Int))).toNat)))]))]) (ob := [decide ((↑i : Int) < (↑N : Int)) = true, (0 : Int) ≤ (↑i : Int) ∧ (0 : Int) < (8 : Int), inK IntKind.i64 ((↑i : Int) / (8 : Int)), inK IntKind.i64 ((1 : Int) + (↑i : Int) / (8 : Int)), (0 : Int) ≤ (1 : Int) + (↑i : Int) / (8 : Int) ∧ (1 : Int) + (↑i : Int) / (8 : Int) < (↑L.length : Int), ((1 : Int) + (↑i : Int) / (8 : Int)).toNat < L.length, (0 : Int) ≤ (↑i : Int) ∧ (0 : Int) < (8 : Int), inK IntKind.i64 ((8 : Int) * ((↑i : Int) % (8 : Int))), (0 : Int) ≤ (8 : Int) * ((↑i : Int) % (8 : Int)) ∧ (8 : Int) * ((↑i : Int) % (8 : Int)) ≤ (↑IntKind.u64.bits : Int), (0 : Int) ≤ (↑i : Int) ∧ (↑i : Int) < (↑N : Int), i < N, decide ((↑i : Int) ≥ (↑n : Int)) = true, (0 : Int) ≤ (↑i : Int) ∧ (↑i : Int) < (↑N : Int), i < N, List.drop 0 (setRow (rowG encB8 (fb L N i)) i [AV.val (Value.int IntKind.u8 (IntKind.u8.wrap (L.getD ((1 : Int) + (↑i : Int) / (8 : Int)).toNat default / (2 : Int) ^ ((8 : Int) * ((↑i : Int) % (8 : Int))).toNat)))] i) = [AV.val (Value.int IntKind.u8 (IntKind.u8.wrap (L.getD ((1 : Int) + (↑i : Int) / (8 : Int)).toNat default / (2 : Int) ^ ((8 : Int) * ((↑i : Int) % (8 : Int))).toNat)))], (decide ¬IntKind.u8.wrap (L.getD ((1 : Int) + (↑i : Int) / (8 : Int)).toNat default / (2 : Int) ^ ((8 : Int) * ((↑i : Int) % (8 : Int))).toNat) = (0 : Int)) = false, inK IntKind.i64 ((↑i : Int) + (1 : Int))]) rfl rfl (by kernel_rfl) ⟨(decide_eq_true h1), (by first | omega | assumption | rfl), (by simp only [inK]; first | omega | assumption | rfl), (by simp only [inK]; first | omega | assumption | rfl), (by first | omega | assumption | rfl), (by first | omega | assumption | rfl), (by first | omega | assumption | rfl), (by simp only [inK]; first | omega | assumption | rfl), (by first | decide | (simp only [Go.IntKind.bits]; first | omega | assumption | rfl)), (by first | omega | assumption | rfl), (by first | omega | assumption | rfl), (decide_eq_true h2), (by first | omega | assumption | rfl), (by first | omega | assumption | rfl), (by first | omega | assumption | rfl), (decide_eq_false (fun hn => hn hz)), (by simp only [inK]; first | omega | assumption | rfl), trivial⟩ rfl ⟨rfl, fun _ => rfl, rfl, closed_set (fun _ => rfl) rfl, trivial⟩ ?_
        all_goals exact Safe.leH (ih (i + 1) (by omega) (by omega)) rfl (SlLe.refl _) ⟨ObLe.refl _, hset, trivial⟩ rfl ⟨rfl, fun _ => rfl, rfl, fun _ => rfl, trivial⟩
      · have h2 : ¬ (i : Int) ≥ (n : Int) := by omega
        refine Safe.goto mixed 18 [⟨1100, [(0, .tt true)]⟩, ⟨1200, []⟩, ⟨1300, [(12, .wrap)]⟩, ⟨1400, [(2, .tt false)]⟩, ⟨1500, []⟩] [0, 4, 5, 36, 37] [0, 20] (todo' := loopAt Try.f117 0) (sl := slotsOf 69 [(0, .sl 0 0 1 L.length none), (4, I ↑n), (5, .sl 20 0 1 N none), (36, I ↑N), (37, I ((↑i : Int) + (1 : Int)))]) (hp := [(0, .ro 1 L.length (rowG encU L)), (20, .vec 5 1 N (setRow (rowG encB8 (fb L N i)) i [AV.val (Value.int IntKind.u8 (IntKind.u8.wrap (L.getD ((1 : Int) + (↑i : Int) / (8 : Int)).toNat default / (2 : Int) ^ ((8 : Int) * ((↑i : Int) % (8 : Int))).toNat)))]))]) (ob := [decide ((↑i : Int) < (↑N : Int)) = true, (0 : Int) ≤ (↑i : Int) ∧ (0 : Int) < (8 : Int), inK IntKind.i64 ((↑i : Int) / (8 : Int)), inK IntKind.i64 ((1 : Int) + (↑i : Int) / (8 : Int)), (0 : Int) ≤ (1 : Int) + (↑i : Int) / (8 : Int) ∧ (1 : Int) + (↑i : Int) / (8 : Int) < (↑L.length : Int), ((1 : Int) + (↑i : Int) / (8 : Int)).toNat < L.length, (0 : Int) ≤ (↑i : Int) ∧ (0 : Int) < (8 : Int), inK IntKind.i64 ((8 : Int) * ((↑i : Int) % (8 : Int))), (0 : Int) ≤ (8 : Int) * ((↑i : Int) % (8 : Int)) ∧ (8 : Int) * ((↑i : Int) % (8 : Int)) ≤ (↑IntKind.u64.bits : Int), (0 : Int) ≤ (↑i : Int) ∧ (↑i : Int) < (↑N : Int), i < N, decide ((↑i : Int) ≥ (↑n : Int)) = false, inK IntKind.i64 ((↑i : Int) + (1 : Int))]) rfl rfl (by kernel_rfl) ⟨(decide_eq_true h1), (by first | omega | assumption | rfl), (by simp only [inK]; first | omega | assumption | rfl), (by simp only [inK]; first | omega | assumption | rfl), (by first | omega | assumption | rfl), (by first | omega | assumption | rfl), (by first | omega | assumption | rfl), (by simp only [inK]; first | omega | assumption | rfl), (by first | decide | (simp only [Go.IntKind.bits]; first | omega | assumption | rfl)), (by first | omega | assumption | rfl), (by first | omega | assumption | rfl), (decide_eq_false h2), (by simp only [inK]; first | omega | assumption | rfl), trivial⟩ rfl ⟨rfl, fun _ => rfl, rfl, closed_set (fun _ => rfl) rfl, trivial⟩ ?_
        all_goals exact Safe.leH (ih (i + 1) (by omega) (by omega)) rfl (SlLe.refl _) ⟨ObLe.refl _, hset, trivial⟩ rfl ⟨rfl, fun _ => rfl, rfl, fun _ => rfl, trivial⟩
  · intro H
    refine Safe.goto mixed 16 [⟨1100, []⟩, ⟨1200, [(2, .tt false), (7, .tt false), (15, .is (I ↑n)), (16, .call [] (I ((↑(ln n) : Int))) []), (17, .tt false)]⟩, ⟨1300, [(3, .is (I ↑n))]⟩, ⟨1400, [(3, .is (I ↑N))]⟩, ⟨1500, []⟩] [0, 4, 5, 36, 37] [0, 1404] (todo' := loopAt Try.f117 0) (sl := slotsOf 69 [(0, .sl 0 0 1 L.length none), (4, I ↑n), (5, .sl 1404 0 1 N none), (36, I ↑N), (37, I 0)]) (hp := [(0, .ro 1 L.length (rowG encU L)), (1404, .vec 5 1 N (fun x => List.map AV.val (Value.int IntKind.u8 (0 : Int)).cells.toList))]) (ob := [decide ((↑L.length : Int) = (0 : Int)) = false, (0 : Int) ≤ (0 : Int) ∧ (0 : Int) < (↑L.length : Int), 0 < L.length, decide (L.getD 0 default > (8192 : Int)) = false, (0 : Int) ≤ (0 : Int) ∧ (0 : Int) < (↑L.length : Int), 0 < L.length, inK IntKind.i64 (L.getD 0 default), I (L.getD 0 default) = I ↑n, CallOK Try.prog 118 ([] ++ [I ↑n] ++ []) [] (I (↑(ln n) : Int)) [], (decide ¬(↑L.length : Int) = (↑(ln n) : Int)) = false, (0 : Int) ≤ (0 : Int) ∧ (0 : Int) < (↑L.length : Int), 0 < L.length, inK IntKind.i64 (L.getD 0 default), I (L.getD 0 default) = I ↑n, inK IntKind.i64 ((↑L.length : Int) - (1 : Int)), inK IntKind.i64 ((8 : Int) * ((↑L.length : Int) - (1 : Int))), I ((8 : Int) * ((↑L.length : Int) - (1 : Int))) = I ↑N, (0 : Int) ≤ (↑N : Int) ∧ (↑N : Int) ≤ (↑N : Int) ∧ (↑N : Int) ≤ (1099511627776 : Int)]) rfl rfl (by kernel_rfl) ⟨(decide_eq_false qz), (by first | omega | assumption | exact congrArg (fun z => I z) (by omega)), (by first | omega | assumption | exact congrArg (fun z => I z) (by omega)), (decide_eq_false qg), (by first | omega | assumption | exact congrArg (fun z => I z) (by omega)), (by first | omega | assumption | exact congrArg (fun z => I z) (by omega)), (by simp only [inK]; first | omega | assumption | exact congrArg (fun z => I z) (by omega)), (by first | omega | assumption | exact congrArg (fun z => I z) (by omega)), lg, (decide_eq_false ql), (by first | omega | assumption | exact congrArg (fun z => I z) (by omega)), (by first | omega | assumption | exact congrArg (fun z => I z) (by omega)), (by simp only [inK]; first | omega | assumption | exact congrArg (fun z => I z) (by omega)), (by first | omega | assumption | exact congrArg (fun z => I z) (by omega)), (by simp only [inK]; first | omega | assumption | exact congrArg (fun z => I z) (by omega)), (by simp only [inK]; first | omega | assumption | exact congrArg (fun z => I z) (by omega)), (by first | omega | assumption | exact congrArg (fun z => I z) (by omega)), (by first | omega | assumption | exact congrArg (fun z => I z) (by omega)), trivial⟩ rfl ⟨rfl, fun _ => rfl, rfl, fun _ => rfl, trivial⟩ ?_
    refine Safe.ren [(1404, 20)] rfl rfl rfl rfl ⟨rfl, fun _ => rfl, rfl, fun _ => rfl, trivial⟩ ?_
    all_goals exact Safe.leH (H 0 (by omega)) rfl (SlLe.refl _) ⟨ObLe.refl _, fb_zero L, trivial⟩ rfl ⟨rfl, fun _ => rfl, rfl, fun _ => rfl, trivial⟩
theorem not_from {L : List Int} (h : ∀ n, ¬ fromOK L n) (hw : Wf L) (h0 : L.length ≠ 0) (hg : ¬ L.getD 0 default > 8192) : ¬ (L.length : Int) = ((ln (L.getD 0 default).toNat : Nat) : Int) := fun e => by
  have w := hw.at 0
  exact h (L.getD 0 default).toNat ⟨by omega, by omega, by omega⟩
theorem ft_bad (L : List Int) (hw : Wf L) (hf : ∀ n, ¬ fromOK L n) : CallOK Try.prog 117 [.sl 0 0 1 L.length none] [(0, .ro 1 L.length (rowG encU L))] (.tup [.val (.string ⟨#[]⟩), I 2]) [] := by
  have w := hw.at 0
  by_cases h0 : L.length = 0
  · have qz : (L.length : Int) = 0 := by omega
    refine CallOK.intro Try.call117 Try.func117 rfl rfl ⟨rfl, fun _ => rfl, trivial⟩ ?_
    refine Safe.ends mixed Try.func117 8 [⟨1100, []⟩, ⟨1200, [(2, .tt true)]⟩, ⟨1300, []⟩] (r := .tup [S (ByteArray.mk #[]), I 2]) (hp := [(0, .ro 1 L.length (rowG encU L))]) (ob := [decide ((↑L.length : Int) = (0 : Int)) = true]) rfl (by kernel_rfl) ⟨(decide_eq_true qz), trivial⟩ rfl ⟨ObLe.refl _, trivial⟩ ⟨rfl, fun _ => rfl, trivial⟩ rfl
  have qz : ¬ (L.length : Int) = 0 := by omega
  by_cases hg : L.getD 0 default > 8192
  · refine CallOK.intro Try.call117 Try.func117 rfl rfl ⟨rfl, fun _ => rfl, trivial⟩ ?_
    refine Safe.ends mixed Try.func117 8 [⟨1100, []⟩, ⟨1200, [(2, .tt false), (7, .tt true)]⟩, ⟨1300, []⟩] (r := .tup [S (ByteArray.mk #[]), I 2]) (hp := [(0, .ro 1 L.length (rowG encU L))]) (ob := [decide ((↑L.length : Int) = (0 : Int)) = false, (0 : Int) ≤ (0 : Int) ∧ (0 : Int) < (↑L.length : Int), 0 < L.length, decide (L.getD 0 default > (8192 : Int)) = true]) rfl (by kernel_rfl) ⟨(decide_eq_false qz), (by omega), (by omega), (decide_eq_true hg), trivial⟩ rfl ⟨ObLe.refl _, trivial⟩ ⟨rfl, fun _ => rfl, trivial⟩ rfl
  · have ql := not_from hf hw h0 hg
    obtain ⟨n, hn⟩ : ∃ n, n = (L.getD 0 default).toNat := ⟨_, rfl⟩
    rw [← hn] at ql
    have lg := length_any n (by omega)
    refine CallOK.intro Try.call117 Try.func117 rfl rfl ⟨rfl, fun _ => rfl, trivial⟩ ?_
    refine Safe.ends mixed Try.func117 8 [⟨1100, []⟩, ⟨1200, [(2, .tt false), (7, .tt false), (15, .is (I ↑n)), (16, .call [] (I ((↑(ln n) : Int))) []), (17, .tt true)]⟩, ⟨1300, []⟩] (r := .tup [S (ByteArray.mk #[]), I 2]) (hp := [(0, .ro 1 L.length (rowG encU L))]) (ob := [decide ((↑L.length : Int) = (0 : Int)) = false, (0 : Int) ≤ (0 : Int) ∧ (0 : Int) < (↑L.length : Int), 0 < L.length, decide (L.getD 0 default > (8192 : Int)) = false, (0 : Int) ≤ (0 : Int) ∧ (0 : Int) < (↑L.length : Int), 0 < L.length, inK IntKind.i64 (L.getD 0 default), I (L.getD 0 default) = I ↑n, CallOK Try.prog 118 ([] ++ [I ↑n] ++ []) [] (I (↑(ln n) : Int)) [], (decide ¬(↑L.length : Int) = (↑(ln n) : Int)) = true]) rfl (by kernel_rfl) ⟨(decide_eq_false qz), (by first | omega | assumption | exact congrArg (fun z => I z) (by omega)), (by first | omega | assumption | exact congrArg (fun z => I z) (by omega)), (decide_eq_false hg), (by first | omega | assumption | exact congrArg (fun z => I z) (by omega)), (by first | omega | assumption | exact congrArg (fun z => I z) (by omega)), (by simp only [inK]; first | omega | assumption | exact congrArg (fun z => I z) (by omega)), (by first | omega | assumption | exact congrArg (fun z => I z) (by omega)), lg, (decide_eq_true ql), trivial⟩ rfl ⟨ObLe.refl _, trivial⟩ ⟨rfl, fun _ => rfl, trivial⟩ rfl
end Go.Proofs.Ytbgbjgedjmhcaaa
namespace Go.Proofs.Ytbgbjgedjmhcaaa
open Go.RowKit
theorem rft_ok (L : List Int) (n : Nat) (hw : Wf L) (hf : fromOK L n) (hp : pads L n (nB n)) : CallOK Try.prog 112 [.sl 0 0 1 L.length none] [(0, .ro 1 L.length (rowG encU L))] (.tup [S (fromT L n), I 0]) [] := by
  obtain ⟨h0, hn, hl⟩ := hf
  have hbd := ln_bd n
  obtain ⟨N, hN⟩ : ∃ N, N = nB n := ⟨_, rfl⟩
  rw [← hN] at hp
  unfold nB at hN
  have lg := rlength_any n (by omega)
  have qz : ¬ (L.length : Int) = 0 := by omega
  have qg : ¬ L.getD 0 default > 8 * (L.length : Int) := by omega
  have ql : ¬ ¬ ((ln n : Nat) : Int) = (L.length : Int) := by omega
  refine CallOK.intro Try.call112 Try.func112 rfl rfl ⟨rfl, fun _ => rfl, trivial⟩ ?_
  refine Safe.withLoop (loopAt Try.f112 0) [0, 20] 67 (fun i : Nat => [(0, .sl 0 0 1 L.length none), (4, I n), (5, .sl 20 0 1 n none), (6, I i)]) (fun i => [(0, .ro 1 L.length (rowG encU L)), (20, .vec 5 1 n (rowG encB8 (fb L n i)))]) (fun i => i ≤ N) (fun i => N - i) ?_ ?_
  · intro i hi ih
    by_cases hlt : i < N
    · skip
      have h1 : (i : Int) < 8 * ((L.length : Int) - 1) := by omega
      have w8 := hw.at (1 + (i : Int) / 8).toNat
      have ef : fbyte L i = IntKind.u8.wrap (L.getD (1 + (i : Int) / 8).toNat default / 2 ^ (8 * ((i : Int) % 8)).toNat) := rfl
      by_cases hni : n ≤ i
      · have h2 : ¬ (i : Int) < (n : Int) := by omega
        have hz := hp i hni hlt
        rw [ef] at hz
        have hz2 : ¬ ¬ IntKind.u8.wrap (L.getD (1 + (i : Int) / 8).toNat default / 2 ^ (8 * ((i : Int) % 8)).toNat) = 0 := fun h => h hz
        clear ef
        have hset : ObLe (.vec 5 1 n (rowG encB8 (fb L n i))) (.vec 5 1 n (rowG encB8 (fb L n (i + 1)))) := by
          refine ⟨rfl, rfl, rfl, fun q hq => ?_⟩
          rw [fb_row L n i q hq (by omega), fb_row L n (i + 1) q hq (by omega)]
        refine Safe.goto mixed 19 [⟨1100, [(5, .tt true)]⟩, ⟨1200, [(10, .wrap)]⟩, ⟨1300, [(2, .tt false)]⟩, ⟨1400, [(1, .tt false)]⟩, ⟨1500, []⟩] [0, 4, 5, 6] [0, 20] (todo' := loopAt Try.f112 0) (sl := slotsOf 67 [(0, .sl 0 0 1 L.length none), (4, I ↑n), (5, .sl 20 0 1 n none), (6, I ((↑i : Int) + (1 : Int)))]) (hp := [(0, .ro 1 L.length (rowG encU L)), (20, .vec 5 1 n (rowG encB8 (fb L n i)))]) (ob := [inK IntKind.i64 ((↑L.length : Int) - (1 : Int)), inK IntKind.i64 ((8 : Int) * ((↑L.length : Int) - (1 : Int))), decide ((↑i : Int) < (8 : Int) * ((↑L.length : Int) - (1 : Int))) = true, (0 : Int) ≤ (↑i : Int) ∧ (0 : Int) < (8 : Int), inK IntKind.i64 ((↑i : Int) / (8 : Int)), inK IntKind.i64 ((1 : Int) + (↑i : Int) / (8 : Int)), (0 : Int) ≤ (1 : Int) + (↑i : Int) / (8 : Int) ∧ (1 : Int) + (↑i : Int) / (8 : Int) < (↑L.length : Int), ((1 : Int) + (↑i : Int) / (8 : Int)).toNat < L.length, (0 : Int) ≤ (↑i : Int) ∧ (0 : Int) < (8 : Int), inK IntKind.i64 ((8 : Int) * ((↑i : Int) % (8 : Int))), (0 : Int) ≤ (8 : Int) * ((↑i : Int) % (8 : Int)) ∧ (8 : Int) * ((↑i : Int) % (8 : Int)) ≤ (↑IntKind.u64.bits : Int), decide ((↑i : Int) < (↑n : Int)) = false, (decide ¬IntKind.u8.wrap (L.getD ((1 : Int) + (↑i : Int) / (8 : Int)).toNat default / (2 : Int) ^ ((8 : Int) * ((↑i : Int) % (8 : Int))).toNat) = (0 : Int)) = false, inK IntKind.i64 ((↑i : Int) + (1 : Int))]) rfl rfl (by kernel_rfl) ⟨(by simp only [inK]; first | omega | assumption | rfl), (by simp only [inK]; first | omega | assumption | rfl), (decide_eq_true h1), (by first | omega | assumption | rfl), (by simp only [inK]; first | omega | assumption | rfl), (by simp only [inK]; first | omega | assumption | rfl), (by first | omega | assumption | rfl), (by first | omega | assumption | rfl), (by first | omega | assumption | rfl), (by simp only [inK]; first | omega | assumption | rfl), (by first | decide | (simp only [Go.IntKind.bits]; first | omega | assumption | rfl)), (decide_eq_false h2), (decide_eq_false (fun hn => hn hz)), (by simp only [inK]; first | omega | assumption | rfl), trivial⟩ rfl ⟨rfl, fun _ => rfl, rfl, fun _ => rfl, trivial⟩ ?_
        all_goals exact Safe.leH (ih (i + 1) (by omega) (by omega)) rfl (SlLe.refl _) ⟨ObLe.refl _, hset, trivial⟩ rfl ⟨rfl, fun _ => rfl, rfl, fun _ => rfl, trivial⟩
      · have h2 : (i : Int) < (n : Int) := by omega
        have hset : ObLe (.vec 5 1 n (setRow (rowG encB8 (fb L n i)) i [U8 (fbyte L i)])) (.vec 5 1 n (rowG encB8 (fb L n (i + 1)))) := by
          rw [← fb_set L n i (by omega)]
          exact ob_setB _ _ _ (fb_len L n i).symm rfl
        rw [ef] at hset
        refine Safe.goto mixed 16 [⟨1100, [(5, .tt true)]⟩, ⟨1200, [(10, .wrap)]⟩, ⟨1300, [(2, .tt true)]⟩, ⟨1400, []⟩, ⟨1500, []⟩] [0, 4, 5, 6] [0, 20] (todo' := loopAt Try.f112 0) (sl := slotsOf 67 [(0, .sl 0 0 1 L.length none), (4, I ↑n), (5, .sl 20 0 1 n none), (6, I ((↑i : Int) + (1 : Int)))]) (hp := [(0, .ro 1 L.length (rowG encU L)), (20, .vec 5 1 n (setRow (rowG encB8 (fb L n i)) i [AV.val (Value.int IntKind.u8 (IntKind.u8.wrap (L.getD ((1 : Int) + (↑i : Int) / (8 : Int)).toNat default / (2 : Int) ^ ((8 : Int) * ((↑i : Int) % (8 : Int))).toNat)))]))]) (ob := [inK IntKind.i64 ((↑L.length : Int) - (1 : Int)), inK IntKind.i64 ((8 : Int) * ((↑L.length : Int) - (1 : Int))), decide ((↑i : Int) < (8 : Int) * ((↑L.length : Int) - (1 : Int))) = true, (0 : Int) ≤ (↑i : Int) ∧ (0 : Int) < (8 : Int), inK IntKind.i64 ((↑i : Int) / (8 : Int)), inK IntKind.i64 ((1 : Int) + (↑i : Int) / (8 : Int)), (0 : Int) ≤ (1 : Int) + (↑i : Int) / (8 : Int) ∧ (1 : Int) + (↑i : Int) / (8 : Int) < (↑L.length : Int), ((1 : Int) + (↑i : Int) / (8 : Int)).toNat < L.length, (0 : Int) ≤ (↑i : Int) ∧ (0 : Int) < (8 : Int), inK IntKind.i64 ((8 : Int) * ((↑i : Int) % (8 : Int))), (0 : Int) ≤ (8 : Int) * ((↑i : Int) % (8 : Int)) ∧ (8 : Int) * ((↑i : Int) % (8 : Int)) ≤ (↑IntKind.u64.bits : Int), decide ((↑i : Int) < (↑n : Int)) = true, (0 : Int) ≤ (↑i : Int) ∧ (↑i : Int) < (↑n : Int), i < n, inK IntKind.i64 ((↑i : Int) + (1 : Int))]) rfl rfl (by kernel_rfl) ⟨(by simp only [inK]; first | omega | assumption | rfl), (by simp only [inK]; first | omega | assumption | rfl), (decide_eq_true h1), (by first | omega | assumption | rfl), (by simp only [inK]; first | omega | assumption | rfl), (by simp only [inK]; first | omega | assumption | rfl), (by first | omega | assumption | rfl), (by first | omega | assumption | rfl), (by first | omega | assumption | rfl), (by simp only [inK]; first | omega | assumption | rfl), (by first | decide | (simp only [Go.IntKind.bits]; first | omega | assumption | rfl)), (decide_eq_true h2), (by first | omega | assumption | rfl), (by first | omega | assumption | rfl), (by simp only [inK]; first | omega | assumption | rfl), trivial⟩ rfl ⟨rfl, fun _ => rfl, rfl, closed_set (fun _ => rfl) rfl, trivial⟩ ?_
        all_goals exact Safe.leH (ih (i + 1) (by omega) (by omega)) rfl (SlLe.refl _) ⟨ObLe.refl _, hset, trivial⟩ rfl ⟨rfl, fun _ => rfl, rfl, fun _ => rfl, trivial⟩
    · have hn2 : ¬ (i : Int) < 8 * ((L.length : Int) - 1) := by omega
      obtain rfl : i = N := by omega
      have rs := rowstr L n n i (by omega) (by omega)
      refine Safe.ends mixed Try.func112 7 [⟨1100, [(5, .tt false)]⟩, ⟨1200, [(1, .is (S (fromT L n)))]⟩] (r := .tup [S (fromT L n), I 0]) (hp := [(0, .ro 1 L.length (rowG encU L))]) (ob := [inK IntKind.i64 ((↑L.length : Int) - (1 : Int)), inK IntKind.i64 ((8 : Int) * ((↑L.length : Int) - (1 : Int))), decide ((↑i : Int) < (8 : Int) * ((↑L.length : Int) - (1 : Int))) = false, 0 + n ≤ n, RowStr (fromT L n) n (rowG encB8 (fb L n i)), AV.val (Value.string (fromT L n)) = AV.val (Value.string (fromT L n))]) rfl (by kernel_rfl) ⟨(by simp only [inK]; first | omega | assumption | rfl), (by simp only [inK]; first | omega | assumption | rfl), (decide_eq_false hn2), (by first | omega | assumption | rfl), (by first | omega | assumption | rfl), (by first | omega | assumption | rfl), trivial⟩ rfl ⟨ObLe.refl _, trivial⟩ ⟨rfl, fun _ => rfl, trivial⟩ rfl
  · intro H
    refine Safe.goto mixed 16 [⟨1100, []⟩, ⟨1200, [(2, .tt false), (11, .tt false), (17, .is (I ↑n)), (18, .call [] (I ((↑(ln n) : Int))) []), (21, .tt false)]⟩, ⟨1300, [(3, .is (I ↑n))]⟩, ⟨1400, []⟩, ⟨1500, []⟩] [0, 4, 5, 6] [0, 1401] (todo' := loopAt Try.f112 0) (sl := slotsOf 67 [(0, .sl 0 0 1 L.length none), (4, I ↑n), (5, .sl 1401 0 1 n none), (6, I 0)]) (hp := [(0, .ro 1 L.length (rowG encU L)), (1401, .vec 5 1 n (fun x => List.map AV.val (Value.int IntKind.u8 (0 : Int)).cells.toList))]) (ob := [decide ((↑L.length : Int) = (0 : Int)) = false, (0 : Int) ≤ (0 : Int) ∧ (0 : Int) < (↑L.length : Int), 0 < L.length, inK IntKind.u64 (↑L.length : Int), inK IntKind.u64 ((8 : Int) * (↑L.length : Int)), decide (L.getD 0 default > (8 : Int) * (↑L.length : Int)) = false, (0 : Int) ≤ (0 : Int) ∧ (0 : Int) < (↑L.length : Int), 0 < L.length, inK IntKind.i64 (L.getD 0 default), I (L.getD 0 default) = I ↑n, CallOK Try.prog 127 ([] ++ [I ↑n] ++ []) [] (I (↑(ln n) : Int)) [], (decide ¬(↑(ln n) : Int) = (↑L.length : Int)) = false, (0 : Int) ≤ (0 : Int) ∧ (0 : Int) < (↑L.length : Int), 0 < L.length, inK IntKind.i64 (L.getD 0 default), I (L.getD 0 default) = I ↑n, (0 : Int) ≤ (↑n : Int) ∧ (↑n : Int) ≤ (↑n : Int) ∧ (↑n : Int) ≤ (1099511627776 : Int)]) rfl rfl (by kernel_rfl) ⟨(decide_eq_false qz), (by first | omega | assumption | exact congrArg (fun z => I z) (by omega)), (by first | omega | assumption | exact congrArg (fun z => I z) (by omega)), (by simp only [inK]; first | omega | assumption | exact congrArg (fun z => I z) (by omega)), (by simp only [inK]; first | omega | assumption | exact congrArg (fun z => I z) (by omega)), (decide_eq_false qg), (by first | omega | assumption | exact congrArg (fun z => I z) (by omega)), (by first | omega | assumption | exact congrArg (fun z => I z) (by omega)), (by simp only [inK]; first | omega | assumption | exact congrArg (fun z => I z) (by omega)), (by first | omega | assumption | exact congrArg (fun z => I z) (by omega)), lg, (decide_eq_false ql), (by first | omega | assumption | exact congrArg (fun z => I z) (by omega)), (by first | omega | assumption | exact congrArg (fun z => I z) (by omega)), (by simp only [inK]; first | omega | assumption | exact congrArg (fun z => I z) (by omega)), (by first | omega | assumption | exact congrArg (fun z => I z) (by omega)), (by first | omega | assumption | exact congrArg (fun z => I z) (by omega)), trivial⟩ rfl ⟨rfl, fun _ => rfl, rfl, fun _ => rfl, trivial⟩ ?_
    refine Safe.ren [(1401, 20)] rfl rfl rfl rfl ⟨rfl, fun _ => rfl, rfl, fun _ => rfl, trivial⟩ ?_
    all_goals exact Safe.leH (H 0 (by omega)) rfl (SlLe.refl _) ⟨ObLe.refl _, fb_zero L, trivial⟩ rfl ⟨rfl, fun _ => rfl, rfl, fun _ => rfl, trivial⟩
theorem rft_pad (L : List Int) (n : Nat) (hw : Wf L) (hf : fromOK L n) (hq : ¬ pads L n (nB n)) : CallOK Try.prog 112 [.sl 0 0 1 L.length none] [(0, .ro 1 L.length (rowG encU L))] (.tup [.val (.string ⟨#[]⟩), I 2]) [] := by
  obtain ⟨h0, hn, hl⟩ := hf
  have hbd := ln_bd n
  obtain ⟨N, hN⟩ : ∃ N, N = nB n := ⟨_, rfl⟩
  rw [← hN] at hq
  unfold nB at hN
  have lg := rlength_any n (by omega)
  have qz : ¬ (L.length : Int) = 0 := by omega
  have qg : ¬ L.getD 0 default > 8 * (L.length : Int) := by omega
  have ql : ¬ ¬ ((ln n : Nat) : Int) = (L.length : Int) := by omega
  obtain ⟨k0, hk1, hk2, hk3, hp⟩ := first_pad hq
  refine CallOK.intro Try.call112 Try.func112 rfl rfl ⟨rfl, fun _ => rfl, trivial⟩ ?_
  refine Safe.withLoop (loopAt Try.f112 0) [0, 20] 67 (fun i : Nat => [(0, .sl 0 0 1 L.length none), (4, I n), (5, .sl 20 0 1 n none), (6, I i)]) (fun i => [(0, .ro 1 L.length (rowG encU L)), (20, .vec 5 1 n (rowG encB8 (fb L n i)))]) (fun i => i ≤ k0) (fun i => N - i) ?_ ?_
  · intro i hi ih
    have hlt : i < N := by omega
    have h1 : (i : Int) < 8 * ((L.length : Int) - 1) := by omega
    have w8 := hw.at (1 + (i : Int) / 8).toNat
    have ef : fbyte L i = IntKind.u8.wrap (L.getD (1 + (i : Int) / 8).toNat default / 2 ^ (8 * ((i : Int) % 8)).toNat) := rfl
    by_cases hik : i = k0
    · subst hik
      have h2 : ¬ (i : Int) < (n : Int) := by omega
      rw [ef] at hk3
      clear ef
      refine Safe.ends mixed Try.func112 17 [⟨1100, [(5, .tt true)]⟩, ⟨1200, [(10, .wrap)]⟩, ⟨1300, [(2, .tt false)]⟩, ⟨1400, [(1, .tt true)]⟩, ⟨1500, []⟩] (r := .tup [S (ByteArray.mk #[]), I 2]) (hp := [(0, .ro 1 L.length (rowG encU L))]) (ob := [inK IntKind.i64 ((↑L.length : Int) - (1 : Int)), inK IntKind.i64 ((8 : Int) * ((↑L.length : Int) - (1 : Int))), decide ((↑i : Int) < (8 : Int) * ((↑L.length : Int) - (1 : Int))) = true, (0 : Int) ≤ (↑i : Int) ∧ (0 : Int) < (8 : Int), inK IntKind.i64 ((↑i : Int) / (8 : Int)), inK IntKind.i64 ((1 : Int) + (↑i : Int) / (8 : Int)), (0 : Int) ≤ (1 : Int) + (↑i : Int) / (8 : Int) ∧ (1 : Int) + (↑i : Int) / (8 : Int) < (↑L.length : Int), ((1 : Int) + (↑i : Int) / (8 : Int)).toNat < L.length, (0 : Int) ≤ (↑i : Int) ∧ (0 : Int) < (8 : Int), inK IntKind.i64 ((8 : Int) * ((↑i : Int) % (8 : Int))), (0 : Int) ≤ (8 : Int) * ((↑i : Int) % (8 : Int)) ∧ (8 : Int) * ((↑i : Int) % (8 : Int)) ≤ (↑IntKind.u64.bits : Int), decide ((↑i : Int) < (↑n : Int)) = false, (decide ¬IntKind.u8.wrap (L.getD ((1 : Int) + (↑i : Int) / (8 : Int)).toNat default / (2 : Int) ^ ((8 : Int) * ((↑i : Int) % (8 : Int))).toNat) = (0 : Int)) = true]) rfl (by kernel_rfl) ⟨(by simp only [inK]; first | omega | assumption | rfl), (by simp only [inK]; first | omega | assumption | rfl), (decide_eq_true h1), (by first | omega | assumption | rfl), (by simp only [inK]; first | omega | assumption | rfl), (by simp only [inK]; first | omega | assumption | rfl), (by first | omega | assumption | rfl), (by first | omega | assumption | rfl), (by first | omega | assumption | rfl), (by simp only [inK]; first | omega | assumption | rfl), (by first | decide | (simp only [Go.IntKind.bits]; first | omega | assumption | rfl)), (decide_eq_false h2), (decide_eq_true hk3), trivial⟩ rfl ⟨ObLe.refl _, trivial⟩ ⟨rfl, fun _ => rfl, trivial⟩ rfl
    · skip
      by_cases hni : n ≤ i
      · have h2 : ¬ (i : Int) < (n : Int) := by omega
        have hz := hp i hni (by omega)
        rw [ef] at hz
        have hz2 : ¬ ¬ IntKind.u8.wrap (L.getD (1 + (i : Int) / 8).toNat default / 2 ^ (8 * ((i : Int) % 8)).toNat) = 0 := fun h => h hz
        clear ef
        have hset : ObLe (.vec 5 1 n (rowG encB8 (fb L n i))) (.vec 5 1 n (rowG encB8 (fb L n (i + 1)))) := by
          refine ⟨rfl, rfl, rfl, fun q hq => ?_⟩
          rw [fb_row L n i q hq (by omega), fb_row L n (i + 1) q hq (by omega)]
        refine Safe.goto mixed 19 [⟨1100, [(5, .tt true)]⟩, ⟨1200, [(10, .wrap)]⟩, ⟨1300, [(2, .tt false)]⟩, ⟨1400, [(1, .tt false)]⟩, ⟨1500, []⟩] [0, 4, 5, 6] [0, 20] (todo' := loopAt Try.f112 0) (sl := slotsOf 67 [(0, .sl 0 0 1 L.length none), (4, I ↑n), (5, .sl 20 0 1 n none), (6, I ((↑i : Int) + (1 : Int)))]) (hp := [(0, .ro 1 L.length (rowG encU L)), (20, .vec 5 1 n (rowG encB8 (fb L n i)))]) (ob := [inK IntKind.i64 ((↑L.length : Int) - (1 : Int)), inK IntKind.i64 ((8 : Int) * ((↑L.length : Int) - (1 : Int))), decide ((↑i : Int) < (8 : Int) * ((↑L.length : Int) - (1 : Int))) = true, (0 : Int) ≤ (↑i : Int) ∧ (0 : Int) < (8 : Int), inK IntKind.i64 ((↑i : Int) / (8 : Int)), inK IntKind.i64 ((1 : Int) + (↑i : Int) / (8 : Int)), (0 : Int) ≤ (1 : Int) + (↑i : Int) / (8 : Int) ∧ (1 : Int) + (↑i : Int) / (8 : Int) < (↑L.length : Int), ((1 : Int) + (↑i : Int) / (8 : Int)).toNat < L.length, (0 : Int) ≤ (↑i : Int) ∧ (0 : Int) < (8 : Int), inK IntKind.i64 ((8 : Int) * ((↑i : Int) % (8 : Int))), (0 : Int) ≤ (8 : Int) * ((↑i : Int) % (8 : Int)) ∧ (8 : Int) * ((↑i : Int) % (8 : Int)) ≤ (↑IntKind.u64.bits : Int), decide ((↑i : Int) < (↑n : Int)) = false, (decide ¬IntKind.u8.wrap (L.getD ((1 : Int) + (↑i : Int) / (8 : Int)).toNat default / (2 : Int) ^ ((8 : Int) * ((↑i : Int) % (8 : Int))).toNat) = (0 : Int)) = false, inK IntKind.i64 ((↑i : Int) + (1 : Int))]) rfl rfl (by kernel_rfl) ⟨(by simp only [inK]; first | omega | assumption | rfl), (by simp only [inK]; first | omega | assumption | rfl), (decide_eq_true h1), (by first | omega | assumption | rfl), (by simp only [inK]; first | omega | assumption | rfl), (by simp only [inK]; first | omega | assumption | rfl), (by first | omega | assumption | rfl), (by first | omega | assumption | rfl), (by first | omega | assumption | rfl), (by simp only [inK]; first | omega | assumption | rfl), (by first | decide | (simp only [Go.IntKind.bits]; first | omega | assumption | rfl)), (decide_eq_false h2), (decide_eq_false (fun hn => hn hz)), (by simp only [inK]; first | omega | assumption | rfl), trivial⟩ rfl ⟨rfl, fun _ => rfl, rfl, fun _ => rfl, trivial⟩ ?_
        all_goals exact Safe.leH (ih (i + 1) (by omega) (by omega)) rfl (SlLe.refl _) ⟨ObLe.refl _, hset, trivial⟩ rfl ⟨rfl, fun _ => rfl, rfl, fun _ => rfl, trivial⟩
      · have h2 : (i : Int) < (n : Int) := by omega
        have hset : ObLe (.vec 5 1 n (setRow (rowG encB8 (fb L n i)) i [U8 (fbyte L i)])) (.vec 5 1 n (rowG encB8 (fb L n (i + 1)))) := by
          rw [← fb_set L n i (by omega)]
          exact ob_setB _ _ _ (fb_len L n i).symm rfl
        rw [ef] at hset
        refine Safe.goto mixed 16 [⟨1100, [(5, .tt true)]⟩, ⟨1200, [(10, .wrap)]⟩, ⟨1300, [(2, .tt true)]⟩, ⟨1400, []⟩, ⟨1500, []⟩] [0, 4, 5, 6] [0, 20] (todo' := loopAt Try.f112 0) (sl := slotsOf 67 [(0, .sl 0 0 1 L.length none), (4, I ↑n), (5, .sl 20 0 1 n none), (6, I ((↑i : Int) + (1 : Int)))]) (hp := [(0, .ro 1 L.length (rowG encU L)), (20, .vec 5 1 n (setRow (rowG encB8 (fb L n i)) i [AV.val (Value.int IntKind.u8 (IntKind.u8.wrap (L.getD ((1 : Int) + (↑i : Int) / (8 : Int)).toNat default / (2 : Int) ^ ((8 : Int) * ((↑i : Int) % (8 : Int))).toNat)))]))]) (ob := [inK IntKind.i64 ((↑L.length : Int) - (1 : Int)), inK IntKind.i64 ((8 : Int) * ((↑L.length : Int) - (1 : Int))), decide ((↑i : Int) < (8 : Int) * ((↑L.length : Int) - (1 : Int))) = true, (0 : Int) ≤ (↑i : Int) ∧ (0 : Int) < (8 : Int), inK IntKind.i64 ((↑i : Int) / (8 : Int)), inK IntKind.i64 ((1 : Int) + (↑i : Int) / (8 : Int)), (0 : Int) ≤ (1 : Int) + (↑i : Int) / (8 : Int) ∧ (1 : Int) + (↑i : Int) / (8 : Int) < (↑L.length : Int), ((1 : Int) + (↑i : Int) / (8 : Int)).toNat < L.length, (0 : Int) ≤ (↑i : Int) ∧ (0 : Int) < (8 : Int), inK IntKind.i64 ((8 : Int) * ((↑i : Int) % (8 : Int))), (0 : Int) ≤ (8 : Int) * ((↑i : Int) % (8 : Int)) ∧ (8 : Int) * ((↑i : Int) % (8 : Int)) ≤ (↑IntKind.u64.bits : Int), decide ((↑i : Int) < (↑n : Int)) = true, (0 : Int) ≤ (↑i : Int) ∧ (↑i : Int) < (↑n : Int), i < n, inK IntKind.i64 ((↑i : Int) + (1 : Int))]) rfl rfl (by kernel_rfl) ⟨(by simp only [inK]; first | omega | assumption | rfl), (by simp only [inK]; first | omega | assumption | rfl), (decide_eq_true h1), (by first | omega | assumption | rfl), (by simp only [inK]; first | omega | assumption | rfl), (by simp only [inK]; first | omega | assumption | rfl), (by first | omega | assumption | rfl), (by first | omega | assumption | rfl), (by first | omega | assumption | rfl), (by simp only [inK]; first | omega | assumption | rfl), (by first | decide | (simp only [Go.IntKind.bits]; first | omega | assumption | rfl)), (decide_eq_true h2), (by first | omega | assumption | rfl), (by first | omega | assumption | rfl), (by simp only [inK]; first | omega | assumption | rfl), trivial⟩ rfl ⟨rfl, fun _ => rfl, rfl, closed_set (fun _ => rfl) rfl, trivial⟩ ?_
        all_goals exact Safe.leH (ih (i + 1) (by omega) (by omega)) rfl (SlLe.refl _) ⟨ObLe.refl _, hset, trivial⟩ rfl ⟨rfl, fun _ => rfl, rfl, fun _ => rfl, trivial⟩
  · intro H
    refine Safe.goto mixed 16 [⟨1100, []⟩, ⟨1200, [(2, .tt false), (11, .tt false), (17, .is (I ↑n)), (18, .call [] (I ((↑(ln n) : Int))) []), (21, .tt false)]⟩, ⟨1300, [(3, .is (I ↑n))]⟩, ⟨1400, []⟩, ⟨1500, []⟩] [0, 4, 5, 6] [0, 1401] (todo' := loopAt Try.f112 0) (sl := slotsOf 67 [(0, .sl 0 0 1 L.length none), (4, I ↑n), (5, .sl 1401 0 1 n none), (6, I 0)]) (hp := [(0, .ro 1 L.length (rowG encU L)), (1401, .vec 5 1 n (fun x => List.map AV.val (Value.int IntKind.u8 (0 : Int)).cells.toList))]) (ob := [decide ((↑L.length : Int) = (0 : Int)) = false, (0 : Int) ≤ (0 : Int) ∧ (0 : Int) < (↑L.length : Int), 0 < L.length, inK IntKind.u64 (↑L.length : Int), inK IntKind.u64 ((8 : Int) * (↑L.length : Int)), decide (L.getD 0 default > (8 : Int) * (↑L.length : Int)) = false, (0 : Int) ≤ (0 : Int) ∧ (0 : Int) < (↑L.length : Int), 0 < L.length, inK IntKind.i64 (L.getD 0 default), I (L.getD 0 default) = I ↑n, CallOK Try.prog 127 ([] ++ [I ↑n] ++ []) [] (I (↑(ln n) : Int)) [], (decide ¬(↑(ln n) : Int) = (↑L.length : Int)) = false, (0 : Int) ≤ (0 : Int) ∧ (0 : Int) < (↑L.length : Int), 0 < L.length, inK IntKind.i64 (L.getD 0 default), I (L.getD 0 default) = I ↑n, (0 : Int) ≤ (↑n : Int) ∧ (↑n : Int) ≤ (↑n : Int) ∧ (↑n : Int) ≤ (1099511627776 : Int)]) rfl rfl (by kernel_rfl) ⟨(decide_eq_false qz), (by first | omega | assumption | exact congrArg (fun z => I z) (by omega)), (by first | omega | assumption | exact congrArg (fun z => I z) (by omega)), (by simp only [inK]; first | omega | assumption | exact congrArg (fun z => I z) (by omega)), (by simp only [inK]; first | omega | assumption | exact congrArg (fun z => I z) (by omega)), (decide_eq_false qg), (by first | omega | assumption | exact congrArg (fun z => I z) (by omega)), (by first | omega | assumption | exact congrArg (fun z => I z) (by omega)), (by simp only [inK]; first | omega | assumption | exact congrArg (fun z => I z) (by omega)), (by first | omega | assumption | exact congrArg (fun z => I z) (by omega)), lg, (decide_eq_false ql), (by first | omega | assumption | exact congrArg (fun z => I z) (by omega)), (by first | omega | assumption | exact congrArg (fun z => I z) (by omega)), (by simp only [inK]; first | omega | assumption | exact congrArg (fun z => I z) (by omega)), (by first | omega | assumption | exact congrArg (fun z => I z) (by omega)), (by first | omega | assumption | exact congrArg (fun z => I z) (by omega)), trivial⟩ rfl ⟨rfl, fun _ => rfl, rfl, fun _ => rfl, trivial⟩ ?_
    refine Safe.ren [(1401, 20)] rfl rfl rfl rfl ⟨rfl, fun _ => rfl, rfl, fun _ => rfl, trivial⟩ ?_
    all_goals exact Safe.leH (H 0 (by omega)) rfl (SlLe.refl _) ⟨ObLe.refl _, fb_zero L, trivial⟩ rfl ⟨rfl, fun _ => rfl, rfl, fun _ => rfl, trivial⟩
theorem rft_bad (L : List Int) (hw : Wf L) (hlen : L.length ≤ 1000) (hf : ∀ n, ¬ fromOK L n) : CallOK Try.prog 112 [.sl 0 0 1 L.length none] [(0, .ro 1 L.length (rowG encU L))] (.tup [.val (.string ⟨#[]⟩), I 2]) [] := by
  have w := hw.at 0
  by_cases h0 : L.length = 0
  · have qz : (L.length : Int) = 0 := by omega
    refine CallOK.intro Try.call112 Try.func112 rfl rfl ⟨rfl, fun _ => rfl, trivial⟩ ?_
    refine Safe.ends mixed Try.func112 8 [⟨1100, []⟩, ⟨1200, [(2, .tt true)]⟩, ⟨1300, []⟩] (r := .tup [S (ByteArray.mk #[]), I 2]) (hp := [(0, .ro 1 L.length (rowG encU L))]) (ob := [decide ((↑L.length : Int) = (0 : Int)) = true]) rfl (by kernel_rfl) ⟨(decide_eq_true qz), trivial⟩ rfl ⟨ObLe.refl _, trivial⟩ ⟨rfl, fun _ => rfl, trivial⟩ rfl
  have qz : ¬ (L.length : Int) = 0 := by omega
  by_cases hg : L.getD 0 default > 8 * (L.length : Int)
  · refine CallOK.intro Try.call112 Try.func112 rfl rfl ⟨rfl, fun _ => rfl, trivial⟩ ?_
    refine Safe.ends mixed Try.func112 8 [⟨1100, []⟩, ⟨1200, [(2, .tt false), (11, .tt true)]⟩, ⟨1300, []⟩] (r := .tup [S (ByteArray.mk #[]), I 2]) (hp := [(0, .ro 1 L.length (rowG encU L))]) (ob := [decide ((↑L.length : Int) = (0 : Int)) = false, (0 : Int) ≤ (0 : Int) ∧ (0 : Int) < (↑L.length : Int), 0 < L.length, inK IntKind.u64 (↑L.length : Int), inK IntKind.u64 ((8 : Int) * (↑L.length : Int)), decide (L.getD 0 default > (8 : Int) * (↑L.length : Int)) = true]) rfl (by kernel_rfl) ⟨(decide_eq_false qz), (by omega), (by omega), (by simp only [inK]; omega), (by simp only [inK]; omega), (decide_eq_true hg), trivial⟩ rfl ⟨ObLe.refl _, trivial⟩ ⟨rfl, fun _ => rfl, trivial⟩ rfl
  · have ql := not_from hf hw h0 (by omega)
    obtain ⟨n, hn⟩ : ∃ n, n = (L.getD 0 default).toNat := ⟨_, rfl⟩
    rw [← hn] at ql
    have ql : ¬ ((ln n : Nat) : Int) = (L.length : Int) := fun e => ql e.symm
    have lg := rlength_any n (by omega)
    refine CallOK.intro Try.call112 Try.func112 rfl rfl ⟨rfl, fun _ => rfl, trivial⟩ ?_
    refine Safe.ends mixed Try.func112 8 [⟨1100, []⟩, ⟨1200, [(2, .tt false), (11, .tt false), (17, .is (I ↑n)), (18, .call [] (I ((↑(ln n) : Int))) []), (21, .tt true)]⟩, ⟨1300, []⟩] (r := .tup [S (ByteArray.mk #[]), I 2]) (hp := [(0, .ro 1 L.length (rowG encU L))]) (ob := [decide ((↑L.length : Int) = (0 : Int)) = false, (0 : Int) ≤ (0 : Int) ∧ (0 : Int) < (↑L.length : Int), 0 < L.length, inK IntKind.u64 (↑L.length : Int), inK IntKind.u64 ((8 : Int) * (↑L.length : Int)), decide (L.getD 0 default > (8 : Int) * (↑L.length : Int)) = false, (0 : Int) ≤ (0 : Int) ∧ (0 : Int) < (↑L.length : Int), 0 < L.length, inK IntKind.i64 (L.getD 0 default), I (L.getD 0 default) = I ↑n, CallOK Try.prog 127 ([] ++ [I ↑n] ++ []) [] (I (↑(ln n) : Int)) [], (decide ¬(↑(ln n) : Int) = (↑L.length : Int)) = true]) rfl (by kernel_rfl) ⟨(decide_eq_false qz), (by first | omega | assumption | exact congrArg (fun z => I z) (by omega)), (by first | omega | assumption | exact congrArg (fun z => I z) (by omega)), (by simp only [inK]; first | omega | assumption | exact congrArg (fun z => I z) (by omega)), (by simp only [inK]; first | omega | assumption | exact congrArg (fun z => I z) (by omega)), (decide_eq_false hg), (by first | omega | assumption | exact congrArg (fun z => I z) (by omega)), (by first | omega | assumption | exact congrArg (fun z => I z) (by omega)), (by simp only [inK]; first | omega | assumption | exact congrArg (fun z => I z) (by omega)), (by first | omega | assumption | exact congrArg (fun z => I z) (by omega)), lg, (decide_eq_true ql), trivial⟩ rfl ⟨ObLe.refl _, trivial⟩ ⟨rfl, fun _ => rfl, trivial⟩ rfl
end Go.Proofs.Ytbgbjgedjmhcaaa
namespace Go.Proofs.Ytbgbjgedjmhcaaa
open Go.RowKit
def byN (t : ByteArray) (k : Nat) : Nat := (t.data.toList[k]?.getD 0).toNat
theorem byN_lt (t : ByteArray) (k : Nat) : byN t k < 256 := (t.data.toList[k]?.getD 0).toNat_lt
theorem byN_at (t : ByteArray) (k : Nat) : byteAt t k = (byN t k : Int) := rfl
theorem byN_out (t : ByteArray) (k : Nat) (h : t.size ≤ k) : byN t k = 0 := by
  unfold byN
  rw [List.getElem?_eq_none (by rw [Array.length_toList]; exact h)]; rfl
def wdN (t : ByteArray) (j : Nat) : Nat → Nat
  | 0 => 0
  | r + 1 => wdN t j r + byN t (8 * j + r) * 2 ^ (8 * r)
theorem wdN_lt (t : ByteArray) (j : Nat) : ∀ r, wdN t j r < 2 ^ (8 * r)
  | 0 => by simp [wdN]
  | r + 1 => by
    have h1 := wdN_lt t j r
    have h2 := byN_lt t (8 * j + r)
    have e : 2 ^ (8 * (r + 1)) = 256 * 2 ^ (8 * r) := by rw [show 8 * (r + 1) = 8 + 8 * r by omega, Nat.pow_add]
    rw [e]
    show wdN t j r + byN t (8 * j + r) * 2 ^ (8 * r) < _
    have h3 : byN t (8 * j + r) * 2 ^ (8 * r) ≤ 255 * 2 ^ (8 * r) := Nat.mul_le_mul_right _ (by omega)
    omega
theorem or_nat (a b : Nat) (ha : a < 2 ^ 64) (hb : b < 2 ^ 64) : bitsV .or .u64 (a : Int) (b : Int) = ((a ||| b : Nat) : Int) := by
  show (((BitVec.ofInt 64 (a : Int) ||| BitVec.ofInt 64 (b : Int)).toNat : Nat) : Int) = _
  rw [BitVec.toNat_or]
  have e : ∀ n : Nat, n < 2 ^ 64 → (BitVec.ofInt 64 (n : Int)).toNat = n := fun n hn => by
    rw [BitVec.ofInt_natCast, BitVec.toNat_ofNat, Nat.mod_eq_of_lt hn]
  rw [e a ha, e b hb]
theorem or_step (t : ByteArray) (j r : Nat) (hr : r < 8) : bitsV .or .u64 (wdN t j r : Int) (byteAt t (8 * j + r) * 2 ^ (8 * r)) = ((wdN t j (r + 1) : Nat) : Int) := by
  have h1 := wdN_lt t j r
  have h2 := wdN_lt t j (r + 1)
  have hp : 2 ^ (8 * (r + 1)) ≤ 2 ^ 64 := Nat.pow_le_pow_right (by omega) (by omega)
  have e : byteAt t (8 * j + r) * 2 ^ (8 * r) = ((2 ^ (8 * r) * byN t (8 * j + r) : Nat) : Int) := by rw [byN_at]; push_cast; exact Int.mul_comm _ _
  have hs : wdN t j (r + 1) = 2 ^ (8 * r) * byN t (8 * j + r) + wdN t j r := by
    show wdN t j r + byN t (8 * j + r) * 2 ^ (8 * r) = _
    rw [Nat.add_comm, Nat.mul_comm]
  rw [e, or_nat _ _ (by omega) (by omega), hs, Nat.two_pow_add_eq_or_of_lt h1, Nat.or_comm]
theorem textP_at (t : ByteArray) : ∀ i, i ≤ t.size → (∀ j, j < ln t.size - 1 → (textP t i).getD (1 + j) default = ((wdN t j (min 8 (i - 8 * j)) : Nat) : Int)) ∧ (textP t i).getD 0 default = (t.size : Int)
  | 0, _ => by
    have hb := ln_bd t.size
    refine ⟨fun j hj => ?_, ?_⟩
    · simp only [textP, Nat.zero_sub, Nat.min_zero]
      rw [List.getD_eq_getElem?_getD, List.getElem?_set, if_neg (by omega), List.getElem?_replicate, if_pos (by omega)]
      rfl
    · simp only [textP]
      rw [List.getD_eq_getElem?_getD, List.getElem?_set, if_pos rfl, if_pos (by rw [List.length_replicate]; omega)]
      rfl
  | i + 1, hi => by
    obtain ⟨h1, h2⟩ := textP_at t i (by omega)
    have hb := ln_bd t.size
    have hidx : (1 + (i : Int) / 8).toNat = 1 + i / 8 := by omega
    have hlt : i / 8 < ln t.size - 1 := by omega
    have hl := textP_len t i
    refine ⟨fun j hj => ?_, ?_⟩
    · simp only [textP, hidx]
      rw [List.getD_eq_getElem?_getD, List.getElem?_set]
      by_cases e : i / 8 = j
      · subst e
        rw [if_pos rfl, if_pos (by omega)]
        have e8 : (8 * ((i : Int) % 8)).toNat = 8 * (i % 8) := by omega
        rw [e8, h1 _ hlt]
        have m1 : min 8 (i - 8 * (i / 8)) = i % 8 := by omega
        have m2 : min 8 (i + 1 - 8 * (i / 8)) = i % 8 + 1 := by omega
        rw [m1, m2]
        have hi8 : i = 8 * (i / 8) + i % 8 := by omega
        have := or_step t (i / 8) (i % 8) (by omega)
        rw [← hi8] at this
        exact this
      · rw [if_neg (by omega), ← List.getD_eq_getElem?_getD, h1 j hj]
        congr 2
        omega
    · simp only [textP, hidx]
      rw [List.getD_eq_getElem?_getD, List.getElem?_set, if_neg (by omega), ← List.getD_eq_getElem?_getD]
      exact h2
theorem wdN_up (t : ByteArray) (j m : Nat) (hm : m ≤ 8) (h : t.size ≤ 8 * j + m) : ∀ r, m ≤ r → wdN t j r = wdN t j m
  | 0, hr => by rw [show m = 0 by omega]
  | r + 1, hr => by
    by_cases e : m = r + 1
    · rw [e]
    · show wdN t j r + byN t (8 * j + r) * 2 ^ (8 * r) = _
      rw [byN_out t _ (by omega), wdN_up t j m hm h r (by omega)]
      omega
theorem textW_at (t : ByteArray) (j : Nat) (hj : j < ln t.size - 1) : (textW t).getD (1 + j) default = ((wdN t j 8 : Nat) : Int) := by
  rw [textW, (textP_at t t.size (Nat.le_refl _)).1 j hj]
  by_cases h : 8 ≤ t.size - 8 * j
  · rw [Nat.min_eq_left h]
  · rw [wdN_up t j (min 8 (t.size - 8 * j)) (by omega) (by omega) 8 (by omega)]
theorem byte_of (t : ByteArray) (j r : Nat) (hr : r < 8) : wdN t j 8 / 2 ^ (8 * r) % 256 = byN t (8 * j + r) := by
  have b0 := byN_lt t (8 * j + 0)
  have b1 := byN_lt t (8 * j + 1)
  have b2 := byN_lt t (8 * j + 2)
  have b3 := byN_lt t (8 * j + 3)
  have b4 := byN_lt t (8 * j + 4)
  have b5 := byN_lt t (8 * j + 5)
  have b6 := byN_lt t (8 * j + 6)
  have b7 := byN_lt t (8 * j + 7)
  have e : wdN t j 8 = byN t (8 * j + 0) + byN t (8 * j + 1) * 256 + byN t (8 * j + 2) * 65536 + byN t (8 * j + 3) * 16777216 + byN t (8 * j + 4) * 4294967296 + byN t (8 * j + 5) * 1099511627776 + byN t (8 * j + 6) * 281474976710656 + byN t (8 * j + 7) * 72057594037927936 := by
    simp only [wdN]
    omega
  rw [e]
  match r, hr with
  | 0, _ | 1, _ | 2, _ | 3, _ | 4, _ | 5, _ | 6, _ | 7, _ => simp only [Nat.reduceMul, Nat.reducePow, Nat.mul_zero, Nat.pow_zero]; omega
theorem fbyte_text (t : ByteArray) (i : Nat) (hi : i < nB t.size) : fbyte (textW t) i = byteAt t i := by
  unfold nB at hi
  unfold fbyte
  have hidx : (1 + (i : Int) / 8).toNat = 1 + i / 8 := by omega
  have e8 : (8 * ((i : Int) % 8)).toNat = 8 * (i % 8) := by omega
  rw [hidx, e8, textW_at t (i / 8) (by omega), byN_at]
  have hb := byte_of t (i / 8) (i % 8) (by omega)
  rw [show 8 * (i / 8) + i % 8 = i by omega] at hb
  rw [← hb]
  have : ((wdN t (i / 8) 8 : Nat) : Int) / 2 ^ (8 * (i % 8)) = ((wdN t (i / 8) 8 / 2 ^ (8 * (i % 8)) : Nat) : Int) := by push_cast; rfl
  rw [this]
  generalize wdN t (i / 8) 8 / 2 ^ (8 * (i % 8)) = z
  simp [IntKind.wrap, IntKind.signed, IntKind.bits]
theorem textW_ok (t : ByteArray) (hs : t.size ≤ 8192) : fromOK (textW t) t.size ∧ pads (textW t) t.size (nB t.size) ∧ fromT (textW t) t.size = t := by
  refine ⟨⟨(textP_at t t.size (Nat.le_refl _)).2, hs, textW_len t⟩, fun i h1 h2 => ?_, ?_⟩
  · rw [fbyte_text t i h2, byN_at, byN_out t i h1]; rfl
  · have hb := ln_bd t.size
    apply ByteArray.ext
    apply Array.ext
    · exact fromT_size (textW t) t.size
    · intro q h1 h2
      have hq : q < t.size := h2
      have e := fromT_at (textW t) t.size q hq
      rw [fbyte_text t q (by unfold nB; omega)] at e
      simp only [byteAt] at e
      have h1' : q < (fromT (textW t) t.size).data.toList.length := by simpa using h1
      have h2' : q < t.data.toList.length := by simpa using h2
      rw [List.getElem?_eq_getElem h1', List.getElem?_eq_getElem h2'] at e
      simp only [Option.getD_some, Int.natCast_inj, Array.getElem_toList] at e
      exact UInt8.toNat_inj.1 e
end Go.Proofs.Ytbgbjgedjmhcaaa
namespace Go.Proofs.Ytbgbjgedjmhcaaa
open Go.RowKit
def lbOK (s t a : Int) : Prop := 1 ≤ s ∧ s ≤ 65536 ∧ 8 ≤ t ∧ 4 ≤ a ∧ t ≤ s ∧ a ≤ s - t
instance (s t a : Int) : Decidable (lbOK s t a) := by unfold lbOK; infer_instance
end Go.Proofs.Ytbgbjgedjmhcaaa
namespace Go.Proofs.Ytbgbjgedjmhcaaa
open Go.RowKit
def Wd (x : Int) : Prop := 0 ≤ x ∧ x ≤ 18446744073709551615
end Go.Proofs.Ytbgbjgedjmhcaaa
namespace Go.Proofs.Ytbgbjgedjmhcaaa.OldB
open Go.ChangeShapes Go.WideShapes Go.ChangeAt Go.RowKit
theorem hid {p : Prop} (h : p) : Hid p := h
theorem info_parts {o : Option TypeInfo} {z : Option Value} {s b : Nat} (h : o.map (fun i => (i.zero, i.size, i.bytes)) = some (z, s, b)) : ∃ i, o = some i ∧ i.zero = z ∧ i.size = s ∧ i.bytes = b := by
  cases o with
  | none => simp at h
  | some i => simp at h; exact ⟨i, rfl, h.1, h.2.1, h.2.2⟩
theorem Try.info22 : (Try.prog.info? 22).map (fun i => (i.zero, i.size, i.bytes)) = some (some (.int .u64 0), 1, 8) := by kernel_rfl
theorem own_base {w : World} {base : Nat} {e : TypeId} {size : Nat} {v : Value} {n : Nat} {xs : List Value} (h : w.ownsRow base e size v n xs) : ∀ k, v.ownBlock = some k → base ≤ k := by
  intro k hk
  rcases h.2 with ⟨rfl, _⟩ | ⟨g, cap, cur, rfl, hg, _⟩
  · simp [Value.ownBlock] at hk
  · simp [Value.ownBlock] at hk; omega
def ln (n : Nat) : Nat := 1 + n / 8 + (n % 8 + 7) / 8
def tw (b : Nat → Nat) (n : Nat) : Nat → Nat → Nat
  | 0, j => if j = 0 then n else 0
  | k + 1, j => if j = 1 + k / 8 then tw b n k j ||| (b k <<< (8 * (k % 8))) else tw b n k j
end Go.Proofs.Ytbgbjgedjmhcaaa.OldB
namespace Go.Proofs.Ytbgbjgedjmhcaaa.OldB
open Go.ChangeShapes Go.WideShapes Go.ChangeAt Go.RowKit Go.Shelf
attribute [local go_sem] Oper.semAt_some
def sw (zs : List Int) : Nat → Int
  | 0 => 0
  | k + 1 => sw zs k + zs[k]?.getD 0
def fit (zs : List Int) (k : Nat) : Prop := 1 ≤ zs[k]?.getD 0 ∧ zs[k]?.getD 0 ≤ 64 - sw zs k
theorem sw_bd (zs : List Int) (k : Nat) (h : ∀ j, j < k → fit zs j) : 0 ≤ sw zs k ∧ sw zs k ≤ 64 := by
  induction k with
  | zero => simp [sw]
  | succ k ih =>
    have h1 := ih (fun j hj => h j (by omega))
    have h2 := h k (by omega)
    unfold fit at h2
    unfold sw
    omega
def Wi (n₀ : Nat) (W : World) (a : Option Addr) (len : Nat) (zs : List Int) : Prop :=
  len = 0 ∨ ∃ b off, a = some ⟨b, off, none⟩ ∧ b < n₀ ∧ ∀ j, j < len → W.cell? ⟨b, off + j, none⟩ = some (.int .i64 (zs[j]?.getD 0))
theorem Wi.below {n₀ : Nat} {A B : World} (h : Below n₀ A B) {a : Option Addr} {len : Nat} {zs : List Int} : Wi n₀ A a len zs → Wi n₀ B a len zs
  | .inl e => .inl e
  | .inr ⟨b, off, e, hb, hc⟩ => .inr ⟨b, off, e, hb, fun j hj => (h.cell (p := ⟨b, off + j, none⟩) hb).trans (hc j hj)⟩
theorem chk_ok (a : Option Addr) (len cap : Nat) (zs : List Int) (n₀ : Nat) (w : World) (hbig : len ≤ 9223372036854775807) (hI : Wi n₀ w a len zs) (hz : ∀ j, j < len → fit zs j) :
    Calls Try.prog 128 #[.slice a len cap] w fun e w' => e = .returned (.int .i64 0) ∧ w = w' := by
  have HI := hid hI
  have HZ := hid hz
  clear hI hz
  go_enter Try.func128, Try.ntmps128
  go_wp2
  go_loop [3, 8] (fun sv iv => ∃ k : Nat, k ≤ len ∧ iv = .int .i64 (k : Int) ∧ sv = .int .i64 (sw zs k)) (fun _ iv => len - (intOf iv).toNat)
  case atStart => exact ⟨0, by omega, rfl, rfl⟩
  case round =>
    obtain ⟨k, hk, rfl, rfl⟩ := hrel
    by_cases hlt : k < len
    · obtain ⟨b, off, rfl, _, hall⟩ := HI.out.resolve_left (by omega)
      have hck := hall k hlt
      clear hall
      have hf := HZ.out k hlt
      obtain ⟨h1, h2⟩ := sw_bd zs k (fun j hj => HZ.out j (by omega))
      unfold fit at hf
      have HS := hid (show sw zs (k + 1) = sw zs k + zs[k]?.getD 0 from rfl)
      generalize zs[k]?.getD 0 = z at *
      generalize sw zs k = s at *
      obtain ⟨f1, f2⟩ := hf
      have h3 : (k : Int) < (len : Int) := by omega
      go_wp2
      go_round
      case rel => exact ⟨k + 1, by omega, by go_num, by rw [HS.out]⟩
      case measure => simp [intOf]; omega
    · obtain rfl : k = len := by omega
      have h3 : ¬ (k : Int) < (k : Int) := by omega
      go_wp2
      go_ret
      exact ⟨rfl, rfl⟩
abbrev fenc (zs : List Int) (i : Nat) : Array Value := #[.int .i64 (i : Int), .agg #[.int .i64 (sw zs i), .int .i64 (zs[i]?.getD 0)]]
abbrev Ix (len : Nat) := { i : Nat // i < len }
def firsts (len : Nat) : (k : Nat) → k ≤ len → List (Ix len)
  | 0, _ => []
  | k + 1, h => firsts len k (by omega) ++ [⟨k, h⟩]
theorem firsts_length (len k : Nat) (h : k ≤ len) : (firsts len k h).length = k := by
  induction k with
  | zero => rfl
  | succ k ih => simp [firsts, ih]
set_option maxRecDepth 100000 in
theorem it_in (F : Fence) (n : Nat) (h35 : F.fn 134) (hro : F.round = none) (hn : 1 ≤ n) (l Bs n₀ len cap : Nat) (a : Option Addr) (zs : List Int) (hbig : len ≤ 9223372036854775807) (hz : ∀ j, j < len → fit zs j) (J Jx : List (Ix len) → World → Prop)
    (hY : ∀ pre (x : Ix len) W, J pre W → pre.length < len → YieldAt F (n - 1) Try.prog l (fenc zs x.1) W fun e W' =>
      (e = .returned (.bool true) ∧ J (pre ++ [x]) W' ∧ Below n₀ W W') ∨ (e = .returned (.bool false) ∧ Jx (pre ++ [x]) W'))
    (W : World) (hBs : W.cell? ⟨Bs, 0, none⟩ = some (.slice a len cap)) (hI : Wi n₀ W a len zs) (h0 : J [] W) :
    CallsIn F n Try.prog 134 #[.func (.yield l) #[] #[], .pointer (some ⟨Bs, 0, none⟩)] W fun e W' => (∃ v, e = .returned v) ∧
      ((∃ ys, ys = firsts len len (Nat.le_refl _) ∧ J ys W') ∨ (∃ pre : List (Ix len), Jx pre W')) := by
  refine callsIn_of_wp Try.func134 rfl h35 ?_ hro
  simp only [Try.ntmps134, List.size_toArray, List.length_cons, List.length_nil, Nat.reduceAdd, Nat.reduceSub, Array.replicate_succ, Array.replicate_zero, List.push_toArray, List.append_toArray, List.nil_append, List.cons_append]
  have HY := hid hY
  have HI := hid hI
  have HZ := hid hz
  clear hY hI hz
  gi_wp2
  gi_loopw [3, 8] (fun sv i wr => ∃ (k : Nat) (hk : k ≤ len), i = .int .i64 (k : Int) ∧ sv = .int .i64 (sw zs k) ∧ J (firsts len k hk) wr ∧ Below n₀ W wr) (fun _ i _ => len - (intOf i).toNat)
  case atStart => exact ⟨0, Nat.zero_le _, rfl, rfl, h0, Below.refl _ _⟩
  case round =>
    obtain ⟨k, hk, rfl, rfl, hJs, hnx⟩ := hrel
    have HJ := hid hJs
    clear hJs
    by_cases hlt : k < len
    · obtain ⟨b, off, rfl, hb, hall⟩ := (HI.out.below hnx).resolve_left (by omega)
      have hck := hall k hlt
      clear hall
      obtain ⟨s1, s2⟩ := sw_bd zs k (fun j hj => HZ.out j (by omega))
      have hf := HZ.out k hlt
      unfold fit at hf
      obtain ⟨fn, tmps, assign, body, hy, hR⟩ := HY.out _ (⟨k, hlt⟩ : Ix len) _ HJ.out (by rw [firsts_length]; exact hlt)
      dsimp only [fenc] at hy
      have HR := hid hR
      clear hR
      have hlt2 : (k : Int) < (len : Int) := by omega
      have HS := hid (show sw zs (k + 1) = sw zs k + zs[k]?.getD 0 from rfl)
      have HF := hid (show firsts len (k + 1) hlt = firsts len k hk ++ [⟨k, hlt⟩] from rfl)
      gi_wp2
      refine HR.out.mono ?_
      rintro e W3 (⟨rfl, hJ3, hk3⟩ | ⟨rfl, hJx3⟩)
      · have w1 : wrap64 (sw zs k + zs[k]?.getD 0) = sw zs k + zs[k]?.getD 0 := IntWalk.wrap64_in _ (by omega)
        gi_wp2
        go_roundw
        case rel => exact ⟨k + 1, hlt, by go_num, by rw [HS.out], by rw [HF.out]; exact hJ3, hnx.trans hk3⟩
        case measure => simp [intOf]; omega
      · gi_wp2
        refine bodyPost_ret (results_none rfl _ _ _) rfl ?_
        exact ⟨⟨_, rfl⟩, .inr ⟨_, hJx3⟩⟩
    · obtain rfl : k = len := by omega
      have hlt2 : ¬ (k : Int) < (k : Int) := by omega
      gi_wp2
      go_end0
      exact ⟨⟨_, rfl⟩, by first | exact .inl ⟨_, rfl, HJ.out⟩ | exact .inl HJ.out | exact HJ.out⟩
theorem fields_in (F : Fence) (n : Nat) (h31 : F.fn 129) (hro : F.round = none) (a : Option Addr) (len cap : Nat) (w : World) :
    CallsIn F n Try.prog 129 #[.slice a len cap] w fun e w' => e = .returned (.func (.func 134) #[] #[.pointer (some ⟨w.heap.size, 0, none⟩)]) ∧ w' = w.alloc (.cells #[.slice a len cap] 63) := by
  refine callsIn_of_wp Try.func129 rfl h31 ?_ hro
  simp only [Try.ntmps129, List.size_toArray, List.length_cons, List.length_nil, Nat.reduceAdd, Nat.reduceSub, Array.replicate_succ, Array.replicate_zero, List.push_toArray, List.append_toArray, List.nil_append, List.cons_append]
  gi_wp2
  go_ret
  exact ⟨rfl, rfl⟩
theorem fields_stops (F : Fence) (n : Nat) (h35 : F.fn 134) (hro : F.round = none) (hn : 1 ≤ n) (Bs n₀ : Nat) (a : Option Addr) (len cap : Nat) (zs : List Int) (hbig : len ≤ 9223372036854775807) (hz : ∀ j, j < len → fit zs j) (w : World) (hBs : Bs < w.heap.size) (hn₀ : n₀ ≤ w.heap.size)
    (hc : w.cell? ⟨Bs, 0, none⟩ = some (.slice a len cap)) (hI : Wi n₀ w a len zs) :
    SeqStopsK F n Try.prog 134 #[.pointer (some ⟨Bs, 0, none⟩)] (fun x : Ix len => fenc zs x.1) (Below n₀) (fun ys => ys = firsts len len (Nat.le_refl _)) (fun _ => True) len w := fun l J Jx W hW _ _ hY h0 => by
  have hc' := (hW.cell (p := ⟨Bs, 0, none⟩) hBs).trans hc
  refine (it_in F n h35 hro hn l Bs n₀ len cap a zs hbig hz J Jx hY W hc' (hI.below (hW.mono hn₀)) h0).mono ?_
  rintro e W' ⟨he, ⟨ys, rfl, hj⟩ | ⟨pre, hj⟩⟩
  · exact ⟨he, .inl ⟨_, rfl, hj⟩⟩
  · exact ⟨he, .inr ⟨_, trivial, hj⟩⟩
theorem mask_num : ∀ n, n < 65 → (18446744073709551615 : Int) / 2 ^ (64 - n) = ((2 ^ n - 1 : Nat) : Int) := by decide +kernel
theorem mask_any (lo b : Int) (h1 : 1 ≤ b) (h2 : b ≤ 64) (w : World) :
    Calls Try.prog 130 #[.agg #[.int .i64 lo, .int .i64 b]] w fun e w' => e = .returned (.int .u64 ((2 ^ b.toNat - 1 : Nat) : Int)) ∧ Below w.heap.size w w' := by
  have hm := hid (show (18446744073709551615 : Int) / 2 ^ (64 - b).toNat = ((2 ^ b.toNat - 1 : Nat) : Int) by
    have := mask_num b.toNat (by omega)
    rwa [show 64 - b.toNat = (64 - b).toNat by omega] at this)
  go_enter Try.func130, Try.ntmps130
  go_wp2_with fail
  rw [hm.out]
  go_ret
  exact ⟨rfl, (Below.refl _ _).alloc (Nat.le_refl _) _⟩
def fw (zs : List Int) (vs : List Nat) : Nat → Nat
  | 0 => 0
  | k + 1 => fw zs vs k ||| ((vs[k]?.getD 0) <<< (sw zs k).toNat)
def vfit (zs : List Int) (vs : List Nat) (k : Nat) : Prop := vs[k]?.getD 0 < 2 ^ (zs[k]?.getD 0).toNat
def Va (n₀ : Nat) (W : World) (a : Option Addr) (len : Nat) (vs : List Nat) : Prop :=
  (∀ j, j < len → vs[j]?.getD 0 < 18446744073709551616) ∧ (len = 0 ∨ ∃ b off, a = some ⟨b, off, none⟩ ∧ b < n₀ ∧ ∀ j, j < len → W.cell? ⟨b, off + j, none⟩ = some (.int .u64 (vs[j]?.getD 0 : Nat)))
theorem Va.below {n₀ : Nat} {A B : World} (h : Below n₀ A B) {a : Option Addr} {len : Nat} {vs : List Nat} : Va n₀ A a len vs → Va n₀ B a len vs
  | ⟨h1, .inl e⟩ => ⟨h1, .inl e⟩
  | ⟨h1, .inr ⟨b, off, e, hb, hc⟩⟩ => ⟨h1, .inr ⟨b, off, e, hb, fun j hj => (h.cell (p := ⟨b, off + j, none⟩) hb).trans (hc j hj)⟩⟩
end Go.Proofs.Ytbgbjgedjmhcaaa.OldB
namespace Go.Proofs.Ytbgbjgedjmhcaaa.OldB
open Go.ChangeShapes Go.WideShapes Go.ChangeAt Go.RowKit
def vs (ws : List Nat) : List Value := ws.map (fun (x : Nat) => Value.int .u64 (x : Int))
theorem one_of (ws : List Nat) : ∀ u ∈ vs ws, u.oneCell' = true := by
  intro u hu
  simp [vs] at hu
  obtain ⟨x, _, rfl⟩ := hu
  rfl
def Src (w : World) (a : Option Addr) (m c : Nat) (news : List Value) : Prop :=
  (a = none ∧ m = 0 ∧ c = 0 ∧ news = []) ∨ ∃ ad, a = some ad ∧ ∀ j u, news[j]? = some u → w.cell? (ad.add j) = some u
def Wd (n₀ : Nat) (W : World) (a : Option Addr) (len cap : Nat) (ws : List Nat) : Prop :=
  ws.length = len ∧ (∀ j, j < len → ws[j]?.getD 0 < 18446744073709551616) ∧ (a = none → len = 0 ∧ cap = 0) ∧ (len = 0 ∨ ∃ b off, a = some ⟨b, off, none⟩ ∧ b < n₀ ∧ ∀ j, j < len → W.cell? ⟨b, off + j, none⟩ = some (.int .u64 (ws[j]?.getD 0 : Nat)))
theorem Wd.below {n₀ : Nat} {A B : World} (h : Below n₀ A B) {a : Option Addr} {len cap : Nat} {ws : List Nat} : Wd n₀ A a len cap ws → Wd n₀ B a len cap ws
  | ⟨h0, h1, h2, .inl e⟩ => ⟨h0, h1, h2, .inl e⟩
  | ⟨h0, h1, h2, .inr ⟨b, off, e, hb, hc⟩⟩ => ⟨h0, h1, h2, .inr ⟨b, off, e, hb, fun j hj => (h.cell (p := ⟨b, off + j, none⟩) hb).trans (hc j hj)⟩⟩
theorem Wd.mono {n m : Nat} {W : World} {a : Option Addr} {len cap : Nat} {ws : List Nat} (hm : n ≤ m) : Wd n W a len cap ws → Wd m W a len cap ws
  | ⟨h0, h1, h2, .inl e⟩ => ⟨h0, h1, h2, .inl e⟩
  | ⟨h0, h1, h2, .inr ⟨b, off, e, hb, hc⟩⟩ => ⟨h0, h1, h2, .inr ⟨b, off, e, by omega, hc⟩⟩
theorem Wd.kept {W W' : World} {a : Option Addr} {len cap : Nat} {ws : List Nat} (h : Wd W.heap.size W a len cap ws) (hb : Below W.heap.size W W') : Wd W'.heap.size W' a len cap ws := (h.below hb).mono hb.size
theorem Wd.va {n₀ : Nat} {W : World} {a : Option Addr} {len cap : Nat} {ws : List Nat} (h : Wd n₀ W a len cap ws) : Va n₀ W a len ws := ⟨h.2.1, h.2.2.2⟩
theorem Wd.src {n₀ : Nat} {W : World} {a : Option Addr} {len cap : Nat} {ws : List Nat} (h : Wd n₀ W a len cap ws) : Src W a len cap (vs ws) := by
  obtain ⟨h0, h1, h2, h3⟩ := h
  cases a with
  | none =>
    obtain ⟨e1, e2⟩ := h2 rfl
    exact .inl ⟨rfl, e1, e2, by rw [List.length_eq_zero_iff.1 (h0.trans e1)]; rfl⟩
  | some ad =>
    refine .inr ⟨ad, rfl, fun j u hj => ?_⟩
    have hjl : j < len := by
      have := (List.getElem?_eq_some_iff.1 hj).1
      simp [vs] at this; omega
    obtain ⟨b, off, e, hb, hc⟩ := h3.resolve_left (by omega)
    obtain rfl := Option.some.inj e
    have hu : u = .int .u64 (ws[j]?.getD 0 : Nat) := by
      simp [vs, List.getElem?_eq_getElem (by omega : j < ws.length)] at hj
      simp [List.getElem?_eq_getElem (by omega : j < ws.length), hj]
    rw [hu, ← hc j hjl]
    by_cases e : j = 0
    · subst e; simp [Addr.add]
    · simp [Addr.add, e]
def IsRow (k : IntKind) (w : World) (a : Option Addr) (len cap : Nat) (zs : List Int) : Prop :=
  (a = none ∧ len = 0 ∧ cap = 0 ∧ zs = []) ∨
  ∃ x, a = some x ∧ len ≤ cap ∧ cap ≤ maxLen ∧ zs.length = cap ∧ (∀ i, i < zs.length → w.cell? (x.add i) = some (.int k (zs.getD i 0))) ∧ ∀ n ∈ zs, (Lit.int k n).wf = true
def sb (x r : Nat) (is : Bool) : Nat := if is then (x &&& (18446744073709551615 - 2 ^ r)) ||| 2 ^ r else x &&& (18446744073709551615 - 2 ^ r)
end Go.Proofs.Ytbgbjgedjmhcaaa.OldB
namespace Go.Proofs.Ytbgbjgedjmhcaaa.OldB
open Go.ChangeShapes Go.WideShapes Go.ChangeAt Go.RowKit
theorem pw (r : Nat) : ((2 ^ r : Nat) : Int) = (2 : Int) ^ r := by rw [Int.natCast_pow]; rfl
end Go.Proofs.Ytbgbjgedjmhcaaa.OldB
namespace Go.Proofs.Ytbgbjgedjmhcaaa.OldB
open Go.ChangeShapes Go.WideShapes Go.ChangeAt Go.RowKit Go.Shelf
def notDefer (o : Oper) : Bool := match o.op with
  | .defer _ => false
  | _ => true
theorem notDefer_spec {o : Oper} (h : notDefer o = true) (c) : o.op ≠ .defer c := by
  intro e
  unfold notDefer at h
  rw [e] at h
  cases h
section
variable {P : Program} {ops : Array Oper} {md : Region.Mode} {w : World}
theorem wpIn_of_still {l₀ n : Nat} {o : Oper} {a : Act} {K : Act → Prop} {K' : Act → World → Prop} {Q' : Exit → Act → World → Prop} (hd : notDefer o = true) (h : ∀ a, K a → K' a w) (hh : o.still P a w K) : o.wpIn (Fence.wide.inRound l₀) n P a w K' Q' := by
  unfold Oper.still at hh
  unfold Oper.wpIn
  refine ⟨fun _ _ => trivial, ?_⟩
  rw [Oper.semAt_eq _ _ _ (notDefer_spec hd)]
  generalize (execOp a.eval o).run P w = r at *
  cases r with
  | ok n w' =>
    cases n <;> simp only [Oper.stillUpon] at hh <;> simp only [Oper.uponIn]
    case enter f args =>
      obtain ⟨rfl, v, hc, hn⟩ := hh
      exact ⟨fun h => by simp [Fence.inRound, Fence.wide] at h, (CallsIn.inRound l₀ (callsIn_wide.2 hc)).mono fun e w'' ⟨he, hw⟩ => by subst he; subst hw; exact h _ hn⟩
    all_goals (obtain ⟨rfl, h2⟩ := hh; exact h _ h2)
  | halt x w' => simp only [Oper.stillUpon] at hh
theorem wpOpIn_of_stOp {l₀ n : Nat} {i : Nat} {a : Act} {K : Act → Prop} {K' : Act → World → Prop} {Q' : Exit → Act → World → Prop} (hd : ∀ o, ops[i]? = some o → notDefer o = true) (h : ∀ a, K a → K' a w) (hh : stOp P ops w i K a) : wpOpIn (Fence.wide.inRound l₀) n P ops Q' i K' a w := by
  unfold stOp at hh
  unfold wpOpIn
  split
  · rename_i ho; simp only [ho] at hh; exact h _ hh
  · rename_i o ho
    simp only [ho] at hh
    split
    · rename_i hw; simp only [hw, if_true] at hh; exact wpIn_of_still (hd _ ho) h hh
    · rename_i hw; simp only [hw] at hh; exact ⟨fun _ _ => trivial, h _ hh⟩
theorem wpAnyIn_of_head {l₀ m n g : Nat} {L : Array Bool → Act → Prop} {Q' : Exit → Act → World → Prop} (hd : ∀ (i : Nat) (o : Oper), ops[i]? = some o → notDefer o = true) (hL : ∀ listed a, L listed a → wpAnyIn (Fence.wide.inRound l₀) m P md ops Q' g listed a w) :
    ∀ (f : Nat) (listed : Array Bool) (a : Act), wpAnyL P md ops w n L f listed a → wpAnyIn (Fence.wide.inRound l₀) m P md ops Q' (f + g) listed a w
  | 0, listed, a, h => by rw [Nat.zero_add]; exact hL _ _ h
  | f + 1, listed, a, h => by
    rw [show f + 1 + g = (f + g) + 1 by omega]
    exact ⟨fun h0 => absurd h0 h.1, fun i hi => wpOpIn_of_stOp (hd i) (fun a' h' => wpAnyIn_of_head hd hL f _ a' h') (h.2 i hi).2⟩
theorem wpAnyIn_of_seq {F : Fence} {m : Nat} {Q' : Exit → Act → World → Prop} : ∀ (l : List Oper) (k : Nat) (listed : Array Bool) (a : Act) (w : World), (∀ j, l[j]? = ops[k + j]?) →
    Region.seqB md ops l.length k listed = true → wpListIn F m P ops Q' l a w → wpAnyIn F m P md ops Q' l.length listed a w
  | [], _, _, _, _, _, hB, h => ⟨by simpa [Region.seqB] using hB, h⟩
  | o :: l, k, listed, a, w, hl, hB, h => by
    have h0 : ops[k]? = some o := by simpa using (hl 0).symm
    simp only [List.length_cons, Region.seqB, Bool.and_eq_true, decide_eq_true_eq] at hB
    refine ⟨fun h1 => (by rw [hB.1] at h1; cases h1), fun i hi => ?_⟩
    rw [hB.1] at hi
    have hik : i = k := by simpa using hi
    subst hik
    have hw : wpOpIn F m P ops Q' i (wpListIn F m P ops Q' l) a w := by unfold wpOpIn; simp only [h0]; exact h
    exact wpOpIn_mono (fun a' w' h' => wpAnyIn_of_seq l (i + 1) _ a' w' (fun j => by have := hl (j + 1); simpa [Nat.add_assoc, Nat.add_comm 1 j] using this) hB.2 h') hw
theorem wpIn_region_still_tail {l₀ m : Nat} {id : Nat} {Q : Exit → Act → World → Prop} {a : Act} {w : World} {l : List Oper} (n : Nat) (hm : P.follows .mixedOrders = true) (hB : Region.lexTailB .any l.toArray n = true) (hd : l.all notDefer = true)
    (h : wpStill P l.toArray { w with drawn := w.drawn + 1 } (fun a' => wpListIn (Fence.wide.inRound l₀) m P l.toArray Q (l.drop n) a' { w with drawn := w.drawn + 1 }) (l.take n) a) : (Code.region id l.toArray true).wpIn (Fence.wide.inRound l₀) m P Q a w := by
  simp only [Region.lexTailB, Bool.and_eq_true, decide_eq_true_eq] at hB
  obtain ⟨⟨⟨⟨hsel, hn⟩, hs⟩, hc⟩, hlex⟩ := hB
  have hn' : n < l.length := by simpa using hn
  have htl : (l.take n).length = n := by simp; omega
  have hdl : (l.drop n).length = l.toArray.size - n := by simp
  have inv0 : HeadInv .any l.toArray n (Array.replicate l.toArray.size false) :=
    ⟨by simp, fun j oj _ hl => (by rw [getD_replicate_false] at hl; cases hl), fun t _ ht => getD_in (by simpa using ht) (getD_replicate_false _ _)⟩
  have H := wpAnyL_lex (md := .any) (g := l.toArray.size - n) hsel hs hc hn (l.take n) 0 _ a (fun j hj => by
    have hj' : j < n := by rw [htl] at hj; exact hj
    simp [hj']) (by simpa using htl) inv0 (by rw [htl]; exact hlex) h
  have hd' : ∀ (i : Nat) (o : Oper), l.toArray[i]? = some o → notDefer o = true := fun i o ho => List.all_eq_true.1 hd o (List.mem_of_getElem? (i := i) (by simpa using ho))
  refine wpIn_region_any hm ?_
  have := wpAnyIn_of_head (Q' := Q) (l₀ := l₀) (m := m) (g := l.toArray.size - n) hd' (fun listed a' hL => by
    have := wpAnyIn_of_seq (F := Fence.wide.inRound l₀) (m := m) (md := .any) (Q' := Q) (l.drop n) n listed a' { w with drawn := w.drawn + 1 } (fun j => by simp [List.getElem?_drop]) (by rw [hdl]; exact hL.1) hL.2
    rwa [hdl] at this) _ _ _ H
  rw [htl, show n + (l.toArray.size - n) = l.toArray.size by omega] at this
  exact this
end
end Go.Proofs.Ytbgbjgedjmhcaaa.OldB
namespace Go.Proofs.Ytbgbjgedjmhcaaa.OldB
open Go.ChangeShapes Go.WideShapes Go.ChangeAt Go.RowKit Go.Shelf
attribute [local go_sem] Oper.semAt_some
theorem mask_is (lo b : Int) (h1 : 1 ≤ b) (h2 : b ≤ 64) (w : World) :
    Calls Try.prog 130 #[.agg #[.int .i64 lo, .int .i64 b]] w fun e w' => e = .returned (.int .u64 ((2 ^ b.toNat - 1 : Nat) : Int)) ∧ w' = w.alloc (.cells #[.int .i64 lo, .int .i64 b] 201) := by
  have hm := hid (show (18446744073709551615 : Int) / 2 ^ (64 - b).toNat = ((2 ^ b.toNat - 1 : Nat) : Int) by
    have := mask_num b.toNat (by omega)
    rwa [show 64 - b.toNat = (64 - b).toNat by omega] at this)
  go_enter Try.func130, Try.ntmps130
  go_wp2_with fail
  rw [hm.out]
  go_ret
  exact ⟨rfl, rfl⟩
def Pair (W : World) (B : Nat) (x y : Int) : Prop := W.heap[B]? = some (.cells #[.int .i64 x, .int .i64 y] 201 (0, 0))
theorem pair_own (B : Nat) (x y : Int) : Own (fun (_ : Unit) W => Pair W B x y) := fun s X Y row hs hg hrow =>
  (hg.block B (Array.getElem?_eq_some_iff.1 hs).1 (fun e' => by obtain ⟨o, ho, hc⟩ := hrow B e'.symm; rw [show X.heap[B]? = _ from hs] at ho; cases ho; cases hc)).trans hs
theorem Pair.lt {W : World} {B : Nat} {x y : Int} (h : Pair W B x y) : B < W.heap.size := (Array.getElem?_eq_some_iff.1 h).1
theorem Pair.alloc {W : World} {B : Nat} {x y : Int} (h : Pair W B x y) (o : Obj) : Pair (W.alloc o) B x y := (Below.heap_alloc W o B h.lt).trans h
theorem Pair.c0 {W : World} {B : Nat} {x y : Int} (h : Pair W B x y) : W.cell? ⟨B, 0, none⟩ = some (.int .i64 x) := by simp [World.cell?, show W.heap[B]? = _ from h]
theorem Pair.c1 {W : World} {B : Nat} {x y : Int} (h : Pair W B x y) : W.cell? ⟨B, 1, none⟩ = some (.int .i64 y) := by simp [World.cell?, show W.heap[B]? = _ from h]
def fwl {len : Nat} (zs : List Int) (vs : List Nat) (l : List (Ix len)) : Nat := l.foldl (fun r x => r ||| ((vs[x.1]?.getD 0) <<< (sw zs x.1).toNat)) 0
theorem fwl_snoc {len : Nat} (zs : List Int) (vs : List Nat) (l : List (Ix len)) (x : Ix len) : fwl zs vs (l ++ [x]) = fwl zs vs l ||| ((vs[x.1]?.getD 0) <<< (sw zs x.1).toNat) := by simp [fwl]
theorem fwl_firsts (zs : List Int) (vs : List Nat) (len k : Nat) (h : k ≤ len) : fwl zs vs (firsts len k h) = fw zs vs k := by
  induction k with
  | zero => rfl
  | succ k ih => rw [firsts, fwl_snoc, ih, fw]
theorem mem_firsts (len k : Nat) (h : k ≤ len) (j : Nat) (hj : j < len) (hk : j < k) : (⟨j, hj⟩ : Ix len) ∈ firsts len k h := by
  induction k with
  | zero => omega
  | succ k ih =>
    rw [firsts]
    by_cases e : j = k
    · subst e; exact List.mem_append.2 (.inr (by simp))
    · exact List.mem_append.2 (.inl (ih (by omega) (by omega)))
theorem sw_up (zs : List Int) (len k : Nat) (h : k ≤ len) (hz : ∀ j, j < len → fit zs j) (i : Nat) (hi : i < k) : sw zs i + zs[i]?.getD 0 ≤ 64 := by
  have h1 := sw_bd zs (i + 1) (fun j hj => hz j (by omega))
  have h2 : sw zs (i + 1) = sw zs i + zs[i]?.getD 0 := rfl
  omega
theorem shl_lt (v : Nat) (s z : Int) (h0 : 0 ≤ s) (h1 : 1 ≤ z) (h2 : s + z ≤ 64) (hv : v < 2 ^ z.toNat) : v <<< s.toNat < 2 ^ 64 := by
  rw [Nat.shiftLeft_eq]
  have h4 : v * 2 ^ s.toNat < 2 ^ z.toNat * 2 ^ s.toNat := Nat.mul_lt_mul_of_pos_right hv (Nat.two_pow_pos _)
  rw [← Nat.pow_add] at h4
  exact Nat.lt_of_lt_of_le h4 (Nat.pow_le_pow_right (by omega) (by omega))
theorem fwl_lt {len : Nat} (zs : List Int) (vs : List Nat) (hz : ∀ j, j < len → fit zs j) (l : List (Ix len)) (h : ∀ x ∈ l, vfit zs vs x.1) : fwl zs vs l < 2 ^ 64 := by
  have H : ∀ (l : List (Ix len)) (r : Nat), r < 2 ^ 64 → (∀ x ∈ l, vfit zs vs x.1) → l.foldl (fun r x => r ||| ((vs[x.1]?.getD 0) <<< (sw zs x.1).toNat)) r < 2 ^ 64 := by
    intro l
    induction l with
    | nil => intro r hr _; exact hr
    | cons x l ih =>
      intro r hr hl
      refine ih _ (Nat.or_lt_two_pow hr ?_) (fun y hy => hl y (List.mem_cons_of_mem _ hy))
      have h1 := sw_bd zs x.1 (fun j hj => hz j (by have := x.2; omega))
      have h2 := sw_up zs len (x.1 + 1) x.2 hz x.1 (by omega)
      have h3 := hz x.1 x.2
      unfold fit at h3
      exact shl_lt _ _ _ h1.1 h3.1 h2 (hl x (List.mem_cons_self ..))
  exact H l 0 (by decide) h
theorem after_mask1 (W : World) (o : Obj) : KeepsOthers W (W.drew.alloc o) := (KeepsOthers.drew W).trans (KeepsOthers.alloc _ _)
theorem after_mask2 (n₀ : Nat) (W : World) (o : Obj) (h : n₀ ≤ W.heap.size) : Below n₀ W (W.drew.alloc o) := ((Below.refl n₀ W).drew).alloc h _
theorem or_shl (x v : Nat) (s : Int) (hx : x < 2 ^ 64) (hv : v <<< s.toNat < 2 ^ 64) : bits .or .u64 (x : Int) (IntKind.u64.wrap ((v : Int) * 2 ^ s.toNat)) = ((x ||| (v <<< s.toNat) : Nat) : Int) := by
  have e : (v : Int) * 2 ^ s.toNat = ((v <<< s.toNat : Nat) : Int) := by rw [Nat.shiftLeft_eq, Int.natCast_mul, Int.natCast_pow]; rfl
  rw [e]
  generalize v <<< s.toNat = y at hv
  have e2 : IntKind.u64.wrap (y : Int) = (y : Int) := by simp [IntKind.wrap, IntKind.bits, IntKind.signed]; omega
  rw [e2, u64_or_nat _ _ hx hv]
structure Kept (p : Prop) : Prop where
  out : p
theorem share {A : Prop} (G : Prop) (k : Kept G → A) (pf : Kept G) : A := k pf
set_option maxRecDepth 100000 in
theorem fields_all (a b : Option Addr) (len cap cap2 : Nat) (zs : List Int) (vs : List Nat) (hbig : len ≤ 9223372036854775807) (hz : ∀ j, j < len → fit zs j) (w : World) (hI : Wi w.heap.size w a len zs) (hV : Va w.heap.size w b len vs) :
    Calls Try.prog 121 #[.slice a len cap, .slice b len cap2] w fun e w' => (((∀ j, j < len → vfit zs vs j) ∧ e = .returned (.tuple #[.int .u64 (fw zs vs len : Nat), .int .i64 0])) ∨ ((¬ ∀ j, j < len → vfit zs vs j) ∧ e = .returned (.tuple #[.int .u64 0, .int .i64 1]))) ∧ Below w.heap.size w w' := by
  have HI := hid hI
  have HV := hid hV
  have HZ := hid hz
  clear hI hV hz
  refine (callsIn_wide (n := 5)).1 (callsIn_of_wp_marks Try.func121 rfl trivial ?_ rfl)
  simp only [Try.ntmps121, List.size_toArray, List.length_cons, List.length_nil, Nat.reduceAdd, Nat.reduceSub, Array.replicate_succ, Array.replicate_zero, List.push_toArray, List.append_toArray, List.nil_append, List.cons_append]
  refine wpIn_wide.2 ?_
  go_wp2_with fail
  obtain ⟨wC, hwC⟩ : ∃ wC, wC = ((w.alloc (Obj.cells #[Value.slice b len cap2] 25)).alloc (Obj.cells #[Value.int IntKind.u64 0] 22)).alloc (Obj.cells #[Value.int IntKind.i64 0] 29) := ⟨_, rfl⟩
  rw [← hwC]
  have b1 := (((Boxed.new w 25 (.slice b len cap2)).alloc (.cells #[.int .u64 0] 22)).alloc (.cells #[.int .i64 0] 29))
  have b2 := (Boxed.new (w.alloc (.cells #[.slice b len cap2] 25)) 22 (.int .u64 0)).alloc (.cells #[.int .i64 0] 29)
  have b3 := Boxed.new ((w.alloc (.cells #[.slice b len cap2] 25)).alloc (.cells #[.int .u64 0] 22)) 29 (.int .i64 0)
  simp only [World.size_alloc] at b2 b3
  have hB0 : Below w.heap.size w wC := by rw [hwC]; exact (((Below.refl _ w).alloc (Nat.le_refl _) _).alloc (by simp) _).alloc (by simp; omega) _
  have hsz : wC.heap.size = w.heap.size + 3 := by rw [hwC]; simp
  rw [← hwC] at b1 b2 b3
  have HsC := hid hsz
  have B1 := hid b1; have B2 := hid b2; have B3 := hid b3; have HB0 := hid hB0
  clear hwC hsz b1 b2 b3 hB0
  refine (chk_ok a len cap zs w.heap.size wC hbig (HI.out.below HB0.out) HZ.out).mono ?_
  rintro e w1 ⟨rfl, rfl⟩
  go_wp2_with fail
  have c1 := B1.out.alloc (.cells #[.int .u64 0] 22)
  have c2 := B2.out.alloc (.cells #[.int .u64 0] 22)
  have c3 := B3.out.alloc (.cells #[.int .u64 0] 22)
  have c4 := Boxed.new wC 22 (.int .u64 0)
  rw [HsC.out] at c4
  have hB1 := hid (HB0.out.alloc (by rw [HsC.out]; omega) (.cells #[.int .u64 0] 22))
  have hs1 := hid (show (wC.alloc (.cells #[.int .u64 0] 22)).heap.size = w.heap.size + 4 by rw [World.size_alloc, HsC.out])
  rw [HsC.out]
  have C1 := hid c1; have C2 := hid c2; have C3 := hid c3; have C4 := hid c4
  clear c1 c2 c3 c4 B1 B2 B3 HB0 HsC
  generalize wC.alloc (.cells #[.int .u64 0] 22) = wD at *
  refine ((callsIn_wide (n := 4)).1 (fields_in Fence.wide 4 trivial rfl a len cap _)).mono ?_
  rintro e w' ⟨rfl, rfl⟩
  go_wp2_with fail
  rw [hs1.out]
  have d1 := C1.out.alloc (.cells #[.slice a len cap] 63)
  have d2 := C2.out.alloc (.cells #[.slice a len cap] 63)
  have d3 := C3.out.alloc (.cells #[.slice a len cap] 63)
  have d4 := C4.out.alloc (.cells #[.slice a len cap] 63)
  have d5 := Boxed.new wD 63 (.slice a len cap)
  rw [hs1.out] at d5
  have hB2 := hB1.out.alloc (by rw [hs1.out]; omega) (.cells #[.slice a len cap] 63)
  have hs2 : (wD.alloc (.cells #[.slice a len cap] 63)).heap.size = w.heap.size + 5 := by rw [World.size_alloc, hs1.out]
  clear C1 C2 C3 C4 hB1 hs1
  generalize wD.alloc (.cells #[.slice a len cap] 63) = wS at *
  refine (wpIn_wide (n := 5)).1 ?_
  refine wpIn_rangeFunc_ownH (F := Fence.wide) (n := 5) rfl (by omega) (gf := 134) (lb := #[.pointer (some ⟨w.heap.size + 4, 0, none⟩)]) rfl trivial (enters_of Try.func134 (by kernel_rfl) rfl)
    (fields_stops Fence.wide 4 trivial rfl (by omega) (w.heap.size + 4) w.heap.size a len cap zs hbig HZ.out wS (by omega) (by omega) d5.cell (HI.out.below hB2)) belowK_t (belowK_b (by omega)) (Below.refl _ _) (fun _ => rfl)
    (fun pre W => (((((∀ x ∈ pre, vfit zs vs x.1) ∧ Boxed W (w.heap.size + 3) 22 (.int .u64 (fwl zs vs pre : Nat))) ∧ Boxed W w.heap.size 25 (.slice b len cap2)) ∧ Boxed W (w.heap.size + 1) 22 (.int .u64 0)) ∧ Boxed W (w.heap.size + 2) 29 (.int .i64 0)) ∧ Below w.heap.size w W)
    (fun c pre W => (((c = .ret ∧ ∃ x ∈ pre, ¬ vfit zs vs x.1) ∧ Boxed W (w.heap.size + 1) 22 (.int .u64 0)) ∧ Boxed W (w.heap.size + 2) 29 (.int .i64 1)) ∧ Below w.heap.size w W)
    (OwnFrom.and (OwnFrom.and (OwnFrom.and (OwnFrom.and (OwnFrom.and (ownFrom_pure _ _) (Own.from (boxed_own _ _ _) _)) (Own.from (boxed_own _ _ _) _)) (Own.from (boxed_own _ _ _) _)) (Own.from (boxed_own _ _ _) _)) (ownFrom_below (Nat.le_refl _) (by omega)))
    (fun c => OwnFrom.and (OwnFrom.and (OwnFrom.and (ownFrom_pure _ _) (Own.from (boxed_own _ _ _) _)) (Own.from (boxed_own _ _ _) _)) (ownFrom_below (Nat.le_refl _) (by omega)))
    ⟨⟨⟨⟨⟨by simp, d4⟩, d1⟩, d2⟩, d3⟩, hB2⟩
    (fun x a' W => ∃ Bx, w.heap.size + 3 < Bx ∧ Pair W Bx (sw zs x.1) (zs[x.1]?.getD 0) ∧ a' = { tmps := #[.slice a len cap, .slice b len cap2, undef, .pointer (some ⟨w.heap.size, 0, none⟩), .pointer (some ⟨w.heap.size + 1, 0, none⟩), .pointer (some ⟨w.heap.size + 1 + 1, 0, none⟩), .int .i64 0, .pointer (some ⟨w.heap.size + 3, 0, none⟩), .int .i64 (x.1 : Int), .pointer (some ⟨Bx, 0, none⟩), .slice a len cap, .int .i64 len, .slice b len cap2, .int .i64 len, .bool false, .slice a len cap, .int .i64 0, .int .i64 0, .bool false, undef, .slice a len cap, .func (.func 134) #[] #[.pointer (some ⟨w.heap.size + 4, 0, none⟩)], .int .i64 (x.1 : Int), .agg #[.int .i64 (sw zs x.1), .int .i64 (zs[x.1]?.getD 0)], undef, undef, undef, undef, undef, undef, undef, undef, undef, undef, undef, undef, undef, undef, undef, undef, undef], defers := [] })
    (fun x a' _ X Y row hs hg hr => by obtain ⟨Bx, h1, h2, h3⟩ := hs; exact ⟨Bx, h1, pair_own Bx _ _ () X Y row h2 hg (fun r e => (hr r e).2), h3⟩)
    ?assign ?body ?done ?stop
  case assign =>
    rintro l pre x W K ⟨⟨⟨⟨⟨hp, e4⟩, e1⟩, e2⟩, e3⟩, eB⟩ hK
    have es := e4.lt
    gi_wp2
    exact hK _ _ ((KeepsOthers.alloc _ _).from _) ((Below.refl _ W).alloc eB.size _) ⟨⟨⟨⟨⟨hp, e4.alloc _⟩, e1.alloc _⟩, e2.alloc _⟩, e3.alloc _⟩, eB.alloc eB.size _⟩ ⟨W.heap.size, es, World.alloc_heap_new W _, rfl⟩
  case body =>
    rintro l pre x a' W hl ⟨r, hr⟩ ⟨⟨⟨⟨⟨hp, e4⟩, e1⟩, e2⟩, e3⟩, eB⟩ ⟨Bx, hBx, eX, rfl⟩ hlt
    have hx := x.2
    have hfit := HZ.out x.1 hx
    unfold fit at hfit
    obtain ⟨f1, f2⟩ := hfit
    obtain ⟨s1, s2⟩ := sw_bd zs x.1 (fun j hj => HZ.out j (by omega))
    have HF := hid (fwl_lt zs vs HZ.out pre hp)
    obtain ⟨v1, v2⟩ := HV.out
    have hv := v1 x.1 hx
    obtain ⟨bb, off, rfl, hbb, hcv⟩ := v2.resolve_left (by omega)
    have cV := (eB.cell (p := ⟨bb, off + x.1, none⟩) hbb).trans (hcv x.1 hx)
    clear v1 v2 hcv
    have c1 := e1.cell
    have c4 := e4.cell
    have g4 := e4.frozen
    have cX0 := eX.c0
    have cX1 := eX.c1
    have hx2 : (x.1 : Int) < (len : Int) := by omega
    have hx3 : (0 : Int) ≤ (x.1 : Int) := by omega
    have HSN := hid (fwl_snoc zs vs pre x)
    have HM := hid (mask_is (sw zs x.1) (zs[x.1]?.getD 0) f1 (by omega))
    have h1' : 1 ≤ 5 - 1 - 1 := by omega
    have hmx : Try.prog.follows .mixedOrders = true := by kernel_rfl
    obtain ⟨wM, hwM⟩ : ∃ wM, wM = W.drew.alloc (.cells #[.int .i64 (sw zs x.1), .int .i64 (zs[x.1]?.getD 0)] 201) := ⟨_, rfl⟩
    have m1 : wM.cell? ⟨w.heap.size, 0, none⟩ = some (.slice (some ⟨bb, off, none⟩) len cap2) := by rw [hwM]; exact (Boxed.alloc (W := W.drew) e1 _).cell
    have m2 : wM.cell? ⟨bb, off + x.1, none⟩ = some (.int .u64 (vs[x.1]?.getD 0 : Nat)) := by rw [hwM]; exact (World.cell?_alloc_old W.drew _ ⟨bb, off + x.1, none⟩ (Nat.ne_of_lt (Nat.lt_of_lt_of_le hbb eB.size))).trans cV
    have m3 : wM.cell? ⟨Bx, 0, none⟩ = some (.int .i64 (sw zs x.1)) := by rw [hwM]; exact (Pair.alloc (W := W.drew) eX _).c0
    have m4 : wM.cell? ⟨Bx, 1, none⟩ = some (.int .i64 (zs[x.1]?.getD 0)) := by rw [hwM]; exact (Pair.alloc (W := W.drew) eX _).c1
    have HwM := hid hwM
    clear hwM
    have HM2 := hid ((HM.out W.drew).mono (R' := fun e w' => e = .returned (.int .u64 ((2 ^ (zs[x.1]?.getD 0).toNat - 1 : Nat) : Int)) ∧ wM = w') (fun e w' ⟨h1, h2⟩ => ⟨h1, HwM.out.trans h2.symm⟩))
    clear HM
    have n4 : wM.cell? ⟨w.heap.size + 3, 0, none⟩ = some (.int .u64 (fwl zs vs pre : Nat)) := by rw [HwM.out]; exact (Boxed.alloc (W := W.drew) e4 _).cell
    have n5 : wM.frozen? ⟨w.heap.size + 3, 0, none⟩ = false := by rw [HwM.out]; exact (Boxed.alloc (W := W.drew) e4 _).frozen
    have n6 : wM.cell? ⟨w.heap.size + 1, 0, none⟩ = some (.int .u64 0) := by rw [HwM.out]; exact (Boxed.alloc (W := W.drew) e2 _).cell
    have n7 : wM.frozen? ⟨w.heap.size + 1, 0, none⟩ = false := by rw [HwM.out]; exact (Boxed.alloc (W := W.drew) e2 _).frozen
    have n8 : wM.cell? ⟨w.heap.size + 2, 0, none⟩ = some (.int .i64 0) := by rw [HwM.out]; exact (Boxed.alloc (W := W.drew) e3 _).cell
    have n9 : wM.frozen? ⟨w.heap.size + 2, 0, none⟩ = false := by rw [HwM.out]; exact (Boxed.alloc (W := W.drew) e3 _).frozen
    have KM := hid (after_mask1 W (.cells #[.int .i64 (sw zs x.1), .int .i64 (zs[x.1]?.getD 0)] 201))
    have BM := hid (after_mask2 w.heap.size W (.cells #[.int .i64 (sw zs x.1), .int .i64 (zs[x.1]?.getD 0)] 201) eB.size)
    have M1 := hid (Boxed.alloc (W := W.drew) e1 (.cells #[.int .i64 (sw zs x.1), .int .i64 (zs[x.1]?.getD 0)] 201))
    have M2 := hid (Boxed.alloc (W := W.drew) e2 (.cells #[.int .i64 (sw zs x.1), .int .i64 (zs[x.1]?.getD 0)] 201))
    have M3 := hid (Boxed.alloc (W := W.drew) e3 (.cells #[.int .i64 (sw zs x.1), .int .i64 (zs[x.1]?.getD 0)] 201))
    have M4 := hid (Boxed.alloc (W := W.drew) e4 (.cells #[.int .i64 (sw zs x.1), .int .i64 (zs[x.1]?.getD 0)] 201))
    rw [← HwM.out] at KM BM M1 M2 M3 M4
    have EB := hid eB
    have HP := hid hp
    gi_wp2
    apply share
    case k =>
      intro key
      gi_region_with_o (refine ⟨trivial, ?_⟩; gi_at_call 130; refine (CallsIn.inRound l (callsIn_wide.2 HM2.out)).mono ?_; rintro e w' ⟨rfl, rfl⟩)
      all_goals exact key.out
    case pf =>
      refine ⟨?_⟩
      clear HM2 c1 cV cX0 cX1 c4 g4 hp eB e1 e2 e3 e4 eX HwM
      by_cases hfv : vs[x.1]?.getD 0 < 2 ^ (zs[x.1]?.getD 0).toNat
      · have hd : decide (2 ^ (zs[x.1]?.getD 0).toNat - 1 < vs[x.1]?.getD 0) = false := by simp; omega
        have HS := hid (shl_lt (vs[x.1]?.getD 0) (sw zs x.1) (zs[x.1]?.getD 0) s1 f1 (by omega) hfv)
        have w1 := or_shl (fwl zs vs pre) (vs[x.1]?.getD 0) (sw zs x.1) HF.out HS.out
        rw [hd]
        have HX := hid (M4.out.set (.int .u64 (fwl zs vs pre ||| (vs[x.1]?.getD 0) <<< (sw zs x.1).toNat : Nat)))
        have HX1 := hid (M1.out.other (by omega) (B' := w.heap.size + 3) (.int .u64 (fwl zs vs pre ||| (vs[x.1]?.getD 0) <<< (sw zs x.1).toNat : Nat)))
        have HX2 := hid (M2.out.other (by omega) (B' := w.heap.size + 3) (.int .u64 (fwl zs vs pre ||| (vs[x.1]?.getD 0) <<< (sw zs x.1).toNat : Nat)))
        have HX3 := hid (M3.out.other (by omega) (B' := w.heap.size + 3) (.int .u64 (fwl zs vs pre ||| (vs[x.1]?.getD 0) <<< (sw zs x.1).toNat : Nat)))
        have HX4 := hid (((KM.out.trans (KeepsOthers.setCell wM ⟨w.heap.size + 3, 0, none⟩ (.int .u64 (fwl zs vs pre ||| (vs[x.1]?.getD 0) <<< (sw zs x.1).toNat : Nat)))).trans (KeepsOthers.drew _)).from wS.heap.size)
        have HX5 := hid ((BM.out.setCell (p := ⟨w.heap.size + 3, 0, none⟩) (by simp) (.int .u64 (fwl zs vs pre ||| (vs[x.1]?.getD 0) <<< (sw zs x.1).toNat : Nat))).drew)
        have HX6 := hid (show ∀ y ∈ pre ++ [x], vfit zs vs y.1 from fun y hy => (List.mem_append.1 hy).elim (HP.out y) (fun h => by rw [List.mem_singleton.1 h]; exact hfv))
        rw [← HSN.out] at HX HX1 HX2 HX3 HX4 HX5
        clear hfv
        gi_wp2
        refine wpIn_region_still_tail 9 hmx (by kernel_rfl) (by kernel_rfl) ?_
        simp only [List.take_succ_cons, List.take_zero, List.drop_succ_cons, List.drop_zero]
        repeat still_step
        refine wpStill_nil ?_
        rw [← HSN.out]
        change wpListIn _ _ _ _ _ _ _ wM.drew
        gi_wp2
        exact ⟨HX4.out, HX5.out, ⟨⟨⟨⟨HX6.out, HX.out⟩, HX1.out⟩, HX2.out⟩, HX3.out⟩, EB.out.trans HX5.out⟩
      · have hd : decide (2 ^ (zs[x.1]?.getD 0).toNat - 1 < vs[x.1]?.getD 0) = true := by
          have := Nat.two_pow_pos (zs[x.1]?.getD 0).toNat
          simp; omega
        rw [hd]
        gi_wp2
        have hB9 := (BM.out.setCell (p := ⟨w.heap.size + 1, 0, none⟩) (by simp) (.int .u64 0)).setCell (p := ⟨w.heap.size + 1 + 1, 0, none⟩) (by show _ ≤ w.heap.size + 1 + 1; omega) (.int .i64 1)
        exact ⟨((KM.out.trans (KeepsOthers.setCell wM _ _)).trans (KeepsOthers.setCell _ _ _)).from _, ⟨⟨⟨rfl, x, by simp, hfv⟩, (M2.out.set (.int .u64 0)).other (by omega) _⟩, (M3.out.other (by omega) _).set _⟩, EB.out.trans hB9⟩
  case done =>
    rintro D ys W hD rfl ⟨⟨⟨⟨⟨hp, e4⟩, e1⟩, e2⟩, e3⟩, eB⟩ hK
    have HP := hid hp
    have HK := hid hK
    have EB := hid eB
    have c4 := e4.cell
    have c2 := e2.cell
    have g2 := e2.frozen
    have c3 := e3.cell
    have g3 := e3.frozen
    have E2 := hid e2
    have E3 := hid e3
    clear hp hK eB e1 e2 e3 e4
    have HF := hid (fwl_firsts zs vs len len (Nat.le_refl _))
    rw [HF.out] at c4
    go_wp2_with fail
    have f1 := (E2.out.set (.int .u64 (fw zs vs len : Nat))).other (B' := w.heap.size + 2) (by omega) (.int .i64 0)
    have f2 := ((E3.out.other (B' := w.heap.size + 1) (by omega) (.int .u64 (fw zs vs len : Nat))).set (.int .i64 0))
    have hK' := (KeepsOthers.setCell (W.setCell ⟨w.heap.size + 1, 0, none⟩ (.int .u64 (fw zs vs len : Nat))) ⟨w.heap.size + 2, 0, none⟩ (.int .i64 0)).same D _ ((KeepsOthers.setCell W ⟨w.heap.size + 1, 0, none⟩ (.int .u64 (fw zs vs len : Nat))).same D _ HK.out rfl) rfl
    have hB9 := (EB.out.setCell (p := ⟨w.heap.size + 1, 0, none⟩) (by simp) (.int .u64 (fw zs vs len : Nat))).setCell (p := ⟨w.heap.size + 2, 0, none⟩) (by simp) (.int .i64 0)
    refine ⟨by simp, .inl ⟨_, _, rfl, run_takeDeferred hK', ?_⟩⟩
    have hc5 := cell_kept f1.cell (grownBy_putObj' _ D (.deferred none)) (fun r e => by cases e; exact ⟨_, hK', rfl⟩)
    have hc6 := cell_kept f2.cell (grownBy_putObj' _ D (.deferred none)) (fun r e => by cases e; exact ⟨_, hK', rfl⟩)
    refine ⟨.tuple #[.int .u64 (fw zs vs len : Nat), .int .i64 0], ?_, .inl ⟨fun j hj => HP.out ⟨j, hj⟩ (mem_firsts len len (Nat.le_refl _) j hj hj), rfl⟩, hB9.trans (belowK_b (w := w) (Nat.le_refl _) _ D _ _ (by omega) hK' rfl rfl)⟩
    simp [results, Try.f121, go_sem, hc5, hc6]
  case stop =>
    rintro D c pre W hD _ ⟨⟨⟨⟨rfl, x, hx, hy⟩, e2⟩, e3⟩, eB⟩ hK
    have HK := hid hK
    have EB := hid eB
    have HY := hid hy
    have E2 := hid e2
    have E3 := hid e3
    clear hK eB hy e2 e3
    refine (wpIn_wide (n := 5)).2 ?_
    go_wp2_with fail
    refine ⟨by simp, .inl ⟨_, _, rfl, run_takeDeferred HK.out, ?_⟩⟩
    have hc5 := cell_kept E2.out.cell (grownBy_putObj' _ D (.deferred none)) (fun r e => by cases e; exact ⟨_, HK.out, rfl⟩)
    have hc6 := cell_kept E3.out.cell (grownBy_putObj' _ D (.deferred none)) (fun r e => by cases e; exact ⟨_, HK.out, rfl⟩)
    refine ⟨.tuple #[.int .u64 0, .int .i64 1], ?_, .inr ⟨fun h => HY.out (h x.1 x.2), rfl⟩, EB.out.trans (belowK_b (w := w) (Nat.le_refl _) _ D _ _ (by omega) HK.out rfl rfl)⟩
    simp [results, Try.f121, go_sem, hc5, hc6]
end Go.Proofs.Ytbgbjgedjmhcaaa.OldB
namespace Go.Proofs.Ytbgbjgedjmhcaaa.OldB
open Go.RowKit
def plainOp (o : Oper) : Bool := match o.op with
  | .defer _ => false
  | _ => true
theorem plainOp_spec {o : Oper} (h : plainOp o = true) (c) : o.op ≠ .defer c := by
  intro e
  unfold plainOp at h
  rw [e] at h
  cases h
def wideR (ro : Option Nat) : Fence := { Fence.wide with round := ro }
def maskF (l : List Oper) : Nat → Nat → Nat
  | 0, _ => 0
  | f + 1, i => match l[i]? with
    | none => 0
    | some o => o.after.toList.foldl (fun m e => if Region.binds .any e then (m ||| 2 ^ e.on) ||| maskF l f e.on else m) 0
theorem fold_bit {α : Type} (p : α → Bool) (g h : α → Nat) (j : Nat) : ∀ (es : List α) (m : Nat), (es.foldl (fun m e => if p e then (m ||| 2 ^ g e) ||| h e else m) m).testBit j = true → m.testBit j = true ∨ ∃ e ∈ es, p e = true ∧ (g e = j ∨ (h e).testBit j = true)
  | [], m, H => .inl H
  | e :: es, m, H => by
    rw [List.foldl_cons] at H
    rcases fold_bit p g h j es _ H with h1 | ⟨e', h1, h2⟩
    · by_cases hp : p e = true
      · rw [if_pos hp, Nat.testBit_or, Nat.testBit_or, Nat.testBit_two_pow] at h1
        simp only [Bool.or_eq_true, decide_eq_true_eq] at h1
        rcases h1 with (h1 | h1) | h1
        · exact .inl h1
        · exact .inr ⟨e, List.mem_cons_self .., hp, .inl h1⟩
        · exact .inr ⟨e, List.mem_cons_self .., hp, .inr h1⟩
      · rw [if_neg hp] at h1; exact .inl h1
    · exact .inr ⟨e', List.mem_cons_of_mem _ h1, h2⟩
def Clo (l : List Oper) (L : Array Bool) : Prop := ∀ i o, l[i]? = some o → L.getD i false = true → ∀ e ∈ o.after, Region.binds .any e = true → L.getD e.on false = true
theorem mask_on {l : List Oper} {L : Array Bool} (hc : Clo l L) : ∀ (f i j : Nat), (maskF l f i).testBit j = true → (∀ o, l[i]? = some o → ∀ e ∈ o.after, Region.binds .any e = true → L.getD e.on false = true) → L.getD j false = true
  | 0, i, j, h, _ => by simp [maskF] at h
  | f + 1, i, j, h, hi => by
    unfold maskF at h
    cases ho : l[i]? with
    | none => rw [ho] at h; simp at h
    | some o =>
      rw [ho] at h
      rcases fold_bit _ _ _ j _ _ h with h1 | ⟨e, he, hb, h1⟩
      · simp at h1
      · have hl := hi o ho e (by simpa using he) hb
        rcases h1 with h1 | h1
        · rw [← h1]; exact hl
        · exact mask_on hc f e.on j h1 (fun o' ho' => hc e.on o' ho' hl)
theorem mask_up {l : List Oper} {L : Array Bool} (hc : Clo l L) (f i j : Nat) (h : (maskF l f i).testBit j = true) (hi : L.getD i false = true) : L.getD j false = true :=
  mask_on hc f i j h (fun o ho => hc i o ho hi)
def putAll : List Oper → List Value → Act → Act
  | o :: os, v :: vs, a => putAll os vs (a.put o.dst v)
  | _, _, a => a
theorem put_size (a : Act) (d : Option Tmp) (v : Value) : (a.put d v).tmps.size = a.tmps.size := by cases d <;> simp [Act.put]
theorem put_defers (a : Act) (d : Option Tmp) (v : Value) : (a.put d v).defers = a.defers := by cases d <;> rfl
theorem put_off (a : Act) (d : Option Tmp) (v : Value) (s : Nat) (h : d ≠ some s) : (a.put d v).tmps[s]? = a.tmps[s]? := by
  cases d with
  | none => rfl
  | some d =>
    have : d ≠ s := fun e => h (by rw [e])
    simp [Act.put, Array.getElem?_setIfInBounds, this]
theorem put_at (a : Act) (s : Nat) (v : Value) (h : s < a.tmps.size) : (a.put (some s) v).tmps[s]? = some v := by
  simp [Act.put, Array.getElem?_setIfInBounds, h]
theorem putAll_keeps : ∀ (l : List Oper) (vs : List Value) (a : Act), (putAll l vs a).tmps.size = a.tmps.size ∧ (putAll l vs a).defers = a.defers ∧ ∀ s, (∀ o ∈ l, o.dst ≠ some s) → (putAll l vs a).tmps[s]? = a.tmps[s]?
  | [], _, a => by unfold putAll; exact ⟨rfl, rfl, fun _ _ => rfl⟩
  | o :: os, [], a => by unfold putAll; exact ⟨rfl, rfl, fun _ _ => rfl⟩
  | o :: os, v :: vs, a => by
    unfold putAll
    obtain ⟨h1, h2, h3⟩ := putAll_keeps os vs (a.put o.dst v)
    exact ⟨h1.trans (put_size _ _ _), h2.trans (put_defers _ _ _), fun s hs => (h3 s fun o' ho' => hs o' (List.mem_cons_of_mem _ ho')).trans (put_off _ _ _ _ (hs o (List.mem_cons_self ..)))⟩
def valsOf (l : List Oper) (aF : Act) : List Value := l.map fun o => match o.dst with
  | some d => aF.tmps.getD d undef
  | none => undef
def StepP (P : Program) (ops : Array Oper) (aF : Act) (o : Oper) (w w' : World) : Prop :=
  if Region.wanted o (yielded ops aF.tmps) = true then o.wp P aF w (fun a' w'' => a' = aF ∧ w'' = w') (fun _ _ _ => False) else (aF.put o.dst undef = aF ∧ w = w')
def StepE (P : Program) (ops : Array Oper) (a0 aF : Act) (o : Oper) (w w' : World) : Prop :=
  Region.wanted o (yielded ops a0.tmps) = true ∧ ∃ v, (execOp a0.eval o).run P w = .ok (.value v) w' ∧ aF.put o.dst v = aF
def StepK (P : Program) (ops : Array Oper) (a0 aF : Act) (early : Bool) (o : Oper) (w w' : World) : Prop :=
  if early then StepE P ops a0 aF o w w' else StepP P ops aF o w w'
def phase (sp : List Nat) (L : Array Bool) : Nat := (sp.filter fun i => L.getD i false).length
def planB (l : List Oper) (size : Nat) (er : List Nat) (sp : List Nat) (ph : List (List (Nat × Nat))) : Bool :=
  (l.all plainOp && Region.noSelect l.toArray) &&
  ((l.all fun o => match o.dst with | some d => decide (d < size) | none => true) &&
  (((List.range l.length).all fun i => match l[i]? with
    | none => true
    | some o => (o.after.toList.all fun e => !Region.binds .any e || decide (e.on < i)) && (o.looksAt l.toArray).all fun s => (List.range l.length).all fun j => (match l[j]? with | some oj => oj.dst != some s | none => true) || (if er.contains i then (maskF l l.length j).testBit i else (maskF l l.length i).testBit j)) &&
  (((List.range (sp.length - 1)).all fun k => (maskF l l.length (sp[k + 1]?.getD 0)).testBit (sp[k]?.getD 0)) &&
  (((List.range sp.length).all fun m => (List.range m).all fun k => sp[k]? != sp[m]?) &&
  ((List.range l.length).all fun i =>
    ((List.range sp.length).all fun k => sp[k]? != some i || (ph[i]?.getD []).contains (k, k + 1)) &&
    (sp.contains i || (List.range (sp.length + 1)).all fun k => decide (k < (sp.filter fun t => (maskF l l.length i).testBit t).length) || decide (sp.length < k + (sp.filter fun t => (maskF l l.length t).testBit i).length) || (ph[i]?.getD []).contains (k, k)))))))
theorem act_ext {a b : Act} (h1 : a.tmps.size = b.tmps.size) (h2 : a.defers = b.defers) (h3 : ∀ s : Nat, a.tmps[s]? = b.tmps[s]?) : a = b := by
  obtain ⟨ta, da⟩ := a
  obtain ⟨tb, db⟩ := b
  simp only at h1 h2 h3
  subst h2
  rw [Array.ext_getElem? h3]
structure OnWay (l : List Oper) (a0 aF : Act) (L : Array Bool) (a : Act) : Prop where
  old : ∀ s : Nat, (∀ (j : Nat) (o : Oper), l[j]? = some o → o.dst = some s → L.getD j false = false) → a.tmps[s]? = a0.tmps[s]?
  size : a.tmps.size = aF.tmps.size
  defers : a.defers = aF.defers
  off : ∀ s, (∀ o ∈ l, o.dst ≠ some s) → a.tmps[s]? = aF.tmps[s]?
  on : ∀ s j o, l[j]? = some o → o.dst = some s → L.getD j false = true → a.tmps[s]? = aF.tmps[s]?
theorem getD_set_self {L : Array Bool} {i : Nat} (hi : i < L.size) (b : Bool) : (L.setIfInBounds i true).getD i b = true := by
  simp [Array.getD_eq_getD_getElem?, Array.getElem?_setIfInBounds, hi]
theorem getD_set_other {L : Array Bool} {i j : Nat} (h : i ≠ j) (b : Bool) : (L.setIfInBounds i true).getD j b = L.getD j b := by
  simp [Array.getD_eq_getD_getElem?, Array.getElem?_setIfInBounds, h]
theorem OnWay.step {l : List Oper} {a0 aF : Act} {L : Array Bool} {a : Act} {i : Nat} {o : Oper} {v : Value} (h : OnWay l a0 aF L a) (hL : L.size = l.length) (ho : l[i]? = some o) (hd : ∀ d, o.dst = some d → d < aF.tmps.size) (hv : aF.put o.dst v = aF) : OnWay l a0 aF (L.setIfInBounds i true) (a.put o.dst v) := by
  have hi : i < L.size := by rw [hL]; exact (List.getElem?_eq_some_iff.1 ho).1
  refine ⟨fun s hs => ?_, (put_size _ _ _).trans h.size, (put_defers _ _ _).trans h.defers, fun s hs => ?_, fun s j o' hj hs hl => ?_⟩
  · have e : o.dst ≠ some s := fun e => by
      have := hs i o ho e
      rw [getD_set_self hi] at this
      cases this
    rw [put_off _ _ _ _ e]
    refine h.old s fun j o' hj hd => ?_
    have := hs j o' hj hd
    by_cases e2 : i = j
    · subst e2; rw [getD_set_self hi] at this; cases this
    · rwa [getD_set_other e2] at this
  · rw [put_off _ _ _ _ (hs o (List.mem_of_getElem? ho))]; exact h.off s hs
  · by_cases e : o.dst = some s
    · have h1 := put_at a s v (by rw [h.size]; exact hd s e)
      have h2 := put_at aF s v (hd s e)
      rw [e] at hv ⊢
      rw [h1, ← h2, hv]
    · rw [put_off _ _ _ _ e]
      have hji : i ≠ j := fun hh => by
        subst hh
        rw [ho] at hj
        obtain rfl := Option.some.inj hj
        exact e hs
      rw [getD_set_other hji] at hl
      exact h.on s j o' hj hs hl
theorem tmps_getD {a b : Act} {s : Nat} (h : a.tmps[s]? = b.tmps[s]?) : a.eval (.tmp s) = b.eval (.tmp s) := by
  show a.tmps.getD s undef = b.tmps.getD s undef
  simp only [Array.getD_eq_getD_getElem?, h]
theorem same_exec {P : Program} {ops : Array Oper} {o : Oper} {a aF : Act} (hs : ∀ cs b, o.op ≠ .select cs b) (h : ∀ s ∈ o.looksAt ops, a.tmps[s]? = aF.tmps[s]?) : execOp a.eval o = execOp aF.eval o :=
  execOp_congr o hs fun x hx => by
    cases x with
    | tmp s => exact tmps_getD (h s (List.mem_append_left _ (List.mem_filterMap.2 ⟨.tmp s, by simpa using hx, rfl⟩)))
    | _ => rfl
theorem same_wanted {ops : Array Oper} {o : Oper} {a aF : Act} (h : ∀ s ∈ o.looksAt ops, a.tmps[s]? = aF.tmps[s]?) : Region.wanted o (yielded ops a.tmps) = Region.wanted o (yielded ops aF.tmps) := by
  unfold Region.wanted
  cases hg : o.guard with
  | none => rfl
  | some g =>
    obtain ⟨g, b⟩ := g
    have e : yielded ops a.tmps g = yielded ops aF.tmps g := by
      unfold yielded
      cases hd : (ops[g]?).bind (·.dst) with
      | none => rfl
      | some d =>
        have := h d (List.mem_append_right _ (by rw [hg]; simp [hd]))
        simp only [Option.bind_some, this]
    simp only [e]
theorem step_in {P : Program} {ops : Array Oper} {ro : Option Nat} {n : Nat} {Q : Exit → Act → World → Prop} {i : Nat} {o : Oper} {a aF : Act} {w w' : World} {K : Act → World → Prop} (hd : plainOp o = true) (hs : ∀ cs b, o.op ≠ .select cs b) (ho : ops[i]? = some o) (hl : ∀ s ∈ o.looksAt ops, a.tmps[s]? = aF.tmps[s]?)
    (h : StepP P ops aF o w w') (hK : ∀ v, aF.put o.dst v = aF → K (a.put o.dst v) w') : wpOpIn (wideR ro) n P ops Q i K a w := by
  unfold StepP at h
  unfold wpOpIn
  simp only [ho]
  rw [same_wanted hl]
  split
  · rename_i hw
    rw [if_pos hw] at h
    unfold Oper.wp at h
    refine ⟨fun _ _ => trivial, ?_⟩
    rw [Oper.semAt_eq _ _ _ (plainOp_spec hd), same_exec (P := P) hs hl]
    generalize (execOp aF.eval o).run P w = r at *
    cases r with
    | ok x w1 =>
      cases x <;> simp only [Oper.upon] at h <;> simp only [Oper.uponIn]
      case value v => obtain ⟨h1, rfl⟩ := h; exact hK v h1
      case skip => obtain ⟨h1, rfl⟩ := h; exact hK _ h1
      case defer d =>
        have := congrArg (fun x => x.defers.length) h.1
        simp [put_defers] at this
      case enter f args =>
        refine ⟨fun hh => (by cases hh), ?_⟩
        have hc : CallsIn Fence.wide (n - 1) P f args w1 _ := callsIn_wide.2 h
        refine CallsIn.mono (F := wideR ro) hc fun e w2 he => ?_
        cases e with
        | returned v => obtain ⟨h1, rfl⟩ := he; exact hK v h1
        | panicked c => exact he.elim
        | outgrown => obtain ⟨_, _, hh⟩ := he; exact hh.elim
      case row row args =>
        refine ⟨fun hh => (by cases hh), ?_⟩
        intro c cs _
        obtain ⟨v, w2, ⟨h1, rfl⟩, s⟩ := h c cs
        exact ⟨v, _, hK v h1, stepsIn_wide.2 s⟩
    | halt x w1 => cases x <;> simp only [Oper.upon] at h
  · rename_i hw
    rw [if_neg hw] at h
    obtain ⟨h1, rfl⟩ := h
    exact ⟨fun _ _ => trivial, hK _ h1⟩
def left (L : Array Bool) : Nat := L.toList.count false
theorem count_set (l : List Bool) : ∀ i, l[i]? = some false → (l.set i true).count false + 1 = l.count false := by
  induction l with
  | nil => intro i h; simp at h
  | cons b l ih =>
    intro i h
    cases i with
    | zero => simp at h; subst h; simp
    | succ i =>
      have := ih i (by simpa using h)
      rw [List.set_cons_succ, List.count_cons, List.count_cons]
      omega
theorem left_set {L : Array Bool} {i : Nat} (h : L.getD i true = false) : left (L.setIfInBounds i true) + 1 = left L := by
  unfold left
  have h1 : L.toList[i]? = some false := by
    rw [Array.getD_eq_getD_getElem?] at h
    cases e : L[i]? with
    | none => rw [e] at h; simp at h
    | some b => rw [e] at h; simp at h; subst h; simpa using e
  have := count_set L.toList i h1
  rwa [← Array.toList_setIfInBounds] at this
theorem left_zero {L : Array Bool} (h : left L = 0) (i : Nat) : L.getD i true = true := by
  unfold left at h
  rw [Array.getD_eq_getD_getElem?]
  cases e : L[i]? with
  | none => rfl
  | some b =>
    cases b with
    | true => rfl
    | false =>
      have h1 : L.toList[i]? = some false := by simpa using e
      have := count_set L.toList i h1
      omega
theorem filter_first (p : Nat → Bool) : ∀ (sp : List Nat) (k : Nat), k ≤ sp.length → (∀ m t, sp[m]? = some t → (p t = true ↔ m < k)) → (sp.filter p).length = k
  | [], k, hk, _ => by simp at hk; simp [hk]
  | t :: sp, k, hk, h => by
    cases k with
    | zero =>
      have : (t :: sp).filter p = [] := by
        rw [List.filter_eq_nil_iff]
        intro x hx hp
        obtain ⟨m, hm⟩ := List.getElem?_of_mem hx
        have := (h m x hm).1 hp
        omega
      rw [this]; rfl
    | succ k =>
      have h0 : p t = true := (h 0 t rfl).2 (by omega)
      rw [List.filter_cons_of_pos h0, List.length_cons, filter_first p sp k (by simpa using hk) (fun m t' hm => by rw [h (m + 1) t' (by simpa using hm)]; omega)]
theorem filter_apart (p q : Nat → Bool) : ∀ (sp : List Nat), (∀ t ∈ sp, p t = true → q t = true → False) → (sp.filter p).length + (sp.filter q).length ≤ sp.length
  | [], _ => by simp
  | t :: sp, h => by
    have ih := filter_apart p q sp (fun t' ht' => h t' (List.mem_cons_of_mem _ ht'))
    by_cases hp : p t = true
    · have hq : ¬ q t = true := fun hq => h t (List.mem_cons_self ..) hp hq
      rw [List.filter_cons_of_pos hp, List.filter_cons_of_neg hq, List.length_cons, List.length_cons]; omega
    · rw [List.filter_cons_of_neg hp]
      by_cases hq : q t = true
      · rw [List.filter_cons_of_pos hq, List.length_cons, List.length_cons]; omega
      · rw [List.filter_cons_of_neg hq, List.length_cons]; omega
theorem filter_le (p q : Nat → Bool) : ∀ (sp : List Nat), (∀ t ∈ sp, p t = true → q t = true) → (sp.filter p).length ≤ (sp.filter q).length
  | [], _ => by simp
  | t :: sp, h => by
    have ih := filter_le p q sp (fun t' ht' => h t' (List.mem_cons_of_mem _ ht'))
    by_cases hp : p t = true
    · rw [List.filter_cons_of_pos hp, List.filter_cons_of_pos (h t (List.mem_cons_self ..) hp), List.length_cons, List.length_cons]; omega
    · rw [List.filter_cons_of_neg hp]
      by_cases hq : q t = true
      · rw [List.filter_cons_of_pos hq, List.length_cons]; omega
      · rw [List.filter_cons_of_neg hq]; exact ih
theorem getD_fb {L : Array Bool} {i : Nat} (h : L.getD i true = false) : L.getD i false = false := by
  rw [Array.getD_eq_getD_getElem?] at h ⊢
  cases e : L[i]? with
  | none => rfl
  | some b => rw [e] at h; simpa using h
theorem getD_bf {L : Array Bool} {i : Nat} (hi : i < L.size) (h : L.getD i true = true) : L.getD i false = true := by
  rw [Array.getD_eq_getD_getElem?] at h ⊢
  rw [Array.getElem?_eq_getElem hi] at h ⊢
  simpa using h
structure PlanOK (l : List Oper) (size : Nat) (er : List Nat) (sp : List Nat) (ph : List (List (Nat × Nat))) : Prop where
  plain : ∀ (i : Nat) (o : Oper), l[i]? = some o → plainOp o = true
  sel : Region.noSelect l.toArray = true
  dst : ∀ (i : Nat) (o : Oper) (d : Nat), l[i]? = some o → o.dst = some d → d < size
  low : ∀ (i : Nat) (o : Oper), l[i]? = some o → ∀ e ∈ o.after, Region.binds .any e = true → e.on < i
  look : ∀ (i : Nat) (o : Oper) (s j : Nat) (oj : Oper), l[i]? = some o → s ∈ o.looksAt l.toArray → l[j]? = some oj → oj.dst = some s → (if er.contains i then (maskF l l.length j).testBit i else (maskF l l.length i).testBit j) = true
  chain : ∀ (k t u : Nat), sp[k]? = some t → sp[k + 1]? = some u → (maskF l l.length u).testBit t = true
  nodup : ∀ (k m t : Nat), k < m → sp[k]? = some t → sp[m]? ≠ some t
  spine : ∀ (i k : Nat), i < l.length → sp[k]? = some i → (k, k + 1) ∈ ph[i]?.getD []
  rest : ∀ (i k : Nat), i < l.length → i ∉ sp → k ≤ sp.length → (sp.filter fun t => (maskF l l.length i).testBit t).length ≤ k → k + (sp.filter fun t => (maskF l l.length t).testBit i).length ≤ sp.length → (k, k) ∈ ph[i]?.getD []
theorem planB_ok {l : List Oper} {size : Nat} {er : List Nat} {sp : List Nat} {ph : List (List (Nat × Nat))} (h : planB l size er sp ph = true) : PlanOK l size er sp ph := by
  unfold planB at h
  simp only [Bool.and_eq_true, List.all_eq_true, List.mem_range] at h
  obtain ⟨⟨h1, h2⟩, h3, h4, h5, h6, h7⟩ := h
  refine ⟨fun i o ho => h1 o (List.mem_of_getElem? ho), h2, fun i o d ho hd => ?_, fun i o ho e he hb => ?_, fun i o s j oj ho hs hj hd => ?_, fun k t u ht hu => ?_, fun k m t hkm hk hm => ?_, fun i k hi hk => ?_, fun i k hi hn hk hlo hhi => ?_⟩
  · have := h3 o (List.mem_of_getElem? ho)
    rw [hd] at this
    simpa using this
  · have := h4 i (List.getElem?_eq_some_iff.1 ho).1
    rw [ho] at this
    simp only [Bool.and_eq_true, List.all_eq_true] at this
    have := this.1 e (by simpa using he)
    simpa [hb] using this
  · have := h4 i (List.getElem?_eq_some_iff.1 ho).1
    rw [ho] at this
    simp only [Bool.and_eq_true, List.all_eq_true, List.mem_range] at this
    have := this.2 s hs j (List.getElem?_eq_some_iff.1 hj).1
    rw [hj] at this
    simpa [hd] using this
  · have hk := (List.getElem?_eq_some_iff.1 hu).1
    have := h5 k (by omega)
    rw [ht, hu] at this
    simpa using this
  · have := h6 m (List.getElem?_eq_some_iff.1 hm).1 k hkm
    rw [hk, hm] at this
    simp at this
  · have := (h7 i hi).1 k (List.getElem?_eq_some_iff.1 hk).1
    rw [hk] at this
    simpa using this
  · have := (h7 i hi).2
    rw [Bool.or_eq_true] at this
    rcases this with h | h
    · exact absurd (by simpa using h) hn
    · rw [List.all_eq_true] at h
      have := h k (List.mem_range.2 (by omega))
      simp only [Bool.or_eq_true, decide_eq_true_eq] at this
      rcases this with (h | h) | h
      · omega
      · omega
      · simpa using h
def StepsP (P : Program) (ops : Array Oper) (a0 aF : Act) (er : List Nat) (Ws : Nat → World) : Nat → List Oper → List (List (Nat × Nat)) → Prop
  | k, o :: os, p :: ps => (∀ q ∈ p, StepK P ops a0 aF (er.contains k) o (Ws q.1) (Ws q.2)) ∧ StepsP P ops a0 aF er Ws (k + 1) os ps
  | _, _, _ => True
theorem steps_at {P : Program} {ops : Array Oper} {a0 aF : Act} {er : List Nat} {Ws : Nat → World} : ∀ {k : Nat} {l : List Oper} {ph : List (List (Nat × Nat))}, StepsP P ops a0 aF er Ws k l ph → ∀ (i : Nat) (o : Oper) (p : Nat × Nat), l[i]? = some o → p ∈ ph[i]?.getD [] → StepK P ops a0 aF (er.contains (k + i)) o (Ws p.1) (Ws p.2)
  | _, [], _, _, i, o, p, ho, _ => by simp at ho
  | _, _ :: _, [], _, i, o, p, _, hp => by simp at hp
  | k, o' :: os, q :: ps, h, i, o, p, ho, hp => by
    cases i with
    | zero => simp at ho hp; subst ho; exact h.1 p hp
    | succ i =>
      have := steps_at h.2 i o p (by simpa using ho) (by simpa using hp)
      rwa [show k + 1 + i = k + (i + 1) by omega] at this
section main
variable {P : Program} {l : List Oper} {er sp : List Nat} {ph : List (List (Nat × Nat))} {a0 aF : Act} {Ws : Nat → World} {ro : Option Nat} {n : Nat} {Q : Exit → Act → World → Prop}
theorem clo_set {L : Array Bool} {i : Nat} (hL : L.size = l.length) (hc : Clo l L) (hi : i < l.length) (hr : ∀ (o : Oper), l[i]? = some o → ∀ e ∈ o.after, Region.binds .any e = true → L.getD e.on false = true) : Clo l (L.setIfInBounds i true) := by
  have up : ∀ j, L.getD j false = true → (L.setIfInBounds i true).getD j false = true := fun j hj => by
    by_cases e : i = j
    · subst e; exact getD_set_self (by omega) _
    · rw [getD_set_other e]; exact hj
  intro j o hj hl e he hb
  by_cases hij : i = j
  · subst hij; exact up _ (hr o hj e he hb)
  · rw [getD_set_other hij] at hl; exact up _ (hc j o hj hl e he hb)
theorem plan_done (hok : PlanOK l aF.tmps.size er sp ph) (hsp : ∀ t ∈ sp, t < l.length) {L : Array Bool} {a : Act} (hL : L.size = l.length) (hw : OnWay l a0 aF L a) (hall : ∀ i, i < l.length → L.getD i false = true) (hQ : Q .normal aF (Ws sp.length)) : Q .normal a (Ws (phase sp L)) := by
  have e1 : a = aF := act_ext hw.size hw.defers fun s => by
    by_cases h : ∀ o ∈ l, o.dst ≠ some s
    · exact hw.off s h
    · obtain ⟨o, ho, hd⟩ : ∃ o, o ∈ l ∧ o.dst = some s := by
        refine Decidable.byContradiction fun hh => h fun o ho hd => hh ⟨o, ho, hd⟩
      obtain ⟨j, hj⟩ := List.getElem?_of_mem ho
      exact hw.on s j o hj hd (hall j (List.getElem?_eq_some_iff.1 hj).1)
  have e2 : phase sp L = sp.length := by
    unfold phase
    rw [List.filter_eq_self.2 (fun t ht => hall t (hsp t ht))]
  rw [e1, e2]
  exact hQ
theorem plan_any (hok : PlanOK l aF.tmps.size er sp ph) (hsp : ∀ t ∈ sp, t < l.length) (hstep : ∀ (i : Nat) (o : Oper) (p : Nat × Nat), l[i]? = some o → p ∈ ph[i]?.getD [] → StepK P l.toArray a0 aF (er.contains i) o (Ws p.1) (Ws p.2)) (hQ : Q .normal aF (Ws sp.length)) :
    ∀ (fuel : Nat) (L : Array Bool) (a : Act), left L ≤ fuel → L.size = l.length → Clo l L → OnWay l a0 aF L a → wpAnyIn (wideR ro) n P .any l.toArray Q fuel L a (Ws (phase sp L))
  | 0, L, a, hf, hL, hc, hw => by
    have h0 := left_zero (show left L = 0 by omega)
    refine ⟨List.filter_eq_nil_iff.2 fun i hi => ?_, plan_done hok hsp hL hw (fun i hi => getD_bf (by omega) (h0 i)) hQ⟩
    simp [h0 i]
  | fuel + 1, L, a, hf, hL, hc, hw => by
    refine ⟨fun hr => ?_, fun i hi => ?_⟩
    · refine plan_done hok hsp hL hw (fun i => ?_) hQ
      induction i using Nat.strongRecOn with
      | ind i ih =>
        intro hi
        refine Decidable.byContradiction fun hn => ?_
        have hmem : i ∈ Region.ready .any l.toArray L := by
          rw [mem_ready]
          refine ⟨?_, l[i], by simp [hi], fun e he hb => ih e.on (hok.low i l[i] (by simp [hi]) e he hb) (Nat.lt_trans (hok.low i l[i] (by simp [hi]) e he hb) hi)⟩
          cases hg : L.getD i true with
          | true => exact absurd (getD_bf (by omega) hg) hn
          | false => rfl
        rw [hr] at hmem
        cases hmem
    · obtain ⟨hun, o, ho', hdeps⟩ := mem_ready.1 hi
      have ho : l[i]? = some o := by simpa using ho'
      have hi2 : i < l.length := (List.getElem?_eq_some_iff.1 ho).1
      have hunf := getD_fb hun
      have hdep : ∀ o', l[i]? = some o' → ∀ e ∈ o'.after, Region.binds .any e = true → L.getD e.on false = true := fun o' h' => by
        rw [ho] at h'
        obtain rfl := Option.some.inj h'
        exact hdeps
      have hin : ∀ t, (maskF l l.length i).testBit t = true → L.getD t false = true := fun t ht => mask_on hc _ i t ht hdep
      have hph : (phase sp L, phase sp (L.setIfInBounds i true)) ∈ ph[i]?.getD [] := by
        by_cases hs : i ∈ sp
        · obtain ⟨k, hk⟩ := List.getElem?_of_mem hs
          have hkl := (List.getElem?_eq_some_iff.1 hk).1
          have down : ∀ (m d t u : Nat), sp[m]? = some t → sp[m + d]? = some u → L.getD u false = true → L.getD t false = true := by
            intro m d
            induction d with
            | zero => intro t u h1 h2 h3; rw [Nat.add_zero, h1] at h2; obtain rfl := Option.some.inj h2; exact h3
            | succ d ih =>
              intro t u h1 h2 h3
              have hlt : m + d < sp.length := by have := (List.getElem?_eq_some_iff.1 h2).1; omega
              have h4 : sp[m + d]? = some sp[m + d] := List.getElem?_eq_getElem hlt
              exact ih t _ h1 h4 (mask_up hc _ _ _ (hok.chain (m + d) _ u h4 (by rw [← h2]; rfl)) h3)
          have hiff : ∀ (m t : Nat), sp[m]? = some t → (L.getD t false = true ↔ m < k) := by
            intro m t hm
            constructor
            · intro hl
              refine Decidable.byContradiction fun hge => ?_
              obtain ⟨d, hd⟩ : ∃ d, m = k + d := ⟨m - k, by omega⟩
              subst hd
              have := down k d i t hk hm hl
              rw [hunf] at this
              cases this
            · intro hlt
              have hlt' : k - 1 < sp.length := by omega
              have h4 : sp[k - 1]? = some sp[k - 1] := List.getElem?_eq_getElem hlt'
              have h5 : L.getD sp[k - 1] false = true := hin _ (hok.chain (k - 1) _ i h4 (by rw [show k - 1 + 1 = k by omega]; exact hk))
              obtain ⟨d, hd⟩ : ∃ d, k - 1 = m + d := ⟨k - 1 - m, by omega⟩
              exact down m d t _ hm (by rw [← hd]; exact h4) h5
          have e1 : phase sp L = k := filter_first _ sp k (by omega) hiff
          have e2 : phase sp (L.setIfInBounds i true) = k + 1 := filter_first _ sp (k + 1) (by omega) fun m t hm => by
            by_cases e : i = t
            · subst e
              have hmk : m = k := by
                rcases Nat.lt_trichotomy m k with h | h | h
                · exact absurd hk (hok.nodup m k i h hm)
                · exact h
                · exact absurd hm (hok.nodup k m i h hk)
              simp only [getD_set_self (show i < L.size by omega), true_iff]
              omega
            · rw [getD_set_other e, hiff m t hm]
              have hmk : m ≠ k := fun h => by
                subst h
                rw [hm] at hk
                exact e (Option.some.inj hk).symm
              omega
          rw [e1, e2]
          exact hok.spine i k hi2 hk
        · have e : phase sp (L.setIfInBounds i true) = phase sp L := by
            unfold phase
            congr 1
            refine List.filter_congr fun t ht => ?_
            rw [getD_set_other (fun h => hs (by rw [h]; exact ht))]
          rw [e]
          refine hok.rest i _ hi2 hs (List.length_filter_le _ _) (filter_le _ _ sp fun t _ ht => hin t ht) (filter_apart _ _ sp fun t _ h1 h2 => ?_)
          have := mask_up hc _ t i h2 h1
          rw [hunf] at this
          cases this
      have hgo : ∀ v, aF.put o.dst v = aF → wpAnyIn (wideR ro) n P .any l.toArray Q fuel (L.setIfInBounds i true) (a.put o.dst v) (Ws (phase sp (L.setIfInBounds i true))) := fun v hv =>
        plan_any hok hsp hstep hQ fuel _ _ (by have := left_set hun; omega) (by simpa using hL) (clo_set hL hc hi2 hdep) (hw.step hL ho (fun d hd => hok.dst i o d ho hd) hv)
      have hst := hstep i o _ ho hph
      unfold StepK at hst
      by_cases her : er.contains i = true
      · rw [if_pos her] at hst
        have hlook : ∀ s ∈ o.looksAt l.toArray, a.tmps[s]? = a0.tmps[s]? := fun s hs => hw.old s fun j oj hj hd => by
          have h1 := hok.look i o s j oj ho hs hj hd
          rw [if_pos her] at h1
          cases hg : L.getD j false with
          | false => rfl
          | true =>
            have := mask_up hc _ j i h1 hg
            rw [hunf] at this
            cases this
        obtain ⟨hwant, v, hrun, hput⟩ := hst
        unfold wpOpIn
        simp only [ho']
        rw [same_wanted hlook, if_pos hwant]
        refine ⟨fun _ _ => trivial, ?_⟩
        rw [Oper.semAt_eq _ _ _ (plainOp_spec (hok.plain i o ho)), same_exec (P := P) (Region.noSelect_spec hok.sel i o · · ho') hlook, hrun]
        exact hgo v hput
      · rw [if_neg her] at hst
        have hlook : ∀ s ∈ o.looksAt l.toArray, a.tmps[s]? = aF.tmps[s]? := fun s hs => by
          by_cases h : ∀ o ∈ l, o.dst ≠ some s
          · exact hw.off s h
          · obtain ⟨oj, hoj, hd⟩ : ∃ o, o ∈ l ∧ o.dst = some s := by
              refine Decidable.byContradiction fun hh => h fun o ho hd => hh ⟨o, ho, hd⟩
            obtain ⟨j, hj⟩ := List.getElem?_of_mem hoj
            have h1 := hok.look i o s j oj ho hs hj hd
            rw [if_neg her] at h1
            exact hw.on s j oj hj hd (hin j h1)
        exact step_in (hok.plain i o ho) (Region.noSelect_spec hok.sel i o · · ho') ho' hlook hst hgo
theorem wpIn_region_plan {id : Nat} {a : Act} {w : World} (aF : Act) (er sp : List Nat) (ph : List (List (Nat × Nat))) (Ws : Nat → World) (N : Nat) (hN : a.tmps.size = N) (hm : P.follows .mixedOrders = true) (hB : planB l N er sp ph = true) (hsp : (sp.all fun t => decide (t < l.length)) = true) (haF : putAll l (valsOf l aF) a = aF) (hw0 : Ws 0 = { w with drawn := w.drawn + 1 })
    (hsteps : StepsP P l.toArray a aF er Ws 0 l ph) (hQ : Q .normal aF (Ws sp.length)) : (Code.region id l.toArray true).wpIn (wideR ro) n P Q a w := by
  obtain ⟨k1, k2, k3⟩ := putAll_keeps l (valsOf l aF) a
  rw [haF] at k1 k2 k3
  have hok : PlanOK l aF.tmps.size er sp ph := by rw [k1, hN]; exact planB_ok hB
  have hsp' : ∀ t ∈ sp, t < l.length := fun t ht => by simpa using List.all_eq_true.1 hsp t ht
  refine wpIn_region_any hm ?_
  have hz : ∀ (m i : Nat), (Array.replicate m false).getD i false = false := fun m i => by
    rw [Array.getD_eq_getD_getElem?, Array.getElem?_replicate]; split <;> rfl
  have h0 : phase sp (Array.replicate l.toArray.size false) = 0 := by
    unfold phase
    rw [List.length_eq_zero_iff, List.filter_eq_nil_iff]
    intro t _
    rw [hz]; simp
  have hst := steps_at hsteps
  simp only [Nat.zero_add] at hst
  have := plan_any (Q := Q) (ro := ro) (n := n) (P := P) (a0 := a) hok hsp' hst hQ l.toArray.size (Array.replicate l.toArray.size false) a (by unfold left; simp) (by simp) (fun i o _ hl => by rw [hz] at hl; cases hl)
    ⟨fun _ _ => rfl, k1.symm, k2.symm, fun s hs => (k3 s hs).symm, fun s j o _ _ hl => by rw [hz] at hl; cases hl⟩
  rw [h0, hw0] at this
  exact this
end main
theorem StepP.of {P : Program} {ops : Array Oper} {aF : Act} {o : Oper} {w w' : World} (hg : o.guard = none) (h : o.wp P aF w (fun a' w'' => a' = aF ∧ w'' = w') (fun _ _ _ => False)) : StepP P ops aF o w w' := by
  unfold StepP
  have : Region.wanted o (yielded ops aF.tmps) = true := by simp [Region.wanted, hg]
  rw [if_pos this]
  exact h
theorem StepsP.nil {P : Program} {ops : Array Oper} {a0 aF : Act} {er : List Nat} {Ws : Nat → World} {k : Nat} {ph : List (List (Nat × Nat))} : StepsP P ops a0 aF er Ws k [] ph := trivial
theorem StepsP.cons {P : Program} {ops : Array Oper} {a0 aF : Act} {er : List Nat} {Ws : Nat → World} {k : Nat} {o : Oper} {os : List Oper} {p : List (Nat × Nat)} {ps : List (List (Nat × Nat))} (he : er.contains k = false) (h : ∀ q ∈ p, StepP P ops aF o (Ws q.1) (Ws q.2)) (t : StepsP P ops a0 aF er Ws (k + 1) os ps) : StepsP P ops a0 aF er Ws k (o :: os) (p :: ps) :=
  ⟨fun q hq => by unfold StepK; rw [he]; exact h q hq, t⟩
theorem StepsP.early {P : Program} {ops : Array Oper} {a0 aF : Act} {er : List Nat} {Ws : Nat → World} {k : Nat} {o : Oper} {os : List Oper} {m : Nat} {ps : List (List (Nat × Nat))} (he : er.contains k = true) (hg : o.guard = none) (x : Operand) (ho : o.op = .move x) (hv : aF.put o.dst (a0.eval x) = aF) (t : StepsP P ops a0 aF er Ws (k + 1) os ps) : StepsP P ops a0 aF er Ws k (o :: os) (((List.range m).map fun j => (j, j)) :: ps) :=
  ⟨fun q hq => by
    obtain ⟨j, _, rfl⟩ := List.mem_map.1 hq
    unfold StepK
    rw [he]
    exact ⟨by simp [Region.wanted, hg], a0.eval x, by simp only [execOp, ho]; rfl, hv⟩, t⟩
theorem step1 {P : Program} {ops : Array Oper} {aF : Act} {Ws : Nat → World} {o : Oper} {a b : Nat} (h : StepP P ops aF o (Ws a) (Ws b)) : ∀ q ∈ [(a, b)], StepP P ops aF o (Ws q.1) (Ws q.2) := fun q hq => by
  obtain rfl := List.mem_singleton.1 hq
  exact h
theorem step2 {P : Program} {ops : Array Oper} {aF : Act} {Ws : Nat → World} {o : Oper} {a b c d : Nat} (h : StepP P ops aF o (Ws a) (Ws b)) (k : StepP P ops aF o (Ws c) (Ws d)) : ∀ q ∈ [(a, b), (c, d)], StepP P ops aF o (Ws q.1) (Ws q.2) := fun q hq => by
  rcases List.mem_cons.1 hq with rfl | hq
  · exact h
  · exact step1 k q hq
theorem step3 {P : Program} {ops : Array Oper} {aF : Act} {Ws : Nat → World} {o : Oper} {a b c d e f : Nat} (h : StepP P ops aF o (Ws a) (Ws b)) (k : StepP P ops aF o (Ws c) (Ws d)) (m : StepP P ops aF o (Ws e) (Ws f)) : ∀ q ∈ [(a, b), (c, d), (e, f)], StepP P ops aF o (Ws q.1) (Ws q.2) := fun q hq => by
  rcases List.mem_cons.1 hq with rfl | hq
  · exact h
  · exact step2 k m q hq
theorem StepP.append {P : Program} {ops : Array Oper} {aF : Act} {o : Oper} {w w' : World} {v' : Value} (hg : o.guard = none) (s x : Operand) (t : TypeId) (ho : o.op = .call { callee := .builtin .append, args := #[s, x], argTypes := #[t, t] }) (v vx : Value) (hs : aF.eval s = v) (hx : aF.eval x = vx)
    (hrun : (Builtin.append_ #[t, t] o.type #[v, vx]).run P w = .ok v' w') (hput : aF.put o.dst v' = aF) : StepP P ops aF o w w' := by
  refine StepP.of hg ?_
  unfold Oper.wp
  simp [execOp, ho, resolve, invoke, builtin, hs, hx, hrun, Result.andThen, Oper.upon, hput]
end Go.Proofs.Ytbgbjgedjmhcaaa.OldB
namespace Go.Proofs.Ytbgbjgedjmhcaaa.OldB
open Go.ChangeShapes Go.WideShapes Go.ChangeAt Go.RowKit Go.Shelf
attribute [local go_sem] Oper.semAt_some putAll
def fv (zs : List Int) (x j : Nat) : Nat := x / 2 ^ (sw zs j).toNat % 2 ^ (zs[j]?.getD 0).toNat
def fvl {len : Nat} (zs : List Int) (x : Nat) (l : List (Ix len)) : List Nat := l.map fun i => fv zs x i.1
theorem fv_eq (zs : List Int) (x j : Nat) (hx : x < 18446744073709551616) (h1 : 1 ≤ zs[j]?.getD 0) (h2 : zs[j]?.getD 0 ≤ 64) :
    bits .and .u64 ((x : Int) / 2 ^ (sw zs j).toNat) ((2 ^ (zs[j]?.getD 0).toNat - 1 : Nat) : Int) = (fv zs x j : Nat) := by
  have h : ((x : Int) / 2 ^ (sw zs j).toNat) = ((x / 2 ^ (sw zs j).toNat : Nat) : Int) := by rw [Int.natCast_ediv, pw]
  have hlt : x / 2 ^ (sw zs j).toNat < 18446744073709551616 := Nat.lt_of_le_of_lt (Nat.div_le_self _ _) hx
  have hm : 2 ^ (zs[j]?.getD 0).toNat - 1 < 18446744073709551616 := by
    have h3 : 2 ^ (zs[j]?.getD 0).toNat ≤ 2 ^ 64 := Nat.pow_le_pow_right (by omega) (by omega)
    have h4 := Nat.two_pow_pos (zs[j]?.getD 0).toNat
    omega
  rw [h, u64_and_nat _ _ hlt hm, Nat.and_two_pow_sub_one_eq_mod]
  rfl
theorem own_slice {w : World} {base e size : Nat} {v : Value} {n : Nat} {xs : List Value} (h : w.ownsRow base e size v n xs) : ∃ a cap, v = .slice a n cap := by
  rcases h.2 with ⟨hv, h0⟩ | ⟨g, cap, cur, hv, _⟩
  · exact ⟨none, 0, by rw [hv, h0]⟩
  · exact ⟨_, cap, hv⟩
set_option maxRecDepth 100000 in
theorem split_ok (x : Nat) (hx : x < 18446744073709551616) (a : Option Addr) (len cap : Nat) (zs : List Int) (hbig : len ≤ 100) (hz : ∀ j, j < len → fit zs j) (w : World) (hI : Wi w.heap.size w a len zs) :
    Calls Try.prog 113 #[.int .u64 (x : Int), .slice a len cap] w fun e w' => ∃ a' cap', e = .returned (.tuple #[.slice a' len cap', .int .i64 0]) ∧ Hid (w'.ownsRow (w.heap.size + 1) 22 1 (.slice a' len cap') len (vs (fvl zs x (firsts len len (Nat.le_refl _))))) ∧ Below w.heap.size w w' := by
  have HI := hid hI
  have HX := hid hx
  have HZ := hid hz
  have hbig2 : len ≤ 9223372036854775807 := by omega
  clear hI hz hx
  obtain ⟨i0, hi, hz0, hz1, hz2⟩ := info_parts Try.info22
  have HI0 := hid hi; have HZ0 := hid hz0; have HZ1 := hid hz1; have HZ2 := hid hz2
  clear hi hz0 hz1 hz2
  refine (callsIn_wide (n := 5)).1 (callsIn_of_wp_marks Try.func113 rfl trivial ?_ rfl)
  simp only [Try.ntmps113, List.size_toArray, List.length_cons, List.length_nil, Nat.reduceAdd, Nat.reduceSub, Array.replicate_succ, Array.replicate_zero, List.push_toArray, List.append_toArray, List.nil_append, List.cons_append]
  refine wpIn_wide.2 ?_
  go_wp2_with fail
  have b1 := hid (Boxed.new w 22 (.int .u64 (x : Int)))
  have hB0 := hid ((Below.refl w.heap.size w).alloc (Nat.le_refl _) (.cells #[.int .u64 (x : Int)] 22))
  have hs0 := hid (show (w.alloc (.cells #[.int .u64 (x : Int)] 22)).heap.size = w.heap.size + 1 by simp)
  generalize w.alloc (.cells #[.int .u64 (x : Int)] 22) = wC at *
  refine (chk_ok a len cap zs w.heap.size wC hbig2 (HI.out.below hB0.out) HZ.out).mono ?_
  rintro e w1 ⟨rfl, rfl⟩
  go_wp2_with fail
  rw [hs0.out]
  have c1 := hid (b1.out.alloc (.cells #[.slice none 0 0] 25))
  have c2 := hid (Boxed.new wC 25 (.slice none 0 0))
  rw [hs0.out] at c2
  have hB1 := hid (hB0.out.alloc (by rw [hs0.out]; omega) (.cells #[.slice none 0 0] 25))
  have hs1 := hid (show (wC.alloc (.cells #[.slice none 0 0] 25)).heap.size = w.heap.size + 2 by rw [World.size_alloc, hs0.out])
  clear b1 hB0 hs0
  generalize wC.alloc (.cells #[.slice none 0 0] 25) = wD at *
  refine ((callsIn_wide (n := 4)).1 (fields_in Fence.wide 4 trivial rfl a len cap _)).mono ?_
  rintro e w' ⟨rfl, rfl⟩
  go_wp2_with fail
  rw [hs1.out]
  have d1 := c1.out.alloc (.cells #[.slice a len cap] 63)
  have d2 := c2.out.alloc (.cells #[.slice a len cap] 63)
  have d5 := Boxed.new wD 63 (.slice a len cap)
  rw [hs1.out] at d5
  have hB2 := hB1.out.alloc (by rw [hs1.out]; omega) (.cells #[.slice a len cap] 63)
  have hs2 : (wD.alloc (.cells #[.slice a len cap] 63)).heap.size = w.heap.size + 3 := by rw [World.size_alloc, hs1.out]
  clear c1 c2 hB1 hs1
  generalize wD.alloc (.cells #[.slice a len cap] 63) = wS at *
  refine (wpIn_wide (n := 5)).1 ?_
  refine wpIn_rangeFunc_ownH (F := Fence.wide) (n := 5) rfl (by omega) (gf := 134) (lb := #[.pointer (some ⟨w.heap.size + 2, 0, none⟩)]) rfl trivial (enters_of Try.func134 (by kernel_rfl) rfl)
    (fields_stops Fence.wide 4 trivial rfl (by omega) (w.heap.size + 2) w.heap.size a len cap zs hbig2 HZ.out wS (by omega) (by omega) d5.cell (HI.out.below hB2)) belowK_t (belowK_b (by omega)) (Below.refl _ _) (fun _ => rfl)
    (fun pre W => (Boxed W w.heap.size 22 (.int .u64 (x : Int)) ∧ (∃ v, Boxed W (w.heap.size + 1) 25 v ∧ W.ownsRow (w.heap.size + 1) 22 1 v pre.length (vs (fvl zs x pre)) ∧ True)) ∧ Below w.heap.size w W)
    (fun _ _ _ => False)
    (OwnFrom.and (OwnFrom.and (Own.from (boxed_own _ _ _) _) (Own.from (holdsRow_own (w.heap.size + 1) (w.heap.size + 1) 25 22 1 (fun pre : List (Ix len) => pre.length) (fun pre => vs (fvl zs x pre)) (fun _ _ => True)) _)) (ownFrom_below (Nat.le_refl _) (by omega)))
    (fun _ _ _ _ _ hs _ _ => hs)
    ⟨⟨d1, _, d2, World.ownsRow_nil _ _ _ _, trivial⟩, hB2⟩
    (fun i a' W => ∃ Bx, w.heap.size + 1 < Bx ∧ Pair W Bx (sw zs i.1) (zs[i.1]?.getD 0) ∧ a' = { tmps := #[.int .u64 (x : Int), .slice a len cap, .pointer (some ⟨w.heap.size, 0, none⟩), undef, .slice none 0 0, .int .i64 0, .int .i64 0, .pointer (some ⟨w.heap.size + 1, 0, none⟩), undef, .pointer (some ⟨Bx, 0, none⟩), .slice a len cap, .int .i64 0, .int .i64 0, .bool false, undef, .slice a len cap, .func (.func 134) #[] #[.pointer (some ⟨w.heap.size + 2, 0, none⟩)], .int .i64 (i.1 : Int), .agg #[.int .i64 (sw zs i.1), .int .i64 (zs[i.1]?.getD 0)], undef, undef, undef, undef, undef, undef, undef, undef, undef, undef, undef], defers := [] })
    (fun i a' _ X Y row hs hg hr => by obtain ⟨Bx, h1, h2, h3⟩ := hs; exact ⟨Bx, h1, pair_own Bx _ _ () X Y row h2 hg (fun r e => (hr r e).2), h3⟩)
    ?assign ?body ?done ?stop
  case assign =>
    rintro l pre i W K ⟨⟨e1, v, e2, e3, _⟩, eB⟩ hK
    have es := e2.lt
    have HN : W.ownsRow (w.heap.size + 1) 22 1 v pre.length (vs (fvl zs x pre)) := e3
    gi_wp2
    refine hK _ _ ((KeepsOthers.alloc _ _).from _) ((Below.refl _ W).alloc eB.size _) ⟨⟨e1.alloc _, v, e2.alloc _, HN.alloc _, trivial⟩, eB.alloc eB.size _⟩ ⟨W.heap.size, es, World.alloc_heap_new W _, rfl⟩
  case body =>
    rintro l pre i a' W hl ⟨r, hr⟩ ⟨⟨e1, v, e2, e3, _⟩, eB⟩ ⟨Bx, hBx, eX, rfl⟩ hlt
    have hx2 := i.2
    have hfit := HZ.out i.1 hx2
    unfold fit at hfit
    obtain ⟨f1, f2⟩ := hfit
    obtain ⟨s1, s2⟩ := sw_bd zs i.1 (fun j hj => HZ.out j (by omega))
    have hmx : Try.prog.follows .mixedOrders = true := by kernel_rfl
    obtain ⟨va, vc, rfl⟩ := own_slice e3
    have HE3 := hid e3
    have HM := hid (mask_is (sw zs i.1) (zs[i.1]?.getD 0) f1 (by omega))
    have HV := hid (fv_eq zs x i.1 HX.out f1 (by omega))
    have hpl : pre.length ≤ 100 := by omega
    clear e3
    obtain ⟨W1, hW1⟩ : ∃ W1, W1 = W.drew.alloc (.cells #[.int .i64 (sw zs i.1), .int .i64 (zs[i.1]?.getD 0)] 201) := ⟨_, rfl⟩
    obtain ⟨W2, hW2⟩ : ∃ W2, W2 = W1.alloc (.cells #[.int .u64 (fv zs x i.1 : Nat)] 22) := ⟨_, rfl⟩
    have r0 : W.drew.ownsRow (w.heap.size + 1) 22 1 (.slice va pre.length vc) pre.length (vs (fvl zs x pre)) := HE3.out.drew
    have r1 : W1.ownsRow (w.heap.size + 1) 22 1 (.slice va pre.length vc) pre.length (vs (fvl zs x pre)) := by rw [hW1]; exact r0.alloc _
    have r2 : W2.ownsRow (w.heap.size + 1) 22 1 (.slice va pre.length vc) pre.length (vs (fvl zs x pre)) := by rw [hW2]; exact r1.alloc _
    have hs1 : W1.heap.size = W.heap.size + 1 := by rw [hW1]; simp
    have hs2 : W2.heap.size = W.heap.size + 2 := by rw [hW2]; simp [hs1]
    have n2 := World.news_of_block (w := W2) (cs := #[.int .u64 (fv zs x i.1 : Nat)]) (t := 22) (fr := (0, 0)) (B := W1.heap.size) (by rw [hW2]; exact heap_alloc_new _ _)
    have hsz := eB.size
    have HW2 := hid hW2
    obtain ⟨g3, cp3, W3, hrun, r3, hg3, _, _⟩ := run_append_lies (P := Try.prog) (w := W2) 25 25 (w.heap.size + 1) 22 i0 (.int .u64 0) 1 8 Try.underlying25 HI0.out HZ0.out HZ1.out HZ2.out rfl (by decide) (.slice va pre.length vc) pre.length (vs (fvl zs x pre)) r2 ⟨W1.heap.size, 0, none⟩ 1 1 [.int .u64 (fv zs x i.1 : Nat)] rfl n2 (by simp [Value.oneCell']) (by omega) (by unfold maxLen; omega) (by omega) (by omega) _ rfl
    have k0 : Boxed W.drew (w.heap.size + 1) 25 (.slice va pre.length vc) := e2
    have k1 : Boxed W1 (w.heap.size + 1) 25 (.slice va pre.length vc) := by rw [hW1]; exact k0.alloc _
    have k2 : Boxed W2 (w.heap.size + 1) 25 (.slice va pre.length vc) := by rw [hW2]; exact k1.alloc _
    obtain ⟨k3, k4, k5, k6, k7⟩ := k1.appended (by decide) r1 (by omega) (by omega) r3 (by rw [← HW2.out]; exact hg3)
    have j0 : Boxed W.drew w.heap.size 22 (.int .u64 (x : Int)) := e1
    have j1 : Boxed W1 w.heap.size 22 (.int .u64 (x : Int)) := by rw [hW1]; exact j0.alloc _
    have j2 : Boxed W2 w.heap.size 22 (.int .u64 (x : Int)) := by rw [hW2]; exact j1.alloc _
    have J3 := hid (j2.kept hg3 (fun e => by have := own_base r2 _ e.symm; omega))
    clear j2
    have p0 : Pair W.drew Bx (sw zs i.1) (zs[i.1]?.getD 0) := eX
    have p1 : Pair W1 Bx (sw zs i.1) (zs[i.1]?.getD 0) := by rw [hW1]; exact p0.alloc _
    have P0 := hid p0; have P1 := hid p1; have J0 := hid j0; have J1 := hid j1; have K0 := hid k0; have K1 := hid k1; have K2 := hid k2; have K3 := hid k3
    have HM1 := hid ((HM.out W.drew).mono (R' := fun e w' => e = .returned (.int .u64 ((2 ^ (zs[i.1]?.getD 0).toNat - 1 : Nat) : Int)) ∧ w' = W1) (fun e w' ⟨h1, h2⟩ => ⟨h1, h2.trans hW1.symm⟩))
    have HRUN := hid hrun
    have HS1 := hid hs1
    have HW1 := hid hW1
    clear hrun hg3 n2 r0 r1 r2 r3 k0 k1 k2 k3 j0 j1 p0 p1 hW1 hW2 hs1 hs2
    have hx3 : (0 : Int) ≤ sw zs i.1 := s1
    gi_wp2
    obtain ⟨Ws, w0, w1, w2, w3, w4⟩ : ∃ Ws : Nat → World, Ws 0 = W.drew ∧ Ws 1 = W1 ∧ Ws 2 = W2 ∧ Ws 3 = W3 ∧ Ws 4 = W3.setCell ⟨w.heap.size + 1, 0, none⟩ (.slice (some ⟨g3, 0, none⟩) (pre.length + 1) cp3) := ⟨fun k => match k with | 0 => W.drew | 1 => W1 | 2 => W2 | 3 => W3 | _ => W3.setCell ⟨w.heap.size + 1, 0, none⟩ (.slice (some ⟨g3, 0, none⟩) (pre.length + 1) cp3), rfl, rfl, rfl, rfl, rfl⟩
    refine wpIn_region_plan (ro := some l) { tmps := #[.int .u64 (x : Int), .slice a len cap, .pointer (some ⟨w.heap.size, 0, none⟩), undef, .slice none 0 0, .int .i64 0, .int .i64 0, .pointer (some ⟨w.heap.size + 1, 0, none⟩), undef, .pointer (some ⟨Bx, 0, none⟩), .slice a len cap, .int .i64 0, .int .i64 0, .bool false, undef, .slice a len cap, .func (.func 134) #[] #[.pointer (some ⟨w.heap.size + 2, 0, none⟩)], .int .i64 (i.1 : Int), .agg #[.int .i64 (sw zs i.1), .int .i64 (zs[i.1]?.getD 0)], .slice va pre.length vc, .int .u64 (x : Int), .pointer (some ⟨Bx, 0, none⟩), .int .i64 (sw zs i.1), .int .u64 ((x : Int) / 2 ^ (sw zs i.1).toNat), .agg #[.int .i64 (sw zs i.1), .int .i64 (zs[i.1]?.getD 0)], .int .u64 ((2 ^ (zs[i.1]?.getD 0).toNat - 1 : Nat) : Int), .int .u64 (fv zs x i.1 : Nat), .slice (some ⟨W1.heap.size, 0, none⟩) 1 1, .slice (some ⟨g3, 0, none⟩) (pre.length + 1) cp3, undef], defers := [] }
      [] [6, 8, 9, 10] [[(0, 0), (1, 1), (2, 2)], [(0, 0), (1, 1)], [(0, 0), (1, 1)], [(0, 0), (1, 1)], [(0, 0), (1, 1)], [(0, 0)], [(0, 1)], [(1, 1)], [(1, 2)], [(2, 3)], [(3, 4)]]
      Ws 30 rfl hmx (by kernel_rfl) (by kernel_rfl) (by kernel_rfl) w0 ?st ?fin
    case st =>
     refine StepsP.cons rfl (step3 ?s00 ?s01 ?s02) (StepsP.cons rfl (step2 ?s10 ?s11) (StepsP.cons rfl (step2 ?s20 ?s21) (StepsP.cons rfl (step2 ?s30 ?s31) (StepsP.cons rfl (step2 ?s40 ?s41) (StepsP.cons rfl (step1 ?s50) (StepsP.cons rfl (step1 ?s60) (StepsP.cons rfl (step1 ?s70) (StepsP.cons rfl (step1 ?s80) (StepsP.cons rfl (step1 ?s90) (StepsP.cons rfl (step1 ?sa0) StepsP.nil))))))))))
     case s00 =>
      rw [w0]
      refine StepP.of rfl ?_
      have c := K0.out.cell
      go_simp
     case s01 =>
      rw [w1]
      refine StepP.of rfl ?_
      have c := K1.out.cell
      go_simp
     case s02 =>
      rw [w2]
      refine StepP.of rfl ?_
      have c := K2.out.cell
      go_simp
     case s10 =>
      rw [w0]
      refine StepP.of rfl ?_
      have c := J0.out.cell
      go_simp
     case s11 =>
      rw [w1]
      refine StepP.of rfl ?_
      have c := J1.out.cell
      go_simp
     case s20 =>
      rw [w0]
      refine StepP.of rfl ?_
      go_simp
     case s21 =>
      rw [w1]
      refine StepP.of rfl ?_
      go_simp
     case s30 =>
      rw [w0]
      refine StepP.of rfl ?_
      have c := P0.out.c0
      go_simp
     case s31 =>
      rw [w1]
      refine StepP.of rfl ?_
      have c := P1.out.c0
      go_simp
     case s40 =>
      rw [w0]
      refine StepP.of rfl ?_
      go_simp
     case s41 =>
      rw [w1]
      refine StepP.of rfl ?_
      go_simp
     case s50 =>
      rw [w0]
      refine StepP.of rfl ?_
      have c := P0.out.c0
      have d := P0.out.c1
      go_simp
     case s60 =>
      rw [w0, w1]
      refine StepP.of rfl ?_
      go_simp
      refine HM1.out.mono ?_
      rintro e w' ⟨rfl, rfl⟩
      exact ⟨rfl, rfl⟩
     case s70 =>
      rw [w1]
      refine StepP.of rfl ?_
      have hv := HV.out
      go_simp
     case s80 =>
      rw [w1, w2, HW2.out]
      refine StepP.of rfl ?_
      go_simp
     case s90 =>
      rw [w2, w3]
      exact StepP.append rfl (.tmp 19) (.tmp 27) 25 rfl _ _ rfl rfl HRUN.out rfl
     case sa0 =>
      rw [w3, w4]
      refine StepP.of rfl ?_
      have c := K3.out.cell
      have d := K3.out.frozen
      go_simp
    case fin =>
      have hsn : fvl zs x (pre ++ [i]) = fvl zs x pre ++ [fv zs x i.1] := by simp [fvl]
      have KW : KeepsFrom wS.heap.size W W1 := by rw [HW1.out]; exact (after_mask1 W _).from _
      have BW : Below w.heap.size W W1 := by rw [HW1.out]; exact after_mask2 _ W _ hsz
      have q1 := J3.out.other (B' := w.heap.size + 1) (by omega) (.slice (some ⟨g3, 0, none⟩) (pre.length + 1) cp3)
      have k8 := k7.mono (Nat.le_succ w.heap.size)
      change Exit.inBlock 1 _ Exit.normal _ (Ws 4)
      rw [w4]
      gi_wp2
      refine ⟨KW.trans (k6.from _), BW.trans k8, ⟨q1, _, k4, ?_, trivial⟩, eB.trans (BW.trans k8)⟩
      rw [hsn]
      simpa [vs] using k5
  case done =>
    rintro D ys W hD rfl ⟨⟨e1, v, e2, e3, _⟩, eB⟩ hK
    obtain ⟨va, vc, rfl⟩ := own_slice e3
    have HE3 := hid e3
    have HK := hid hK
    have c2 := e2.cell
    have HLEN := hid (firsts_length len len (Nat.le_refl _))
    rw [HLEN.out] at c2 HE3
    clear e3 hK
    go_wp2_with fail
    refine ⟨by simp, .inl ⟨_, _, rfl, run_takeDeferred HK.out, ?_⟩⟩
    have hr := ownsRow_putObj HE3.out (.deferred none) HK.out rfl
    refine ⟨.tuple #[.slice va len vc, .int .i64 0], ?_, _, _, rfl, hid hr, eB.trans (belowK_b (w := w) (Nat.le_refl _) _ D _ _ (by omega) HK.out rfl rfl)⟩
    simp [results, Try.f113, go_sem]
  case stop =>
    rintro D c pre W hD _ h hK
    exact h.elim
end Go.Proofs.Ytbgbjgedjmhcaaa.OldB
namespace Go.Proofs.Ytbgbjgedjmhcaaa
open Go.RowKit
theorem wi_row {E : Env} {W : World} {id : Nat} {L : List Int} {c : Value} (hh : Holds E W id (.ro 1 L.length (rowG encI L))) (hc : RV E (.sl id 0 1 L.length none) c) : ∃ a cap, c = .slice a L.length cap ∧ OldB.Wi W.heap.size W a L.length L := by
  obtain ⟨a, cap, rfl, h⟩ := row_of hh hc
  refine ⟨a, cap, rfl, h.imp (fun h => h) fun ⟨b, off, e, hb, hcell⟩ => ⟨b, off, e, hb, fun j hj => ?_⟩⟩
  obtain ⟨v, h1, h2⟩ := hcell j hj
  simp only [rowG, encI, I, RVs, RV] at h1
  obtain ⟨y, l, e1, rfl, rfl⟩ := h1
  simp only [List.cons.injEq, and_true] at e1
  rw [h2, e1, List.getD_eq_getElem?_getD]
  rfl
theorem own_new {E : Env} {h : Hp} {W W' : World} {v' : Value} {out : List Int} {ws : List Nat} {base : Nat} (hbase : W.heap.size ≤ base) (e : ws.map (fun (x : Nat) => (x : Int)) = out) (hno : hasId h 10 = false) (hr : RH E h W) (hn : ∀ id ∈ newIds h [(10, some (.vec 22 1 out.length (rowG encU out)))], E id = none)
    (ho : W'.ownsRow base 22 1 v' out.length (OldB.vs ws)) (hb : Below W.heap.size W W') :
    ∃ E', Ext E E' (newIds h [(10, some (.vec 22 1 out.length (rowG encU out)))]) ∧ RV E' (.sl 10 0 1 out.length none) v' ∧ RH E' (applyO h [(10, some (.vec 22 1 out.length (rowG encU out)))]) W' ∧ Mod E h W E' (applyO h [(10, some (.vec 22 1 out.length (rowG encU out)))]) W' := by
  subst e
  have en : newIds h [(10, some (.vec 22 1 (ws.map (fun (x : Nat) => (x : Int))).length (rowG encU (ws.map (fun (x : Nat) => (x : Int))))))] = [10] := by simp [newIds, hno]
  rw [en] at hn ⊢
  have hne := hn 10 (by simp)
  have gb : W.grownBy W' none := ⟨hb.os, hb.tape, hb.output, hb.size, fun i hi _ => hb.block i hi⟩
  have fin : ∀ (x : Option Addr × Nat), (∀ b, baseBlk x = some b → W.heap.size ≤ b) → (∀ E' : Env, E' 10 = some x → Holds E' W' 10 (.vec 22 1 (ws.map (fun (x : Nat) => (x : Int))).length (rowG encU (ws.map (fun (x : Nat) => (x : Int))))) ∧ RV E' (.sl 10 0 1 (ws.map (fun (x : Nat) => (x : Int))).length none) v') →
      ∃ E', Ext E E' [10] ∧ RV E' (.sl 10 0 1 (ws.map (fun (x : Nat) => (x : Int))).length none) v' ∧ RH E' (applyO h [(10, some (.vec 22 1 (ws.map (fun (x : Nat) => (x : Int))).length (rowG encU (ws.map (fun (x : Nat) => (x : Int))))))]) W' ∧ Mod E h W E' (applyO h [(10, some (.vec 22 1 (ws.map (fun (x : Nat) => (x : Int))).length (rowG encU (ws.map (fun (x : Nat) => (x : Int))))))]) W' := by
    intro x hx hh
    have hxt := nw_set E 10 x hne
    obtain ⟨h1, h2⟩ := hh (fun y => if y = 10 then some x else E y) (if_pos rfl)
    obtain ⟨q1, q2⟩ := RH.change (h' := upd h 10 (.vec 22 1 (ws.map (fun (x : Nat) => (x : Int))).length (rowG encU (ws.map (fun (x : Nat) => (x : Int)))))) (row := none) hr hxt gb (fun b hb => by cases hb) (by rw [find_upd]; simp) (fun x hx' y hy => by rw [find_upd, if_neg (fun e => hx' e.symm)] at hy; exact hy) h1 (fun b hb => .inr (hx b (by
      simp only [Foot, Ob.bx, FootB, blkOf, if_pos] at hb
      obtain ⟨q1, q2⟩ := x
      cases q1 <;> exact hb)))
    exact ⟨_, hxt, h2, q1, q2⟩
  have hrows : ∀ E' : Env, RowsOK E' 1 (ws.map (fun (x : Nat) => (x : Int))).length (rowG encU (ws.map (fun (x : Nat) => (x : Int)))) (OldB.vs ws) := fun E' q hq => by
    have hq' : q < ws.length := by simpa using hq
    have hq2 : q < (OldB.vs ws).length := by simpa [OldB.vs] using hq'
    simp only [cellsAt, Nat.mul_one]
    rw [List.drop_eq_getElem_cons hq2, List.take_succ_cons, List.take_zero]
    simp only [rowG, encU, U, RVs, RV]
    refine ⟨_, _, rfl, ?_, rfl⟩
    simp [OldB.vs, List.getD_eq_getElem?_getD, List.getElem?_eq_getElem hq']
  have ho2 := ho
  rcases ho with ⟨hl, ⟨rfl, h0⟩ | ⟨g, cap, cur, rfl, hg, hcur, hc, hm, hs, ht⟩⟩
  · refine fin (none, 0) (fun b hb => by cases hb) fun E' he => ⟨⟨none, 0, OldB.vs ws, he, ⟨hl, .inl ⟨congrArg (fun n => Value.slice none n 0) h0, h0⟩⟩, OldB.one_of ws, hrows E'⟩, ?_⟩
    simp only [RV]
    exact ⟨none, 0, he, none, rfl, h0, rfl⟩
  · refine fin (some ⟨g, 0, none⟩, cap) (fun b hb => by simp [baseBlk] at hb; omega) fun E' he => ⟨⟨_, cap, OldB.vs ws, he, ⟨hl, .inr ⟨g, cap, cur, rfl, Nat.zero_le _, hcur, hc, hm, hs, ht⟩⟩, OldB.one_of ws, hrows E'⟩, ?_⟩
    simp only [RV]
    exact ⟨_, cap, he, 0, cap, rfl, hc, by omega, fun _ => by simp, by simp⟩
def shortF (r : Int) : Int := ((r.toNat / 65536) ^^^ (r.toNat % 65536) : Nat)
theorem shortF_bd (r : Int) (h : 0 ≤ r ∧ r ≤ 4294967295) : 0 ≤ shortF r ∧ shortF r ≤ 65535 := by
  unfold shortF
  have : (r.toNat / 65536) ^^^ (r.toNat % 65536) < 2 ^ 16 := Nat.xor_lt_two_pow (by omega) (by omega)
  omega
abbrev U16 (z : Int) : AV := .val (.int .u16 z)
theorem short_any (r : Int) (h : 0 ≤ r ∧ r ≤ 4294967295) : CallOK Try.prog 120 [U32 r] [] (U16 (shortF r)) [] := by
  refine ⟨enters_of Try.func120 (by kernel_rfl) rfl, fun E W cargs ha hr hn => ?_⟩
  simp only [RVs, RV] at ha
  obtain ⟨c1, l1, rfl, rfl, rfl⟩ := ha
  obtain ⟨n, rfl⟩ : ∃ n : Nat, r = n := ⟨r.toNat, by omega⟩
  refine (OldA.short_any n (by omega) W).mono ?_
  rintro e W' ⟨rfl, rfl⟩
  exact ⟨_, E, rfl, Ext.refl E, by simp only [RV]; rfl, hr, Mod.refl _ _ _⟩
theorem rshort_any (r : Int) (h : 0 ≤ r ∧ r ≤ 4294967295) : CallOK Try.prog 126 [U32 r] [] (U16 (shortF r)) [] := by
  refine ⟨enters_of Try.func126 (by kernel_rfl) rfl, fun E W cargs ha hr hn => ?_⟩
  simp only [RVs, RV] at ha
  obtain ⟨c1, l1, rfl, rfl, rfl⟩ := ha
  obtain ⟨n, rfl⟩ : ∃ n : Nat, r = n := ⟨r.toNat, by omega⟩
  refine (OldA.rshort_any n (by omega) W).mono ?_
  rintro e W' ⟨rfl, rfl⟩
  exact ⟨_, E, rfl, Ext.refl E, by simp only [RV]; rfl, hr, Mod.refl _ _ _⟩
theorem exts_row (s : Int) (hs : 0 ≤ s ∧ s ≤ 4294967295) (L : List Int) (hw : Wf L) (hn : L.length ≤ 1000000) : CallOK Try.prog 96 [U32 s, .sl 0 0 1 L.length none] [(0, .ro 1 L.length (rowG encU L))] (U32 (extW s L)) [] := by
  refine ⟨enters_of Try.func96 (by kernel_rfl) rfl, fun E W cargs ha hr hno => ?_⟩
  simp only [RVs, RV] at ha
  obtain ⟨c0, l0, rfl, rfl, c1, l1, rfl, g1, rfl⟩ := ha
  obtain ⟨a, cap, rfl, H⟩ := wo_row hw (hr.holds 0 _ rfl) (c := c1) (by simp only [RV]; exact g1)
  have e : s = ((s.toNat : Nat) : Int) := by omega
  rw [e]
  refine (OldA.extend_ok s.toNat (by omega) a L.length cap _ (by omega) W H).mono ?_
  rintro e W' ⟨rfl, hb⟩
  obtain ⟨q1, q2⟩ := rh_below hr hb
  exact ⟨_, E, rfl, Ext.refl E, by simp only [RV]; rfl, q1, q2⟩
theorem extW_nil (s : Int) (h : 0 ≤ s) : extW s [] = s := by
  unfold extW
  show ((OldA.ext s.toNat [] 0 : Nat) : Int) = s
  unfold OldA.ext
  show ((OldA.nt (OldA.nt s.toNat) : Nat) : Int) = s
  rw [nt_nt]
  omega
theorem extW_cat (s : Int) (hs : 0 ≤ s ∧ s ≤ 4294967295) (A : List Int) : ∀ (n : Nat) (B : List Int), B.length = n → extW (extW s A) B = extW s (A ++ B)
  | 0, B, h => by
    obtain rfl := List.eq_nil_of_length_eq_zero h
    rw [extW_nil _ (extW_bd s A hs).1, List.append_nil]
  | n + 1, B, h => by
    obtain ⟨C, x, rfl⟩ : ∃ C x, B = C ++ [x] := ⟨B.dropLast, B.getLast (by intro e; rw [e] at h; simp at h), (List.dropLast_concat_getLast _).symm⟩
    rw [← extW_app, extW_cat s hs A n C (by simpa using h), extW_app, List.append_assoc]
def wd4 : List Int := [20, 16, 12, 16]
theorem wd4_fit : ∀ j, j < 4 → OldB.fit wd4 j := by
  unfold OldB.fit
  decide
def f0 (x : Int) : Int := x % 1048576
def f1 (x : Int) : Int := x / 1048576 % 65536
def f2 (x : Int) : Int := x / 68719476736 % 4096
def f3 (x : Int) : Int := x / 281474976710656 % 65536
theorem f_bd (x : Int) : (0 ≤ f0 x ∧ f0 x < 1048576) ∧ (0 ≤ f1 x ∧ f1 x < 65536) ∧ (0 ≤ f2 x ∧ f2 x < 4096) ∧ (0 ≤ f3 x ∧ f3 x < 65536) := by
  unfold f0 f1 f2 f3; omega
theorem fvl_4 (n : Nat) : (OldB.fvl wd4 n (OldB.firsts 4 4 (Nat.le_refl _))).map (fun (x : Nat) => (x : Int)) = [f0 n, f1 n, f2 n, f3 n] := by
  simp only [OldB.fvl, OldB.firsts, OldB.fv, OldB.sw, wd4, List.nil_append, List.cons_append, List.map_cons, List.map_nil]
  show [((n / 2 ^ 0 % 2 ^ 20 : Nat) : Int), ((n / 2 ^ 20 % 2 ^ 16 : Nat) : Int), ((n / 2 ^ 36 % 2 ^ 12 : Nat) : Int), ((n / 2 ^ 48 % 2 ^ 16 : Nat) : Int)] = _
  simp only [Nat.reducePow, Nat.div_one, Int.natCast_emod, Int.natCast_ediv]
  rfl
theorem split4 (x : Int) (hx : 0 ≤ x ∧ x ≤ 18446744073709551615) : CallOK Try.prog 113 [U x, .sl 0 0 1 4 none] [(0, .ro 1 4 (rowG encI wd4))] (.tup [.sl 10 0 1 4 none, I 0]) [(10, some (.vec 22 1 4 (rowG encU [f0 x, f1 x, f2 x, f3 x])))] := by
  refine ⟨enters_of Try.func113 (by kernel_rfl) rfl, fun E W cargs ha hr hn => ?_⟩
  simp only [RVs] at ha
  obtain ⟨c1, l1, rfl, g1, c2, l2, rfl, g2, rfl⟩ := ha
  simp only [U, RV] at g1
  subst g1
  obtain ⟨a, cap, rfl, H⟩ := wi_row (L := wd4) (hr.holds 0 _ rfl) g2
  obtain ⟨n, rfl⟩ : ∃ n : Nat, x = n := ⟨x.toNat, by omega⟩
  refine (OldB.split_ok n (by omega) a 4 cap wd4 (by omega) wd4_fit W H).mono ?_
  rintro e W' ⟨a', cap', rfl, HO, hb⟩
  obtain ⟨E', e1, e2, e3, e4⟩ := own_new (out := [f0 n, f1 n, f2 n, f3 n]) (by omega) (fvl_4 n) rfl hr hn HO.out hb
  refine ⟨_, E', rfl, e1, ?_, e3, e4⟩
  simp only [RV, RVs]
  exact ⟨[.slice a' 4 cap', .int .i64 0], rfl, _, _, rfl, e2, _, _, rfl, rfl, rfl⟩
def pk4 (a b c d : Int) : Int := a + 1048576 * b + 68719476736 * c + 281474976710656 * d
theorem or_shift (a b k : Nat) (h : a < 2 ^ k) : a ||| (b <<< k) = a + 2 ^ k * b := by
  rw [Nat.or_comm, ← Nat.shiftLeft_add_eq_or_of_lt h, Nat.shiftLeft_eq, Nat.add_comm, Nat.mul_comm]
theorem fw_4 (a b c d : Nat) (ha : a < 1048576) (hb : b < 65536) (hc : c < 4096) (hd : d < 65536) : OldB.fw wd4 [a, b, c, d] 4 = a + 1048576 * b + 68719476736 * c + 281474976710656 * d := by
  simp only [OldB.fw, OldB.sw, wd4, List.getElem?_cons_succ, List.getElem?_cons_zero, Option.getD_some]
  show (((0 ||| (a <<< 0)) ||| (b <<< 20)) ||| (c <<< 36)) ||| (d <<< 48) = _
  rw [Nat.zero_or, Nat.shiftLeft_zero, or_shift a b 20 (by omega), or_shift _ c 36 (by omega), or_shift _ d 48 (by omega)]
def Fit4 (a b c d : Int) : Prop := (0 ≤ a ∧ a < 1048576) ∧ (0 ≤ b ∧ b < 65536) ∧ (0 ≤ c ∧ c < 4096) ∧ (0 ≤ d ∧ d < 65536)
theorem fields4 (a b c d : Int) (hv : Fit4 a b c d) : CallOK Try.prog 121 [.sl 0 0 1 4 none, .sl 1 0 1 4 none] [(0, .ro 1 4 (rowG encI wd4)), (1, .ro 1 4 (rowG encU [a, b, c, d]))] (.tup [U (pk4 a b c d), I 0]) [] := by
  obtain ⟨h0, h1, h2, h3⟩ := hv
  obtain ⟨a, rfl⟩ : ∃ n : Nat, a = n := ⟨a.toNat, by omega⟩
  obtain ⟨b, rfl⟩ : ∃ n : Nat, b = n := ⟨b.toNat, by omega⟩
  obtain ⟨c, rfl⟩ : ∃ n : Nat, c = n := ⟨c.toNat, by omega⟩
  obtain ⟨d, rfl⟩ : ∃ n : Nat, d = n := ⟨d.toNat, by omega⟩
  refine ⟨enters_of Try.func121 (by kernel_rfl) rfl, fun E W cargs ha hr hn => ?_⟩
  simp only [RVs] at ha
  obtain ⟨c1, l1, rfl, g1, c2, l2, rfl, g2, rfl⟩ := ha
  have hw : Wf [(a : Int), b, c, d] := by
    intro x hx
    simp only [List.mem_cons, List.not_mem_nil, or_false] at hx
    omega
  obtain ⟨p, cap, rfl, H⟩ := wi_row (L := wd4) (hr.holds 0 _ rfl) g1
  obtain ⟨q, cap2, rfl, H2⟩ := wo_row (L := [(a : Int), b, c, d]) hw (hr.holds 1 _ rfl) g2
  refine (OldB.fields_all p q 4 cap cap2 wd4 _ (by omega) wd4_fit W H H2).mono ?_
  have key : ∀ j, j < 4 → OldB.vfit wd4 ([(a : Int), b, c, d].map Int.toNat) j := by
    intro j hj
    unfold OldB.vfit
    match j, hj with
    | 0, _ | 1, _ | 2, _ | 3, _ => simp [wd4]; omega
  rintro e' W' ⟨⟨_, rfl⟩ | ⟨hno, _⟩, hb⟩
  · obtain ⟨q1, q2⟩ := rh_below hr hb
    refine ⟨_, E, rfl, Ext.refl E, ?_, q1, q2⟩
    simp only [RV, RVs]
    refine ⟨[_, .int .i64 0], rfl, _, _, rfl, ?_, _, _, rfl, rfl, rfl⟩
    have := fw_4 a b c d (by omega) (by omega) (by omega) (by omega)
    simp only [List.map_cons, List.map_nil, Int.toNat_natCast]
    rw [this]
    simp only [pk4]
    rfl
  · exact absurd key hno
theorem fields4r (a b c d : Int) (hv : Fit4 a b c d) : CallOK Try.prog 121 [.sl 0 0 1 4 none, .sl 1 0 1 4 none] [(0, .ro 1 4 (rowG encI wd4)), (1, .ro 1 4 (rowsOf [U a, U b, U c, U d] 1))] (.tup [U (pk4 a b c d), I 0]) [] := by
  refine (fields4 a b c d hv).sim fun id => ?_
  simp only [find]
  split
  · exact OSim.refl _
  · split
    · exact ⟨⟨rfl, rfl, fun q hq => match q, hq with | 0, _ | 1, _ | 2, _ | 3, _ => rfl⟩, ⟨rfl, rfl, fun q hq => match q, hq with | 0, _ | 1, _ | 2, _ | 3, _ => rfl⟩⟩
    · exact OSim.refl _
theorem pk4_back {a b c d : Int} (h : Fit4 a b c d) : f0 (pk4 a b c d) = a ∧ f1 (pk4 a b c d) = b ∧ f2 (pk4 a b c d) = c ∧ f3 (pk4 a b c d) = d := by
  obtain ⟨h0, h1, h2, h3⟩ := h
  unfold f0 f1 f2 f3 pk4
  omega
theorem pk4_bd {a b c d : Int} (h : Fit4 a b c d) : 0 ≤ pk4 a b c d ∧ pk4 a b c d ≤ 18446744073709551615 := by
  obtain ⟨h0, h1, h2, h3⟩ := h
  unfold pk4
  omega
end Go.Proofs.Ytbgbjgedjmhcaaa
namespace Go.Proofs.Ytbgbjgedjmhcaaa
open Go.RowKit
abbrev noL : AV := .agg [U 0, I 0, I 0, I 0, U 0]
end Go.Proofs.Ytbgbjgedjmhcaaa
namespace Go.Proofs.Ytbgbjgedjmhcaaa
open Go.RowKit
theorem CallOK.arr {P : Program} {g : FuncId} {args : List AV} {h : Hp} {ret : AV} {outs : List (Nat × Option Ob)} (ty id : Nat) (cs : List AV) {row : Nat → List AV} (hrow : ∀ q, q < cs.length → row q = (cs.drop q).take 1) (hpl : allB plainV cs = true) (hf : find h id = some (.ro 1 cs.length row)) (hn : notIn id (outIds outs) = true) (ha : allOwned outs = true) (c : CallOK P g args h ret outs) : CallOK P g args (upd h id (.blk ty cs)) ret outs := by
  have hn' : id ∉ outIds outs := fun hm => by have := allB_ok hn id hm; simp at this
  have hh : hasId h id = true := by unfold hasId; rw [hf]
  obtain ⟨a1, a2, a3⟩ := apply_beside id (.blk ty cs) outs h (upd h id (.blk ty cs)) hn' hh (fun x => by
    rw [find_upd]
    by_cases e : id = x
    · rw [if_pos e, if_pos e.symm]
    · rw [if_neg e, if_neg (fun e' => e e'.symm)])
  refine ⟨c.1, fun E W cargs hargs rh hfr => ?_⟩
  rw [a2] at hfr ⊢
  have hv := rh.holds id (.blk ty cs) (by rw [find_upd, if_pos rfl])
  have hro : Holds E W id (.ro 1 cs.length row) := by
    obtain ⟨b, k, xs, h1, h2, h3, h4⟩ := hv
    have hl := h3.length
    refine ⟨some ⟨b, 0, none⟩, k, xs, h1, by omega, .inr ⟨_, rfl, (Array.getElem?_eq_some_iff.1 h2).1, by omega, fun j u hu => ?_⟩, plain_one cs xs (allB_ok hpl) h3, fun p hp => ?_⟩
    · rw [cell_of_row W b _ _ _ _ h2]
      simpa using hu
    · rw [hrow p hp]
      unfold cellsAt
      rw [Nat.mul_one]
      exact (h3.drop p).take 1
  have hrest : ∀ x o, x ≠ id → find h x = some o → find (upd h id (.blk ty cs)) x = some o := fun x o hx ho => by
    rw [find_upd, if_neg (fun e => hx e.symm)]; exact ho
  have hid : find (upd h id (.blk ty cs)) id = some (.blk ty cs) := by rw [find_upd, if_pos rfl]
  have rh0 : RH E h W := by
    refine ⟨fun x o ho => ?_, fun i j o p hi hj hne hw b hb hb2 => ?_⟩
    · by_cases e : x = id
      · subst e; rw [hf] at ho; obtain rfl := Option.some.inj ho; exact hro
      · exact rh.holds x o (hrest x o e ho)
    · have hi' : i ≠ id := fun e => by subst e; rw [hf] at hi; obtain rfl := Option.some.inj hi; cases hw
      by_cases e : j = id
      · subst e
        rw [hf] at hj; obtain rfl := Option.some.inj hj
        exact rh.apart i j o _ (hrest i o hi' hi) hid hne hw b hb (hb2.congr rfl rfl)
      · exact rh.apart i j o p (hrest i o hi' hi) (hrest j p e hj) hne hw b hb hb2
  refine (c.2 E W cargs hargs rh0 hfr).mono ?_
  rintro e W' ⟨cv, E', rfl, hx, hvr, hh', hm⟩
  have hbid : blkOf E' id = blkOf E id := by
    obtain ⟨z, hz⟩ := hv.bound
    exact blkOf_ext hx.1 hz
  have hvec' : Holds E' W' id (.blk ty cs) := by
    refine (hv.mono hx.1).kept hm.size fun b hb => ?_
    have hb := hb.cg hbid.symm
    refine hm.old b (Holds.blk_lt hb hv) fun i o hi hw hib => ?_
    have hi' : i ≠ id := fun e => by subst e; rw [hf] at hi; obtain rfl := Option.some.inj hi; cases hw
    exact rh.apart i id o _ (hrest i o hi' hi) hid hi' hw b hib hb
  have hold : ∀ x o b, x ≠ id → find (applyO h outs) x = some o → Foot E' W' x o b → o.owned = true → ¬ Foot E' W' id (.blk ty cs) b := fun x o b hx' ho hb hw hb2 => by
    have hb2 : Foot E W id (.blk ty cs) b := (hb2.cg hbid.symm).plain rfl
    rcases hm.own x o b ho hb with ⟨i, p, p1, p2, p3⟩ | hge
    · have hp := p2 hw
      have hi' : i ≠ id := fun e => by subst e; rw [hf] at p1; obtain rfl := Option.some.inj p1; cases hp
      exact rh.apart i id p _ (hrest i p hi' p1) hid hi' hp b p3 hb2
    · have := Holds.blk_lt hb2 hv; omega
  refine ⟨cv, E', rfl, hx, hvr, ⟨fun x o ho => ?_, fun i j o p hi hj hne hw b hb hb2 => ?_⟩, ⟨hm.os, hm.tape, hm.output, hm.size, fun b hb hno => hm.old b hb fun i o hi hw => ?_, fun x o b ho hb => ?_⟩⟩
  · rw [a1] at ho
    by_cases e : x = id
    · subst e; rw [if_pos rfl] at ho; obtain rfl := Option.some.inj ho; exact hvec'
    · rw [if_neg e] at ho; exact hh'.holds x o ho
  · rw [a1] at hi hj
    by_cases ei : i = id
    · subst ei
      rw [if_pos rfl] at hi
      obtain rfl := Option.some.inj hi
      rw [if_neg (fun e => hne e.symm)] at hj
      by_cases hwp : p.owned = true
      · exact hold j p b (fun e => hne e.symm) hj hb2 hwp hb
      · have hpo : p.owned = false := by simpa using hwp
        have hj0 := ro_old outs h j p ha hj hpo
        have hje : j ≠ i := fun e => hne e.symm
        obtain ⟨z, hz⟩ := (rh0.holds j p hj0).bound
        have hb2 : Foot E W j p b := (hb2.cg (blkOf_ext hx.1 hz).symm).plain (by cases p <;> first | rfl | cases hpo)
        exact rh.apart i j _ p hid (hrest j p hje hj0) hne rfl b ((hb.cg hbid.symm).plain rfl) hb2
    · rw [if_neg ei] at hi
      by_cases ej : j = id
      · subst ej; rw [if_pos rfl] at hj; obtain rfl := Option.some.inj hj; exact hold i o b ei hi hb hw hb2
      · rw [if_neg ej] at hj; exact hh'.apart i j o p hi hj hne hw b hb hb2
  · have hi' : i ≠ id := fun e => by subst e; rw [hf] at hi; obtain rfl := Option.some.inj hi; cases hw
    exact hno i o (hrest i o hi' hi) hw
  · rw [a1] at ho
    by_cases e : x = id
    · subst e
      rw [if_pos rfl] at ho
      obtain rfl := Option.some.inj ho
      exact .inl ⟨x, _, hid, fun h => h, (hb.cg hbid.symm).plain rfl⟩
    · rw [if_neg e] at ho
      refine (hm.own x o b ho hb).imp_left fun ⟨i, p, p1, p2, p3⟩ => ?_
      by_cases ei : i = id
      · subst ei; rw [hf] at p1; obtain rfl := Option.some.inj p1; exact ⟨i, _, hid, fun _ => rfl, p3⟩
      · exact ⟨i, p, hrest i p ei p1, p2, p3⟩
end Go.Proofs.Ytbgbjgedjmhcaaa
namespace Go.Proofs.Ytbgbjgedjmhcaaa
open Go.RowKit
open OldD (Dk hd hs chk3 chk4 rdV wrE wrK flK)
theorem spsize_any (m : Nat) (k : Dk) (d s n : Int) : CallOK Try.prog 169 [.agg [.ptr 0 0 0 0, I d, I s, I n]] [(0, .box (dbox m k))] (I n) [] := by
  refine CallOK.intro Try.call169 Try.func169 rfl rfl ⟨rfl, trivial, trivial⟩ ?_
  refine Safe.ends mixed Try.func169 4 [⟨1100, []⟩, ⟨1200, []⟩] (r := I n) (hp := [(0, .box (dbox m k))]) (ob := []) rfl (by kernel_rfl) trivial rfl ⟨ObLe.refl _, trivial⟩ ⟨rfl, trivial, trivial⟩ rfl
theorem has_span (m : Nat) (k : Dk) (d s n a : Int) : CallOK Try.prog 171 [.ifc 170 (.agg [.ptr 0 0 0 0, I d, I s, I n]), I a] [(0, .box (dbox m k))] (B (decide (0 ≤ a ∧ a < n))) [] := by
  refine CallOK.intro Try.call171 Try.func171 rfl rfl ⟨rfl, trivial, trivial⟩ ?_
  refine (Classical.em (a ≥ (0 : Int))).elim (fun hc1 => ?ga0) (fun hc1 => ?gb0)
  case' gb0 =>
    refine Safe.ends mixed Try.func171 4 [⟨1100, []⟩, ⟨1200, [(1, .tt false)]⟩] (r := B false) (hp := [(0, .box (dbox m k))]) (ob := [decide (a ≥ (0 : Int)) = false]) rfl (by kernel_rfl) ⟨(decide_eq_false hc1), trivial⟩ ?_ ⟨ObLe.refl _, trivial⟩ ⟨rfl, trivial, trivial⟩ rfl
  case' ga0 =>
    refine Safe.ends mixed Try.func171 4 [⟨1100, []⟩, ⟨1200, [(1, .tt true), (5, .inv 169 (.agg [.ptr 0 0 0 0, I d, I s, I n]) [0] (I n) [])]⟩] (r := B (decide (a < n))) (hp := [(0, .box (dbox m k))]) (ob := [decide (a ≥ (0 : Int)) = true, MethOK Try.prog "Size" (.ifc 170 (.agg [.ptr 0 0 0 0, I d, I s, I n])) 169 (.agg [.ptr 0 0 0 0, I d, I s, I n]), CallOK Try.prog 169 [.agg [.ptr 0 0 0 0, I d, I s, I n]] [(0, .box (dbox m k))] (I n) []]) rfl (by kernel_rfl) ⟨(decide_eq_true hc1), (MethOK.of (by kernel_rfl)), (spsize_any m k d s n), trivial⟩ ?_ ⟨ObLe.refl _, trivial⟩ ⟨rfl, trivial, trivial⟩ rfl
  · rw [show decide (a < n) = decide (0 ≤ a ∧ a < n) from decide_eq_decide.2 (by omega)]; rfl
  · rw [decide_eq_false (show ¬ (0 ≤ a ∧ a < n) by omega)]; rfl
theorem spread_ok (m : Nat) (k : Dk) (d s n a : Int) (ha : 0 ≤ a ∧ a < n) (hb : 0 ≤ s ∧ s ≤ 100000 ∧ n ≤ 100000) : CallOK Try.prog 168 [.agg [.ptr 0 0 0 0, I d, I s, I n], I a] [(0, .box (dbox m k))] (.tup [.val (.int .u64 (rdV k d (s + a))), I (chk4 k d (s + a))]) [(0, some (.box (dbox m k)))] := by
  refine CallOK.intro Try.call168 Try.func168 rfl rfl ⟨rfl, trivial, trivial⟩ ?_
  refine Safe.ends mixed Try.func168 9 [⟨1100, []⟩, ⟨1200, [(3, .call [0] (B true) [])]⟩, ⟨1300, [(8, .call [0] (.tup [U (rdV k d (s + a)), I (chk4 k d (s + a))]) [(0, some (.box (dbox m k)))])]⟩] (r := .tup [U (rdV k d (s + a)), I (chk4 k d (s + a))]) (hp := [(0, .box (dbox m k))]) (ob := [CallOK Try.prog 171 ([] ++ [.ifc 170 (.agg [.ptr 0 0 0 0, I d, I s, I n]), I a] ++ []) [(0, .box (dbox m k))] (B true) [], inK IntKind.i64 (s + a), CallOK Try.prog 154 ([] ++ [.ptr 0 0 0 0, I d, I (s + a)] ++ []) [(0, .box (dbox m k))] (.tup [U (rdV k d (s + a)), I (chk4 k d (s + a))]) [(0, some (.box (dbox m k)))]]) rfl (by kernel_rfl) ⟨(CallOK.isB (has_span m k d s n a) (decide_eq_true ha)), (by simp only [inK]; omega), (read_c m k d (s + a)), trivial⟩ rfl ⟨ObLe.refl _, trivial⟩ ⟨rfl, trivial, trivial⟩ rfl
theorem spwrite_ok (m : Nat) (k : Dk) (d s n a v : Int) (ha : 0 ≤ a ∧ a < n) (hb : 0 ≤ s ∧ s ≤ 100000 ∧ n ≤ 100000) (hk : Bd k) : CallOK Try.prog 170 [.agg [.ptr 0 0 0 0, I d, I s, I n], I a, .val (.int .u64 v)] [(0, .box (dbox m k))] (I (wrE k d (s + a))) [(0, some (.box (dbox m (wrK k d (s + a) v))))] := by
  refine CallOK.intro Try.call170 Try.func170 rfl rfl ⟨rfl, trivial, trivial⟩ ?_
  refine Safe.ends mixed Try.func170 9 [⟨1100, []⟩, ⟨1200, [(3, .call [0] (B true) [])]⟩, ⟨1300, [(9, .call [0] (I (wrE k d (s + a))) [(0, some (.box (dbox m (wrK k d (s + a) v))))])]⟩] (r := I (wrE k d (s + a))) (hp := [(0, .box (dbox m (wrK k d (s + a) v)))]) (ob := [CallOK Try.prog 171 ([] ++ [.ifc 170 (.agg [.ptr 0 0 0 0, I d, I s, I n]), I a] ++ []) [(0, .box (dbox m k))] (B true) [], inK IntKind.i64 (s + a), CallOK Try.prog 155 ([] ++ [.ptr 0 0 0 0, I d, I (s + a), U v] ++ []) [(0, .box (dbox m k))] (I (wrE k d (s + a))) [(0, some (.box (dbox m (wrK k d (s + a) v))))]]) rfl (by kernel_rfl) ⟨(CallOK.isB (has_span m k d s n a) (decide_eq_true ha)), (by simp only [inK]; first | omega | assumption), (write_c m k d (s + a) v (by first | omega | assumption)), trivial⟩ rfl ⟨ObLe.refl _, trivial⟩ ⟨rfl, trivial, trivial⟩ rfl
theorem spflush_any (m : Nat) (k : Dk) (d s n : Int) (hF : k.F.length ≤ 2 ^ 32) : CallOK Try.prog 167 [.agg [.ptr 0 0 0 0, I d, I s, I n]] [(0, .box (dbox m k))] (I (chk3 k d 0)) [(0, some (.box (dbox m (flK k d))))] := by
  refine CallOK.intro Try.call167 Try.func167 rfl rfl ⟨rfl, trivial, trivial⟩ ?_
  refine Safe.ends mixed Try.func167 4 [⟨1100, []⟩, ⟨1200, [(4, .call [0] (I (chk3 k d (0 : Int))) [(0, some (.box (dbox m (flK k d))))])]⟩] (r := I (chk3 k d (0 : Int))) (hp := [(0, .box (dbox m (flK k d)))]) (ob := [CallOK Try.prog 153 ([] ++ [.ptr 0 0 0 0, I d] ++ []) [(0, .box (dbox m k))] (I (chk3 k d (0 : Int))) [(0, some (.box (dbox m (flK k d))))]]) rfl (by kernel_rfl) ⟨(flush_c m k d (by first | omega | assumption)), trivial⟩ rfl ⟨ObLe.refl _, trivial⟩ ⟨rfl, trivial, trivial⟩ rfl
def spFit (k : Dk) (d s n : Int) : Prop := 1 ≤ n ∧ 0 ≤ s ∧ s ≤ szV k d ∧ n ≤ szV k d - s
theorem span_ok (m : Nat) (k : Dk) (d s n : Int) (hz : 0 ≤ szV k d ∧ szV k d ≤ 100000) (h : spFit k d s n) : CallOK Try.prog 60 [.ptr 0 0 0 0, I d, I s, I n] [(0, .box (dbox m k))] (.tup [.ifc 170 (.agg [.ptr 0 0 0 0, I d, I s, I n]), I 0]) [(0, some (.box (dbox m k)))] := by
  unfold spFit at h
  refine CallOK.intro Try.call60 Try.func60 rfl rfl ⟨rfl, trivial, trivial⟩ ?_
  refine (Classical.em (n < (1 : Int))).elim (fun hc1 => ?ga1) (fun hc1 => ?gb1)
  case' gb1 =>
    refine (Classical.em ((0 : Int) ≤ s ∧ s ≤ szV k d ∧ (0 : Int) ≤ n ∧ n ≤ szV k d - s)).elim (fun hc2 => ?ga2) (fun hc2 => ?gb2)
    case' gb2 =>
      refine Safe.ends mixed Try.func60 8 [⟨1100, []⟩, ⟨1200, [(1, .tt false), (5, .call [0] (I (szV k d)) [(0, some (.box (dbox m k)))]), (8, .call [] (B false) [])]⟩, ⟨1300, []⟩] (r := .tup [.val Value.nilIface, I 1]) (hp := [(0, .box (dbox m k))]) (ob := [decide (n < (1 : Int)) = false, CallOK Try.prog 61 ([] ++ [.ptr 0 0 0 0, I d] ++ []) [(0, .box (dbox m k))] (I (szV k d)) [(0, some (.box (dbox m k)))], CallOK Try.prog 102 ([] ++ [I (szV k d), I s, I n] ++ []) [] (B false) []]) rfl (by kernel_rfl) ⟨(decide_eq_false hc1), (size_c m k d), (CallOK.isB (fits_any (szV k d) s n (by omega)) (decide_eq_false hc2)), trivial⟩ ?_ ⟨ObLe.refl _, trivial⟩ ⟨rfl, trivial, trivial⟩ rfl
    case' ga2 =>
      refine Safe.ends mixed Try.func60 9 [⟨1100, []⟩, ⟨1200, [(1, .tt false), (5, .call [0] (I (szV k d)) [(0, some (.box (dbox m k)))]), (8, .call [] (B true) [])]⟩, ⟨1300, []⟩] (r := .tup [.ifc 170 (.agg [.ptr 0 0 0 0, I d, I s, I n]), I 0]) (hp := [(0, .box (dbox m k))]) (ob := [decide (n < (1 : Int)) = false, CallOK Try.prog 61 ([] ++ [.ptr 0 0 0 0, I d] ++ []) [(0, .box (dbox m k))] (I (szV k d)) [(0, some (.box (dbox m k)))], CallOK Try.prog 102 ([] ++ [I (szV k d), I s, I n] ++ []) [] (B true) []]) rfl (by kernel_rfl) ⟨(decide_eq_false hc1), (size_c m k d), (CallOK.isB (fits_any (szV k d) s n (by omega)) (decide_eq_true hc2)), trivial⟩ rfl ⟨ObLe.refl _, trivial⟩ ⟨rfl, trivial, trivial⟩ rfl
  case' ga1 =>
    refine Safe.ends mixed Try.func60 8 [⟨1100, []⟩, ⟨1200, [(1, .tt true)]⟩, ⟨1300, []⟩] (r := .tup [.val Value.nilIface, I 1]) (hp := [(0, .box (dbox m k))]) (ob := [decide (n < (1 : Int)) = true]) rfl (by kernel_rfl) ⟨(decide_eq_true hc1), trivial⟩ ?_ ⟨ObLe.refl _, trivial⟩ ⟨rfl, trivial, trivial⟩ rfl
  · omega
  · omega
end Go.Proofs.Ytbgbjgedjmhcaaa
