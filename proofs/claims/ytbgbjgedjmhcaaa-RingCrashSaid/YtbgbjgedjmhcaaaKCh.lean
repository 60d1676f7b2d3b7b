/- What the law needs, one text behind the other. No conditions but those of each theorem. -/
import Derived.KernelRfl
import Derived.Below
import Derived.WalkKit
import Derived.OpenShut
import Derived.SliceStrings
import Derived.Test.YtbgbjgedjmhcaaaKCg
set_option linter.unnecessarySimpa false
set_option linter.unusedSimpArgs false
set_option linter.unusedVariables false
namespace Go.Proofs.Ytbgbjgedjmhcaaa
open Go.RowKit
open OldD (Dk chk3 chk4 rdV wrE wrK flK reK)
def At (v : Nat → Int) (R p : Nat) : Option (Int × ByteArray) → Prop
  | none => v p = 0
  | some x => ¬ v p = 0 ∧ f0 (v p) = x.1 ∧ Wh v R (v p) x.2
def rdR : Option (Int × ByteArray) → AV
  | none => .tup [cpy false 0 S0, I 12]
  | some x => .tup [cpy true x.1 (S x.2), I 0]
def seqR : Option (Int × ByteArray) → Int
  | none => 0
  | some x => x.1
def lnR : Option (Int × ByteArray) → Nat
  | none => 0
  | some x => ln x.2.size
theorem At.seq {v : Nat → Int} {R p : Nat} {o : Option (Int × ByteArray)} (h : At v R p o) : f0 (v p) = seqR o := by
  cases o with
  | none => have h : v p = 0 := h; rw [h]; rfl
  | some x => exact h.2.1
theorem read_at (m : Nat) (k : Dk) (N R : Nat) {cc : Nat} (g : Gk k 1 (fun _ => N) cc) (hdn : k.down = false) (hN : 4 ≤ N ∧ N ≤ 1000) (hR : R + 2 = N) {v : Nat → Int} (e0 : nw k 0 0 = v 0) (es : ∀ i, i < n2 (v 0) → v (plc R (n1 (v 0)) i) = nw k 0 (plc R (n1 (v 0)) i)) (vr : Vr v R (v 0)) (o : Option (Int × ByteArray)) (h : At v R 0 o) :
    CallOK Try.prog 50 [spn N] [(0, .box (dbox m k))] (rdR o) [(0, some (.box (dbox m k)))] := by
  cases o with
  | none => exact read_none m k N g hdn hN (e0.trans h)
  | some x =>
    obtain ⟨h1, h2, h3⟩ := h
    have hv : Vr (nw k 0) R (nw k 0 0) := by
      rw [e0]
      refine ⟨vr.1, ?_⟩
      rw [← wsP_ext _ es]
      exact vr.2
    have hw : Wh (nw k 0) R (nw k 0 0) x.2 := by
      rw [e0]
      exact h3.ext es
    have := read_ok m k N R g hdn hN hR hv (by rw [e0]; exact h1) x.2 hw
    rw [e0, h2] at this
    exact this
theorem Q1.vw {k : Dk} {N c : Nat} {v w : Nat → Int} {f : Int} {T : Nat → Prop} (q : Q1 k N c v w f T) (h : Vw v N) : Vw (nw k 0) N := fun t ht => by rw [q.nv t ht]; exact h t ht
theorem Q1.at {k : Dk} {N c R p : Nat} {v w : Nat → Int} {f : Int} {T : Nat → Prop} (q : Q1 k N c v w f T) (hR : R + 2 = N) (h1 : 1 ≤ R) (hp : p < N) {o : Option (Int × ByteArray)} (h : At v R p o) : At (nw k 0) R p o := by
  cases o with
  | none => exact (q.nv p hp).trans h
  | some x =>
    obtain ⟨h1', h2, h3⟩ := h
    show ¬ nw k 0 p = 0 ∧ f0 (nw k 0 p) = x.1 ∧ Wh (nw k 0) R (nw k 0 p) x.2
    rw [q.nv p hp]
    refine ⟨h1', h2, h3.ext fun i hi => (q.nv _ ?_).symm⟩
    have := plc_bd R (n1 (v p)) i h1
    omega
theorem read_q (m : Nat) {k : Dk} {N R c : Nat} {v w : Nat → Int} {f : Int} {T : Nat → Prop} (q : Q1 k N c v w f T) (hN : 4 ≤ N ∧ N ≤ 1000) (hR : R + 2 = N) (vw : Vw v N) {o : Option (Int × ByteArray)} (h : At v R 0 o) :
    CallOK Try.prog 50 [spn N] [(0, .box (dbox m k))] (rdR o) [(0, some (.box (dbox m k)))] :=
  read_at m k N R q.g q.dn hN hR (q.nv 0 (by omega)) (fun i hi => by
    have := plc_bd R (n1 (v 0)) i (by omega)
    exact (q.nv _ (by omega)).symm) (vw.vr hR (by omega) (by omega)) o h
def Dn (k : Dk) (N : Nat) (c : Nat) (os : List (Option (Int × ByteArray))) : Prop :=
  k.F.length ≤ 2 ^ 32 ∧ ∀ kp : Nat → Bool, Gk (reK k kp) 1 (fun _ => N) c ∧ (reK k kp).down = false ∧ ∃ o, o ∈ os ∧ ∀ m, CallOK Try.prog 50 [spn N] [(0, .box (dbox m (reK k kp)))] (rdR o) [(0, some (.box (dbox m (reK k kp))))]
theorem wfT (t : ByteArray) (ht : t.size ≤ 8192) : Wf (textW t) := textP_wf t (by omega) _
def PrG (m : Nat) (k : Dk) (N R c : Nat) (f : Int) (o : Option (Int × ByteArray)) (sq : Int) (t : ByteArray) : Prop :=
  ∃ (k' : Dk) (e : Int), CallOK Try.prog 53 [spn N, I sq, S t] [(0, .box (dbox m k))] (I e) [(0, some (.box (dbox m k')))] ∧
      ((e = 0 ∧ ∃ v' f', Q1 k' N (c + 1001) v' v' f' (fun _ => False) ∧ Vw v' N ∧ At v' R 0 o ∧ At v' R 1 (some (sq, t)) ∧ (f = 0 → f' = 0)) ∨
       (f ≠ 0 ∧ e = 5 ∧ Dn k' N (c + 1001) [o]))
theorem prep_q (m : Nat) {k : Dk} {N R c : Nat} {v : Nat → Int} {f : Int} (q : Q1 k N c v v f (fun _ => False)) (hc : c ≤ 60000) (hN : 4 ≤ N ∧ N ≤ 1000) (hR : R + 2 = N) (vw : Vw v N) {o : Option (Int × ByteArray)} (h : At v R 0 o) (sq : Int) (hq : 1 ≤ sq ∧ sq ≤ 1048575) (t : ByteArray) (ht : t.size ≤ 8192) (hs : lnR o + ln t.size ≤ R) :
    PrG m k N R c f o sq t := by
  have hl := textW_len t
  have hb := ln_bd t.size
  have hw := wfT t ht
  have key : ∀ (st : Nat) (u : Int), st < R → 0 ≤ u → u + (textW t).length ≤ R → CallOK Try.prog 91 [ara N R] [(0, .box (dbox m k))] (.tup [I st, I u, I 0]) [(0, some (.box (dbox m k)))] → (∀ v' : Nat → Int, v' 0 = v 0 → (∀ p, 2 ≤ p → p < N → ¬ Pl R st (textW t).length p → v' p = v p) → At v' R 0 o ∧ ∀ i, i < n2 (v 0) → v (plc R (n1 (v 0)) i) = v' (plc R (n1 (v 0)) i)) → PrG m k N R c f o sq t := fun st u hst hu hsp bh hold => by
    have pg := prep_gen m k N R st sq u t (textW t) (text_ok t ht) q.bc hc hN hR hq hw hst hu hsp bh
    have at2 := (wsQ_at v (textW t) R st hst (by omega)).2
    have ov2 : ∀ p, ¬ Pl R st (textW t).length p → ovA v (wsQ (textW t) R st) p = v p := at2
    have ov0 : ovA v (wsQ (textW t) R st) 0 = v 0 := ov2 0 fun h => by have := h.two; omega
    have vr := vw.vr hR (by omega) (show 0 < N by omega)
    rcases prep_run q (textW t) R st sq hR (by omega) with ⟨e, f', r, hf⟩ | ⟨hf, e, w, T, r, hw2⟩
    · rw [e] at pg
      refine ⟨_, _, pg, .inl ⟨rfl, _, f', ⟨r.g.mono (by omega), r.dn, r.fu, r.nv, r.dv, r.ft⟩, vw.prV hw (by omega) (by omega) hq, ?_, ?_, hf⟩⟩
      · obtain ⟨p1, p2, p3, p4, p5⟩ := prV_new v t ht R st sq hst (by omega) (by omega) hq
        refine (hold _ p2 fun p hp hpN hpl => ?_).1
        show updV _ 1 _ p = v p
        rw [updV, if_neg (by omega)]
        exact ov2 p hpl
      · obtain ⟨p1, p2, p3, p4, p5⟩ := prV_new v t ht R st sq hst (by omega) (by omega) hq
        exact ⟨p3, p4, p5⟩
    · rw [e] at pg
      refine ⟨_, _, pg, .inr ⟨hf, rfl, ?_, fun kp => ?_⟩⟩
      · have := r.g.fl
        omega
      · obtain ⟨g, dn, hb⟩ := r.back kp
        refine ⟨g.mono (by omega), dn, o, List.mem_singleton.2 rfl, fun m => ?_⟩
        have hh : nw (reK (seqK k (prA (textW t) R st sq)) kp) 0 0 = v 0 ∧ ∀ p, 2 ≤ p → p < N → ¬ Pl R st (textW t).length p → nw (reK (seqK k (prA (textW t) R st sq)) kp) 0 p = v p := by
          rcases hw2 with ⟨rfl, rfl⟩ | ⟨rfl, rfl⟩
          · exact ⟨hb 0 (by omega) fun h => by have := h.two; omega, fun p _ hp hpl => hb p hp hpl⟩
          · exact ⟨(hb 0 (by omega) fun x => x).trans ov0, fun p _ hp hpl => (hb p hp fun x => x).trans (ov2 p hpl)⟩
        obtain ⟨h1, h2⟩ := hold _ hh.1 hh.2
        exact read_at m _ N R g dn hN hR hh.1 h2 vr o h
  cases o with
  | none =>
    have h : v 0 = 0 := h
    have hs : 0 + ln t.size ≤ R := hs
    refine key 0 0 (by omega) (by omega) (by omega) (behind_none m k N R q.g q.dn hN ((q.nv 0 (by omega)).trans h)) fun v' e _ => ⟨e.trans h, fun i hi => ?_⟩
    rw [h] at hi
    exact absurd hi (by unfold n2 f2; simp)
  | some x =>
    have h' := h
    obtain ⟨h1, h2, h3⟩ := h
    have hs : ln x.2.size + ln t.size ≤ R := hs
    have hn2 := h3.len
    have hk := q.at hR (by omega) (show 0 < N by omega) h'
    obtain ⟨k1, k2, k3⟩ := hk
    have bh := behind_ok m k N R q.g q.dn hN hR ((q.vw vw).vr hR (by omega) (by omega)) k1 x.2 k3
    rw [q.nv 0 (by omega)] at bh
    obtain ⟨_, ⟨e1, _⟩, ⟨e2, b2⟩, _⟩ := n_eq (v 0)
    rw [e1, e2, show ((n1 (v 0) : Int) + (n2 (v 0) : Int)) % (R : Int) = (((n1 (v 0) + n2 (v 0)) % R : Nat) : Int) by push_cast; rfl] at bh
    obtain ⟨o1, o2, o3⟩ := prV_old v (textW t) R sq x.2 (by omega) h3
    have hf := h3.1
    have hRp : 0 < R := by have := hf.2.2.1; omega
    have hno : ∀ i, i < n2 (v 0) → ¬ Pl R ((n1 (v 0) + n2 (v 0)) % R) (textW t).length (plc R (n1 (v 0)) i) := fun i hi ⟨j, hj, e⟩ => by
      rw [plc_add] at e
      have := plc_inj hf.2.2.1 (by omega) (by omega) e
      omega
    refine key _ (n2 (v 0)) (Nat.mod_lt _ hRp) (by omega) (by omega) bh fun v' e hv' => ?_
    have es : ∀ i, i < n2 (v 0) → v (plc R (n1 (v 0)) i) = v' (plc R (n1 (v 0)) i) := fun i hi => by
      have := plc_bd R (n1 (v 0)) i hRp
      exact (hv' _ (plc_two _ _ _) (by omega) (hno i hi)).symm
    refine ⟨?_, es⟩
    show ¬ v' 0 = 0 ∧ f0 (v' 0) = x.1 ∧ Wh v' R (v' 0) x.2
    rw [e]
    exact ⟨h1, h2, h3.ext es⟩
theorem switch_q (m : Nat) {k : Dk} {N R c : Nat} {v : Nat → Int} {f : Int} (q : Q1 k N c v v f (fun _ => False)) (hc : c ≤ 70000) (hN : 4 ≤ N ∧ N ≤ 1000) (hR : R + 2 = N) (vw : Vw v N) {o : Option (Int × ByteArray)} (h : At v R 0 o) (x : Int × ByteArray) (hx : At v R 1 (some x)) :
    ∃ (k' : Dk) (e : Int), CallOK Try.prog 54 [spn N] [(0, .box (dbox m k))] (I e) [(0, some (.box (dbox m k')))] ∧
      ((e = 0 ∧ ∃ v' f', Q1 k' N (c + 1) v' v' f' (fun _ => False) ∧ Vw v' N ∧ At v' R 0 (some x) ∧ At v' R 1 (some x) ∧ (f = 0 → f' = 0)) ∨
       (f ≠ 0 ∧ e = 5 ∧ Dn k' N (c + 1) [o, some x])) := by
  obtain ⟨k1, k2, k3⟩ := q.at hR (by omega) (show 1 < N by omega) hx
  have sw := switch_ok m k N R q.g (by omega) q.dn hN hR ((q.vw vw).vr hR (by omega) (by omega)) k1 x.2 k3
  obtain ⟨h1, h2, h3⟩ := hx
  rw [q.nv 1 (by omega)] at sw
  rcases put_run q (by omega) 0 (by omega) (v 1) with ⟨e, f', r, hf⟩ | ⟨hf, e, r⟩
  · have e' : seqE k [some (0, v 1), none] = 0 := e
    rw [e'] at sw
    refine ⟨_, _, sw, .inl ⟨rfl, _, f', r, vw.upd (vw 1 (by omega)), ?_, ?_, hf⟩⟩
    · show ¬ v 1 = 0 ∧ f0 (v 1) = x.1 ∧ Wh (updV v 0 (v 1)) R (v 1) x.2
      exact ⟨h1, h2, upd0_wh _ h3⟩
    · show ¬ v 1 = 0 ∧ f0 (v 1) = x.1 ∧ Wh (updV v 0 (v 1)) R (v 1) x.2
      exact ⟨h1, h2, upd0_wh _ h3⟩
  · have e' : seqE k [some (0, v 1), none] = 5 := e
    rw [e'] at sw
    refine ⟨_, _, sw, .inr ⟨hf, rfl, ?_, fun kp => ?_⟩⟩
    · have := r.g.fl
      have e2 : (seqK k [some (0, v 1), none]).F.length ≤ c + 1 := this
      omega
    · obtain ⟨g, dn, hb⟩ := r.back kp
      have vr := vw.vr hR (by omega) (show 0 < N by omega)
      exact ⟨g, dn, o, by simp, fun m => read_at m _ N R g dn hN hR (hb 0 (by omega) fun x => x) (fun i hi => by
        have := plc_bd R (n1 (v 0)) i (by omega)
        exact (hb _ (by omega) fun x => x).symm) vr o h⟩
end Go.Proofs.Ytbgbjgedjmhcaaa
namespace Go.Proofs.Ytbgbjgedjmhcaaa
open Go.RowKit
open OldD (Dk chk3 chk4 rdV wrE wrK flK reK)
set_option maxRecDepth 10000
abbrev spn10 (N : Nat) : AV := .ifc 170 (.agg [.ptr 10 0 0 0, I 0, I 0, I N])
theorem areaz (n : Nat) (hn : 1 ≤ n ∧ n ≤ 1000) : CallOK Try.prog 48 [.sl 1 0 1 n none] [(1, .vec 22 1 n (fun _ => List.map AV.val (Value.cells (.int .u64 0)).toList))] (.tup [.ptr 10 0 0 0, spn10 n]) [(10, some (.box (dbox 0 (dkN [List.replicate n 0]))))] := by
  have ld := ldz n hn
  have q0 := dk1_q (List.replicate n 0)
  rw [List.length_replicate] at q0
  generalize dkN [List.replicate n 0] = k0 at ld q0 ⊢
  have sp := spans1 0 k0 n q0.g hn
  clear q0
  refine CallOK.intro Try.call48 Try.func48 rfl rfl ⟨rfl, fun _ => rfl, trivial⟩ ?_
  refine Safe.gotoE mixed 18 [⟨1100, []⟩, ⟨1200, [(2, .call [1201, 1] (.ptr 1260 0 0 0) [(1260, some (.box (dbox (0 : Nat) k0)))])]⟩, ⟨1300, []⟩, ⟨1400, [(1, .call [1260] (.sl 1455 0 1 1 none) [(1260, some (.box (dbox (0 : Nat) k0))), (1455, some (.vec 43 1 1 (rowsOf [AV.ifc (170 : Nat) (AV.agg [AV.ptr 1260 0 0 0, AV.val (Value.int IntKind.i64 (0 : Int)), AV.val (Value.int IntKind.i64 (0 : Int)), AV.val (Value.int IntKind.i64 (↑n : Int))])] (1 : Nat))))])]⟩, ⟨1500, []⟩, ⟨1600, []⟩] [2, 3] [1, 1260] (sl := slotsOf 20 [(2, .ptr 1260 0 0 0), (3, .ifc 170 (.agg [.ptr 1260 0 0 0, I 0, I 0, I ((↑n : Int))]))]) (hp := [(1, .vec 22 1 n (fun x => List.map AV.val (Value.int IntKind.u64 (0 : Int)).cells.toList)), (1260, .box (dbox (0 : Nat) k0))]) (ob := [CallOK Try.prog (21 : Nat) ([] ++ [AV.sl 1201 0 1 (1 : Nat) none] ++ []) [((1201 : Nat), Ob.vec (25 : Nat) (1 : Nat) (1 : Nat) (rowsOf [AV.sl 1 0 1 n none] (1 : Nat))), ((1 : Nat), Ob.vec (22 : Nat) (1 : Nat) n fun x => List.map AV.val (Value.int IntKind.u64 (0 : Int)).cells.toList)] (AV.ptr 1260 0 0 0) [((1260 : Nat), some (Ob.box (dbox (0 : Nat) k0)))], CallOK Try.prog (22 : Nat) ([] ++ [AV.ptr 1260 0 0 0] ++ []) [((1260 : Nat), Ob.box (dbox (0 : Nat) k0))] (AV.sl 1455 0 1 (1 : Nat) none) [((1260 : Nat), some (Ob.box (dbox (0 : Nat) k0))), ((1455 : Nat), some (Ob.vec (43 : Nat) (1 : Nat) (1 : Nat) (rowsOf [AV.ifc (170 : Nat) (AV.agg [AV.ptr 1260 0 0 0, AV.val (Value.int IntKind.i64 (0 : Int)), AV.val (Value.int IntKind.i64 (0 : Int)), AV.val (Value.int IntKind.i64 (↑n : Int))])] (1 : Nat))))], (0 : Int) ≤ (0 : Int) ∧ (0 : Int) < (↑(1 : Nat) : Int), (0 : Nat) < (1 : Nat)]) rfl rfl (by kernel_rfl) ⟨(CallOK.simR (CallOK.ren (CallOK.own 25 1 (es := (1 : Nat)) (n := (1 : Nat)) (row := rowsOf [AV.sl 2 0 1 n none] (1 : Nat)) rfl rfl rfl ld) [(1, 1201), (2, 1), (10, 1260)] [1, 2, 10] rfl rfl rfl rfl ⟨rfl, closed_rows rfl, rfl, fun _ => rfl, trivial⟩ rfl ⟨rfl, closed_rows rfl, rfl, fun _ => rfl, rfl, trivial, trivial⟩) (HpSim.cons rfl (OSim.rowsV rfl) (HpSim.cons rfl (OSim.refl _) HpSim.nil))), (CallOK.simO (CallOK.ren sp [(0, 1260), (10, 1455)] [0, 10] rfl rfl rfl rfl ⟨rfl, trivial, trivial⟩ rfl ⟨rfl, trivial, rfl, closed_rows rfl, trivial⟩) (OutSim.cons (OSim.refl _) (OutSim.cons (OSim.rowsV rfl) OutSim.nil))), (by omega), (by omega), trivial⟩ rfl ⟨rfl, fun _ => rfl, rfl, trivial, trivial⟩ fun td htd => ?_
  refine Safe.ren [(1260, 10)] rfl rfl rfl rfl ⟨rfl, fun _ => rfl, rfl, trivial, trivial⟩ ?_
  refine Safe.endsT Try.func48 htd (r := .tup [.ptr 10 0 0 0, .ifc 170 (.agg [.ptr 10 0 0 0, I 0, I 0, I ((↑n : Int))])]) (hp := [(1, .vec 22 1 n (fun q => renL [((1260 : Nat), (10 : Nat))] (List.map AV.val (Value.int IntKind.u64 (0 : Int)).cells.toList))), (10, .box (dbox (0 : Nat) k0))]) (ob := []) rfl (by kernel_rfl) trivial rfl ⟨⟨rfl, rfl, rfl, fun _ _ => rfl⟩, ObLe.refl _, trivial⟩ ⟨rfl, fun _ => rfl, rfl, trivial, trivial⟩ rfl
theorem q_zero (n : Nat) : Q1 (dkN [List.replicate n 0]) n 0 (fun _ => 0) (fun _ => 0) 0 (fun _ => False) := by
  have q0 := dk1_q (List.replicate n 0)
  rw [List.length_replicate] at q0
  have e : ∀ t, (List.replicate n (0 : Int)).getD t default = 0 := fun t => by
    rw [List.getD_eq_getElem?_getD, List.getElem?_replicate]
    split <;> rfl
  exact ⟨q0.g, q0.dn, q0.fu, fun t ht => (q0.nv t ht).trans (e t), fun t ht => (q0.dv t ht).trans (e t), q0.ft⟩
theorem vw_zero (N : Nat) : Vw (fun _ => 0) N := fun t _ => ⟨by show (0 : Int) ≤ 0; decide, by show (0 : Int) ≤ 18446744073709551615; decide⟩
theorem prep_q0 (m : Nat) {k : Dk} {N R c : Nat} {v : Nat → Int} (q : Q1 k N c v v 0 (fun _ => False)) (hc : c ≤ 60000) (hN : 4 ≤ N ∧ N ≤ 1000) (hR : R + 2 = N) (vw : Vw v N) {o : Option (Int × ByteArray)} (h : At v R 0 o) (sq : Int) (hq : 1 ≤ sq ∧ sq ≤ 1048575) (t : ByteArray) (ht : t.size ≤ 8192) (hs : lnR o + ln t.size ≤ R) :
    ∃ (k' : Dk) (v' : Nat → Int), CallOK Try.prog 53 [spn N, I sq, S t] [(0, .box (dbox m k))] (I 0) [(0, some (.box (dbox m k')))] ∧ Q1 k' N (c + 1001) v' v' 0 (fun _ => False) ∧ Vw v' N ∧ At v' R 0 o ∧ At v' R 1 (some (sq, t)) := by
  obtain ⟨k', e, ct, h⟩ := prep_q m q hc hN hR vw h sq hq t ht hs
  rcases h with ⟨rfl, v', f', q', vw', h0, h1, hf⟩ | ⟨hf, _⟩
  · rw [hf rfl] at q'
    exact ⟨k', v', ct, q', vw', h0, h1⟩
  · exact absurd rfl hf
theorem switch_q0 (m : Nat) {k : Dk} {N R c : Nat} {v : Nat → Int} (q : Q1 k N c v v 0 (fun _ => False)) (hc : c ≤ 70000) (hN : 4 ≤ N ∧ N ≤ 1000) (hR : R + 2 = N) (vw : Vw v N) {o : Option (Int × ByteArray)} (h : At v R 0 o) (x : Int × ByteArray) (hx : At v R 1 (some x)) :
    ∃ (k' : Dk) (v' : Nat → Int), CallOK Try.prog 54 [spn N] [(0, .box (dbox m k))] (I 0) [(0, some (.box (dbox m k')))] ∧ Q1 k' N (c + 1) v' v' 0 (fun _ => False) ∧ Vw v' N ∧ At v' R 0 (some x) ∧ At v' R 1 (some x) := by
  obtain ⟨k', e, ct, h⟩ := switch_q m q hc hN hR vw h x hx
  rcases h with ⟨rfl, v', f', q', vw', h0, h1, hf⟩ | ⟨hf, _⟩
  · rw [hf rfl] at q'
    exact ⟨k', v', ct, q', vw', h0, h1⟩
  · exact absurd rfl hf
def sText : ByteArray := ⟨#[115, 111, 109, 101, 32, 116, 101, 120, 116]⟩
set_option maxHeartbeats 4000000 in
theorem rawake_any : CallOK Try.prog 41 [] [] (B true) [] := by
  have ar := areaz 12 (by omega)
  have q0 := q_zero 12
  generalize dkN [List.replicate 12 0] = k0 at ar q0
  have vw0 := vw_zero 12
  have h0 : At (fun _ => (0 : Int)) 10 0 none := rfl
  obtain ⟨k1, v1, c1, q1, vw1, a1, b1⟩ := prep_q0 0 q0 (by omega) (by omega) (show 10 + 2 = 12 by omega) vw0 h0 5 (by omega) sText (by decide) (by decide)
  have r1 := read_q 0 q1 (by omega) (show 10 + 2 = 12 by omega) vw1 a1
  obtain ⟨k2, v2, c2, q2, vw2, a2, b2⟩ := switch_q0 0 q1 (by omega) (by omega) (show 10 + 2 = 12 by omega) vw1 a1 _ b1
  have r2 := read_q 0 q2 (by omega) (show 10 + 2 = 12 by omega) vw2 a2
  clear q0 q1 q2 vw0 vw1 vw2 a1 b1 a2 b2 h0
  refine CallOK.intro Try.call41 Try.func41 rfl rfl trivial ?_
  refine Safe.ends mixed Try.func41 17 [⟨100, []⟩, ⟨200, [(1, .call [200] (.tup [.ptr 255 0 0 0, .ifc 170 (.agg [.ptr 255 0 0 0, I 0, I 0, I ((↑(12 : Nat) : Int))])]) [(255, some (.box (dbox (0 : Nat) k0)))])]⟩, ⟨300, [(4, .call [255] (I 0) [(255, some (.box (dbox (0 : Nat) k1)))])]⟩, ⟨400, [(1, .call [255] (.tup [.agg [B false, I 0, S (ByteArray.mk #[])], I 12]) [(255, some (.box (dbox (0 : Nat) k1)))])]⟩, ⟨500, [(1, .call [255] (I 0) [(255, some (.box (dbox (0 : Nat) k2)))])]⟩, ⟨600, [(1, .call [255] (.tup [.agg [B true, I (((5 : Int), sText).fst), S (((5 : Int), sText).snd)], I 0]) [(255, some (.box (dbox (0 : Nat) k2)))])]⟩, ⟨700, []⟩] (r := B true) (hp := []) (ob := [(0 : Int) ≤ (12 : Int) ∧ (12 : Int) ≤ (12 : Int) ∧ (12 : Int) ≤ (1099511627776 : Int), CallOK Try.prog (48 : Nat) ([] ++ [AV.sl 200 0 1 (12 : Nat) none] ++ []) [((200 : Nat), Ob.vec (22 : Nat) (1 : Nat) (12 : Nat) fun x => List.map AV.val (Value.int IntKind.u64 (0 : Int)).cells.toList)] (AV.tup [AV.ptr 255 0 0 0, AV.ifc (170 : Nat) (AV.agg [AV.ptr 255 0 0 0, AV.val (Value.int IntKind.i64 (0 : Int)), AV.val (Value.int IntKind.i64 (0 : Int)), AV.val (Value.int IntKind.i64 (↑(12 : Nat) : Int))])]) [((255 : Nat), some (Ob.box (dbox (0 : Nat) k0)))], CallOK Try.prog (53 : Nat) ([] ++ [AV.ifc (170 : Nat) (AV.agg [AV.ptr 255 0 0 0, AV.val (Value.int IntKind.i64 (0 : Int)), AV.val (Value.int IntKind.i64 (0 : Int)), AV.val (Value.int IntKind.i64 (↑(12 : Nat) : Int))]), ofV (Value.int IntKind.i64 (5 : Int)), ofV (Value.string (ByteArray.mk #[(115 : UInt8), (111 : UInt8), (109 : UInt8), (101 : UInt8), (32 : UInt8), (116 : UInt8), (101 : UInt8), (120 : UInt8), (116 : UInt8)]))] ++ []) [((255 : Nat), Ob.box (dbox (0 : Nat) k0))] (AV.val (Value.int IntKind.i64 (0 : Int))) [((255 : Nat), some (Ob.box (dbox (0 : Nat) k1)))], CallOK Try.prog (50 : Nat) ([] ++ [AV.ifc (170 : Nat) (AV.agg [AV.ptr 255 0 0 0, AV.val (Value.int IntKind.i64 (0 : Int)), AV.val (Value.int IntKind.i64 (0 : Int)), AV.val (Value.int IntKind.i64 (↑(12 : Nat) : Int))])] ++ []) [((255 : Nat), Ob.box (dbox (0 : Nat) k1))] (AV.tup [AV.agg [AV.val (Value.bool false), AV.val (Value.int IntKind.i64 (0 : Int)), AV.val (Value.string (ByteArray.mk #[]))], AV.val (Value.int IntKind.i64 (12 : Int))]) [((255 : Nat), some (Ob.box (dbox (0 : Nat) k1)))], CallOK Try.prog (54 : Nat) ([] ++ [AV.ifc (170 : Nat) (AV.agg [AV.ptr 255 0 0 0, AV.val (Value.int IntKind.i64 (0 : Int)), AV.val (Value.int IntKind.i64 (0 : Int)), AV.val (Value.int IntKind.i64 (↑(12 : Nat) : Int))])] ++ []) [((255 : Nat), Ob.box (dbox (0 : Nat) k1))] (AV.val (Value.int IntKind.i64 (0 : Int))) [((255 : Nat), some (Ob.box (dbox (0 : Nat) k2)))], CallOK Try.prog (50 : Nat) ([] ++ [AV.ifc (170 : Nat) (AV.agg [AV.ptr 255 0 0 0, AV.val (Value.int IntKind.i64 (0 : Int)), AV.val (Value.int IntKind.i64 (0 : Int)), AV.val (Value.int IntKind.i64 (↑(12 : Nat) : Int))])] ++ []) [((255 : Nat), Ob.box (dbox (0 : Nat) k2))] (AV.tup [AV.agg [AV.val (Value.bool true), AV.val (Value.int IntKind.i64 ((5 : Int), sText).fst), AV.val (Value.string ((5 : Int), sText).snd)], AV.val (Value.int IntKind.i64 (0 : Int))]) [((255 : Nat), some (Ob.box (dbox (0 : Nat) k2)))]]) rfl (by kernel_rfl) ⟨(by omega), (CallOK.ren ar [(1, 200), (10, 255)] [1, 10] rfl rfl rfl rfl ⟨rfl, fun _ => rfl, trivial⟩ rfl ⟨rfl, fun _ => rfl, rfl, trivial, trivial⟩), (CallOK.ren c1 [(0, 255)] [0] rfl rfl rfl rfl ⟨rfl, trivial, trivial⟩ rfl ⟨rfl, trivial, trivial⟩), (CallOK.ren r1 [(0, 255)] [0] rfl rfl rfl rfl ⟨rfl, trivial, trivial⟩ rfl ⟨rfl, trivial, trivial⟩), (CallOK.ren c2 [(0, 255)] [0] rfl rfl rfl rfl ⟨rfl, trivial, trivial⟩ rfl ⟨rfl, trivial, trivial⟩), (CallOK.ren r2 [(0, 255)] [0] rfl rfl rfl rfl ⟨rfl, trivial, trivial⟩ rfl ⟨rfl, trivial, trivial⟩), trivial⟩ rfl trivial trivial rfl
end Go.Proofs.Ytbgbjgedjmhcaaa
namespace Go.Proofs.Ytbgbjgedjmhcaaa
open Go.RowKit
structure Tn where
  i : Nat
  k : OldD.Dk
  v : Nat → Int
  c : Nat
  o : Option (Int × ByteArray)
structure TnOK (N R n len : Nat) (s : Tn) : Prop where
  hi : s.i ≤ n
  q : Q1 s.k N s.c s.v s.v 0 (fun _ => False)
  hc : s.c ≤ 1002 * s.i
  vw : Vw s.v N
  at' : At s.v R 0 s.o
  ln : lnR s.o ≤ len
end Go.Proofs.Ytbgbjgedjmhcaaa
namespace Go.Proofs.Ytbgbjgedjmhcaaa
open Go.RowKit
open OldD (DA Dk Co fp Gr Row Fresh hid hd hs gu nk good ldK ge vu Ar un stF chk3 chk4 rdV wrE wrK flK)
set_option maxRecDepth 10000
def enc8 (z : Int) : List AV := [.val (.int .u8 z)]
theorem IsRow.factsB {W : World} {a : Option Addr} {len cap : Nat} {z : List Int} (h : IsRow .u8 W a len cap z) : len ≤ cap ∧ (z.take len).length = len ∧ len ≤ 9223372036854775807 ∧ ∀ x ∈ z.take len, 0 ≤ x ∧ x ≤ 255 := by
  rcases h with ⟨rfl, rfl, rfl, rfl⟩ | ⟨x, rfl, hl, hm, hz, hcell, hwz⟩
  · exact ⟨Nat.le_refl _, rfl, by omega, fun x hx => by simp at hx⟩
  · refine ⟨hl, ?_, ?_, fun n hn => ?_⟩
    · rw [List.length_take]; omega
    · unfold maxLen at hm; omega
    · have := hwz n (List.mem_of_mem_take hn)
      simp [Lit.wf, IntKind.min, IntKind.max, IntKind.signed, IntKind.bits] at this
      omega
theorem IsRow.roB {W : World} {a : Option Addr} {len cap : Nat} {z : List Int} {E : Env} {id : Nat} (h : IsRow .u8 W a len cap z) (hE : E id = some (inE a cap)) : Holds E W id (.ro 1 (z.take len).length (rowG enc8 (z.take len))) ∧ RV E (.sl id 0 1 (z.take len).length none) (.slice a len cap) := by
  obtain ⟨hlc, hlen, _, _⟩ := h.factsB
  rcases h with ⟨rfl, rfl, rfl, rfl⟩ | ⟨x, rfl, hl, hm, hz, hcell, hwz⟩
  · refine ⟨⟨none, 0, [], hE, rfl, .inl ⟨rfl, rfl, rfl⟩, (fun u hu => by cases hu), fun q hq => by simp at hq⟩, none, 0, hE, ?_⟩
    exact ⟨none, rfl, rfl, rfl⟩
  · rw [hlen]
    by_cases h0 : cap = 0
    · subst h0
      obtain rfl : len = 0 := by omega
      have hE' : E id = some (none, 0) := hE
      refine ⟨⟨none, 0, [], hE', rfl, .inl ⟨rfl, rfl, rfl⟩, (fun u hu => by cases hu), fun q hq => by omega⟩, none, 0, hE', ?_⟩
      exact ⟨_, rfl, rfl, rfl⟩
    · have hE' : E id = some (some x, cap) := by rw [hE, inE, if_neg h0]
      have hspot : x.spot = none := by
        have hc := hcell 0 (by omega)
        obtain ⟨b, off, spot⟩ := x
        simpa [Addr.add] using World.cell?_spot hc
      have hb : x.block < W.heap.size := by
        have hc := hcell 0 (by omega)
        rw [addr_plus, if_pos rfl] at hc
        exact block_lt_of_cell hc
      obtain ⟨b, off, spot⟩ := x
      dsimp only at hspot hb
      subst hspot
      have ht : ∀ q, q < len → (z.take len).getD q default = z.getD q 0 := fun q hq => by
        rw [List.getD_eq_getElem?_getD, List.getElem?_take, if_pos hq, List.getD_eq_getElem?_getD]
        rfl
      refine ⟨⟨some ⟨b, off, none⟩, cap, (z.take len).map (fun n => Value.int .u8 n), hE', by rw [List.length_map, hlen, Nat.mul_one], .inr ⟨_, rfl, hb, hl, fun j u hu => ?_⟩, fun u hu => ?_, fun q hq => ?_⟩, some ⟨b, off, none⟩, cap, hE', ⟨off, cap, rfl, hl, by omega, fun _ => by simp, by simp⟩⟩
      · rw [List.getElem?_map] at hu
        cases hz' : (z.take len)[j]? with
        | none => rw [hz'] at hu; simp at hu
        | some n =>
          rw [hz'] at hu
          simp only [Option.map_some, Option.some.injEq] at hu
          subst hu
          have hj : j < len := by
            have := (List.getElem?_eq_some_iff.1 hz').1
            omega
          have hc := hcell j (by omega)
          have e : z.getD j 0 = n := by rw [← ht j hj, List.getD_eq_getElem?_getD, hz']; rfl
          rw [e, addr_plus] at hc
          by_cases e0 : j = 0
          · subst e0; simpa using hc
          · rw [if_neg e0] at hc; exact hc
      · obtain ⟨n, _, rfl⟩ := List.mem_map.1 hu
        rfl
      · unfold cellsAt rowG enc8
        have hq' : q < (z.take len).length := by omega
        rw [Nat.mul_one, List.drop_eq_getElem_cons (by simpa using hq')]
        have : (z.take len).getD q default = (z.take len)[q] := by rw [List.getD_eq_getElem?_getD, List.getElem?_eq_getElem hq']; rfl
        rw [this]
        simp [RVs, RV]
end Go.Proofs.Ytbgbjgedjmhcaaa
namespace Go.Proofs.Ytbgbjgedjmhcaaa
open Go.RowKit Go.ChangeShapes Go.WideShapes
open OldD (Dk)
set_option maxRecDepth 10000
def encS (t : ByteArray) : List AV := [S t]
def Ss (W : World) (a : Option Addr) (cap : Nat) (L : List ByteArray) : Prop := L.length ≤ cap ∧ (cap = 0 ∨ ∃ b o, a = some ⟨b, o, none⟩ ∧ b < W.heap.size ∧ ∀ i, i < L.length → W.cell? ⟨b, o + i, none⟩ = some (.string (L.getD i default)))
theorem Ss.row {W : World} {a : Option Addr} {cap : Nat} {L : List ByteArray} (h : Ss W a cap L) (hm : L.length ≤ 9223372036854775807) (id : Nat) :
    ∃ E : Env, RH E [(id, .ro 1 L.length (rowG encS L))] W ∧ RV E (.sl id 0 1 L.length none) (.slice a L.length cap) := by
  obtain ⟨hlc, h⟩ := h
  have key : ∃ E : Env, Holds E W id (.ro 1 L.length (rowG encS L)) ∧ RV E (.sl id 0 1 L.length none) (.slice a L.length cap) := by
    rcases h with rfl | ⟨b, off, rfl, hb, hcell⟩
    · have hl0 : L.length = 0 := by omega
      have hE : (fun i => if i = id then some ((none : Option Addr), 0) else none : Env) id = some (none, 0) := by simp
      rw [hl0]
      exact ⟨fun i => if i = id then some ((none : Option Addr), 0) else none, ⟨none, 0, [], hE, rfl, .inl ⟨rfl, rfl, rfl⟩, (fun u hu => by cases hu), fun q hq => by omega⟩, none, 0, hE, ⟨_, rfl, rfl, rfl⟩⟩
    · by_cases h0 : cap = 0
      · subst h0
        have hl0 : L.length = 0 := by omega
        have hE : (fun i => if i = id then some ((none : Option Addr), 0) else none : Env) id = some (none, 0) := by simp
        rw [hl0]
        exact ⟨fun i => if i = id then some ((none : Option Addr), 0) else none, ⟨none, 0, [], hE, rfl, .inl ⟨rfl, rfl, rfl⟩, (fun u hu => by cases hu), fun q hq => by omega⟩, none, 0, hE, ⟨_, rfl, rfl, rfl⟩⟩
      · have hE : (fun i => if i = id then some (some (⟨b, off, none⟩ : Addr), cap) else none : Env) id = some (some ⟨b, off, none⟩, cap) := by simp
        refine ⟨fun i => if i = id then some (some (⟨b, off, none⟩ : Addr), cap) else none, ⟨some ⟨b, off, none⟩, cap, L.map Value.string, hE, by rw [List.length_map, Nat.mul_one], .inr ⟨_, rfl, hb, hlc, fun j u hu => ?_⟩, fun u hu => ?_, fun q hq => ?_⟩, some ⟨b, off, none⟩, cap, hE, ⟨off, cap, rfl, hlc, by omega, fun _ => by simp, by simp⟩⟩
        · rw [List.getElem?_map] at hu
          cases hz' : L[j]? with
          | none => rw [hz'] at hu; simp at hu
          | some n =>
            rw [hz'] at hu
            simp only [Option.map_some, Option.some.injEq] at hu
            subst hu
            have hj : j < L.length := (List.getElem?_eq_some_iff.1 hz').1
            have hc := hcell j hj
            rw [List.getD_eq_getElem?_getD, hz'] at hc
            exact hc
        · obtain ⟨n, _, rfl⟩ := List.mem_map.1 hu
          rfl
        · unfold cellsAt rowG encS
          rw [Nat.mul_one, List.drop_eq_getElem_cons (by simpa using hq)]
          have : L.getD q default = L[q] := by rw [List.getD_eq_getElem?_getD, List.getElem?_eq_getElem hq]; rfl
          rw [this]
          simp [RVs, RV]
  obtain ⟨E, k1, k2⟩ := key
  refine ⟨E, RH.ros (fun id o ho => ?_) (fun id o ho => ?_), k2⟩
  · obtain ⟨rfl, rfl⟩ := find_one ho; exact k1
  · obtain ⟨rfl, rfl⟩ := find_one ho; rfl
def kept : ByteArray := ⟨#[107, 101, 112, 116]⟩
structure Kp where
  i : Nat
  k : OldD.Dk
  v : Nat → Int
  c : Nat
  l : ByteArray
structure KpOK (n : Nat) (s : Kp) : Prop where
  hi : s.i ≤ n
  q : Q1 s.k 30 s.c s.v s.v 0 (fun _ => False)
  hc : s.c ≤ 1002 * (s.i + 2)
  vw : Vw s.v 30
  a0 : At s.v 28 0 (some (1, kept))
  a1 : At s.v 28 1 (some ((s.i : Int) + 1, s.l))
end Go.Proofs.Ytbgbjgedjmhcaaa
namespace Go.Proofs.Ytbgbjgedjmhcaaa
open Go.RowKit Go.ChangeShapes Go.WideShapes Go.ChangeAt
open OldD (DA Dk Co fp Gr Row Fresh hid hd hs gu nk good ldK ge vu Ar un stF chk3 chk4 rdV wrE wrK flK)
set_option maxRecDepth 10000
end Go.Proofs.Ytbgbjgedjmhcaaa
namespace Go.Proofs.Ytbgbjgedjmhcaaa.OldD
open Go.ChangeShapes Go.WideShapes Go.ChangeAt Go.RowKit
set_option maxRecDepth 100000
def RoR (w : World) (x : Addr) (X : List Int) : Prop := x.block < w.heap.size ∧ ∀ j u, (vu X)[j]? = some u → w.cell? (x.add j) = some u
theorem add_block (x : Addr) (j : Nat) : (x.add j).block = x.block := by
  rw [addr_plus]
  split <;> rfl
theorem RoR.gr {w w' : World} {x : Addr} {X : List Int} {S : List Nat} (h : RoR w x X) (hg : Gr S w w') (hn : x.block ∉ S) : RoR w' x X :=
  ⟨Nat.lt_of_lt_of_le h.1 hg.size, fun j u hu => (hg.cell (p := x.add j) (by rw [add_block]; exact h.1) (by rw [add_block]; exact hn)).trans (h.2 j u hu)⟩
theorem Row.copyRo {w : World} {p cp cq : Nat} {x : Addr} {D N : List Int} (hD : Row w p cp D) (hN : RoR w x N) (hl : D.length = N.length) (h1 : 1 ≤ N.length) (ty : TypeId) :
    ∃ w', (Builtin.copy_ #[25, 25] ty #[.slice (some ⟨p, 0, none⟩) N.length cp, .slice (some x) N.length cq]).run Try.prog w = .ok (goInt N.length) w' ∧ Row w' p cp N ∧ Gr [p] w w' := by
  rcases hD.2 with ⟨h2, _⟩ | ⟨g, cap, cur, h2, hb, hg, hnc, hcm, hcs, htake⟩
  · simp at h2
  · simp only [Value.slice.injEq, Option.some.injEq, Addr.mk.injEq, and_true, true_and] at h2
    obtain ⟨rfl, rfl⟩ := h2
    have hvl := vu_len N
    have hrun := run_copy_row (P := Try.prog) w 25 25 ty 22 p 0 N.length cp x N.length cq cur 22 (vu N) Try.underlying25 (by kernel_rfl) hg (by rw [hvl]; simp) hN.2 (by rw [hvl, hcs]; omega) (one_vu N)
    rw [hvl] at hrun
    refine ⟨_, hrun, ⟨by rw [hvl]; omega, .inr ⟨p, cp, _, rfl, hb, setRow_heap _ _ _ _ _ _ hg, by omega, hcm, ?_, ?_⟩⟩, ?_⟩
    · simp [hvl]; omega
    · rw [List.toList_toArray, Nat.mul_one]
      rw [List.take_zero, List.nil_append, List.take_left' hvl]
    · exact ⟨rfl, rfl, rfl, by simp [World.setRow], fun k hk hn => setRow_other _ _ _ _ (by intro e; apply hn; rw [e]; simp)⟩
end Go.Proofs.Ytbgbjgedjmhcaaa.OldD
namespace Go.Proofs.Ytbgbjgedjmhcaaa
set_option maxRecDepth 10000
open OldD (RoR DA Dk Co fp Gr Row Fresh hid hd hs gu nk good ldK ge vu Ar un stF chk3 chk4 rdV wrE wrK flK)
end Go.Proofs.Ytbgbjgedjmhcaaa
namespace Go.Proofs.Ytbgbjgedjmhcaaa
open Go.RowKit
open OldD (TK TS RoU Sc Gr Row own_gr own_lt ck sf up upto pFail pFlush ck_at lt_mul ge hid)
structure SK (W : World) (b n : Nat) (G : Nat → Nat × Nat) (f : Nat → Sc) : Prop where
  row : ∃ cr, W.ownsRow 0 179 3 (.slice (some ⟨b, 0, none⟩) n cr) n (ck 3 n (sf G f))
  inn : ∀ i, i < n → Row W (G i).1 (G i).2 (f i).S
  sep : ∀ i, i < n → (G i).1 ≠ b
  lim : n ≤ 1000
theorem SK.heq {W W' : World} {b n : Nat} {G : Nat → Nat × Nat} {f : Nat → Sc} (e : W'.heap = W.heap) (h : SK W b n G f) : SK W' b n G f :=
  ⟨by obtain ⟨cr, h1⟩ := h.row; exact ⟨cr, own_heq e h1⟩, fun i hi => own_heq e (h.inn i hi), h.sep, h.lim⟩
theorem SK.gr {W W' : World} {b n : Nat} {G : Nat → Nat × Nat} {f : Nat → Sc} {S : List Nat} (h : SK W b n G f) (hg : Gr S W W') (h2 : b ∉ S) (h3 : ∀ i, i < n → (G i).1 ∉ S) : SK W' b n G f :=
  ⟨by obtain ⟨cr, h1⟩ := h.row; exact ⟨cr, own_gr h1 hg (fun g hg => by cases hg; exact h2)⟩, fun i hi => (h.inn i hi).gr hg (h3 i hi), h.sep, h.lim⟩
theorem SK.lt {W : World} {b n : Nat} {G : Nat → Nat × Nat} {f : Nat → Sc} (h : SK W b n G f) : b < W.heap.size := by obtain ⟨cr, h1⟩ := h.row; exact own_lt h1
theorem SK.uniq {W : World} {b n : Nat} {G G' : Nat → Nat × Nat} {f f' : Nat → Sc} (h : SK W b n G f) (h' : SK W b n G' f') (i : Nat) (hi : i < n) : (G' i).1 = (G i).1 := by
  obtain ⟨c1, h1⟩ := h.row
  obtain ⟨c2, h2⟩ := h'.row
  have e1 : W.cell? ⟨b, i * 3 + 0, none⟩ = _ := (World.ownsRow.cellAt h1 _ (lt_mul (j := 0) hi (by omega))).trans (ck_at (j := 0) _ hi (by omega))
  have e2 : W.cell? ⟨b, i * 3 + 0, none⟩ = _ := (World.ownsRow.cellAt h2 _ (lt_mul (j := 0) hi (by omega))).trans (ck_at (j := 0) _ hi (by omega))
  rw [e1] at e2
  simp [sf] at e2
  exact e2.1.symm
end Go.Proofs.Ytbgbjgedjmhcaaa
namespace Go.Proofs.Ytbgbjgedjmhcaaa
open Go.RowKit
open OldD (TK TS RoU Sc Gr Row KB DA Dk fp Fresh reK own_gr own_lt ck sf up upto pFail pFlush ck_at lt_mul ge hid)
theorem own_rowG {E : Env} {W : World} {id ty n : Nat} {row : Nat → List AV} {c : Value} (h1 : 1 ≤ n) (hh : Holds E W id (.vec ty 1 n row)) (hc : RV E (.sl id 0 1 n none) c) :
    ∃ g cg, c = .slice (some ⟨g, 0, none⟩) n cg ∧ g < W.heap.size ∧ Foot E W id (.vec ty 1 n row) g ∧ ∀ j, j < n → ∃ v, RVs E (row j) [v] ∧ W.cell? ⟨g, j, none⟩ = some v := by
  obtain ⟨b, k, xs, g1, g2, g3, g4⟩ := hh
  simp only [RV] at hc
  obtain ⟨b2, k2, h6, h7⟩ := hc
  rw [g1] at h6
  simp only [Option.some.injEq, Prod.mk.injEq] at h6
  obtain ⟨rfl, rfl⟩ := h6
  obtain ⟨g, rfl⟩ := OldD.own_pos g2 (by omega)
  obtain ⟨o, m, rfl, h8, h9, h10, h11⟩ := h7
  have : m = k := by simpa using h11
  subst this
  have ho : o = 0 := by have := h10 (by omega); simpa using this
  subst ho
  refine ⟨g, m, rfl, OldD.own_lt g2, by simp [Foot, Ob.bx, FootB, blkOf, g1], fun j hj => ?_⟩
  have hl : xs.length = n := by have := g2.1; omega
  have hj2 : j < xs.length := by omega
  refine ⟨xs[j], ?_, ?_⟩
  · have := g4 j hj
    simp only [cellsAt, Nat.mul_one] at this
    rwa [List.drop_eq_getElem_cons hj2, List.take_succ_cons, List.take_zero] at this
  · rw [World.ownsRow.cellAt g2 j (by omega)]
    exact List.getElem?_eq_getElem hj2
def encB (b : Bool) : List AV := [B b]
theorem restart_c (m : Nat) (k : Dk) (L : List Bool) (h1 : 1 ≤ L.length) (h2 : L.length ≤ 1000) (hF : k.F.length ≤ 2 ^ 32) :
    CallOK Try.prog 31 [.ptr 0 0 0 0, .sl 1 0 1 L.length none] [(0, .box (dbox m k)), (1, .vec 4 1 L.length (rowG encB L))] (.tup []) [(0, some (.box (dbox m (reK k (fun i => L.getD i false)))))] := by
  refine ⟨Try.call31, fun E W cs hcs rh _ => ?_⟩
  simp only [RVs, RV] at hcs
  obtain ⟨y, l, rfl, ⟨a0, k0, e0, rfl⟩, y3, l3, rfl, hs3, rfl⟩ := hcs
  obtain ⟨A, co, kk, e1, e2, e3, e4, e5⟩ := dbox_open (rh.holds 0 _ rfl) (c := .pointer (some ⟨a0.block, a0.off + (0 * 0 + 0), none⟩)) (by simp only [RV]; exact ⟨a0, k0, e0, rfl⟩)
  obtain ⟨g, cg, rfl, hg, hfg, hcell⟩ := own_rowG h1 (rh.holds 1 _ rfl) (by simp only [RV]; exact hs3)
  rw [e1]
  have hK : KB W (fp A co) (some ⟨g, 0, none⟩) L.length (fun i => L.getD i false) := ⟨.inr ⟨g, rfl, hg, fun hm => rh.apart 0 1 _ _ rfl rfl (by decide) rfl g ((e5 g).2 hm) hfg, fun i hi => by
      obtain ⟨v, v1, v2⟩ := hcell i hi
      simp only [rowG, encB, B, RVs, RV] at v1
      obtain ⟨y, l, e6, rfl, rfl⟩ := v1
      simp only [List.cons.injEq, and_true] at e6
      rw [v2, e6]
      simp [List.getD_eq_getElem?_getD, List.getElem?_eq_getElem hi]⟩, fun i hi => by simp [List.getD_eq_getElem?_getD, List.getElem?_eq_none hi]⟩
  refine (OldD.restart_ok e3 (some ⟨g, 0, none⟩) L.length cg _ hK (by omega) hF).mono ?_
  rintro e W' ⟨rfl, HH⟩
  obtain ⟨q1, q2⟩ := box_step (m' := m) rh rfl e2 e5 HH.out.1 e4 HH.out.2 (fun x hx => by
    rcases OldD.fp_cases hx with rfl | rfl | hb | hb | ⟨i, hi, hb⟩
    · exact .inl OldD.fp_A
    · exact .inl OldD.fp_m
    · exact .inl (OldD.fp_u hb)
    · cases hb
    · rcases hb with rfl | rfl
      · exact .inl (OldD.fp_n hi)
      · exact .inl (OldD.fp_d hi))
  exact ⟨_, E, rfl, Ext.refl E, by simp [RV, RVs], q1, q2⟩
end Go.Proofs.Ytbgbjgedjmhcaaa
namespace Go.Proofs.Ytbgbjgedjmhcaaa
open Go.RowKit
set_option maxRecDepth 10000
def kpB (w : Int) (i : Nat) : Bool := decide (bitsV .and .u64 (w / 2 ^ ((i : Int) % 64).toNat) 1 = 1)
theorem bits0 (x : Int) : 0 ≤ bitsV .and .u64 x 1 ∧ bitsV .and .u64 x 1 < 18446744073709551616 := by
  show 0 ≤ (((BitVec.ofInt 64 x &&& BitVec.ofInt 64 1).toNat : Nat) : Int) ∧ (((BitVec.ofInt 64 x &&& BitVec.ofInt 64 1).toNat : Nat) : Int) < 18446744073709551616
  have := (BitVec.ofInt 64 x &&& BitVec.ofInt 64 1).isLt
  omega
def kpL (w : Int) (i : Nat) : List Bool := (List.range i).map (kpB w)
theorem kpL_len (w : Int) (i : Nat) : (kpL w i).length = i := by simp [kpL]
theorem kpL_succ (w : Int) (i : Nat) : kpL w (i + 1) = kpL w i ++ [kpB w i] := by simp [kpL, List.range_succ]
theorem keep_any (w : Int) : CallOK Try.prog 32 [U w] [] (.sl 10 0 1 192 none) [(10, some (.vec 4 1 192 (rowG encB (kpL w 192))))] := by
  refine CallOK.intro Try.call32 Try.func32 rfl rfl trivial ?_
  refine Safe.withLoop (loopAt Try.f32 0) [20] 19 (fun i : Nat => [(0, U w), (3, .sl 20 0 1 (kpL w i).length none), (4, I i)]) (fun i => [(20, .vec 4 1 (kpL w i).length (rowG encB (kpL w i)))]) (fun i => i ≤ 192) (fun i => 192 - i) ?_ ?_
  · intro i hi ih
    have hl := kpL_len w i
    by_cases hlt : i < 192
    · have hlt2 : (i : Int) < 192 := by omega
      have hm : 0 ≤ (i : Int).tmod 64 ∧ (i : Int).tmod 64 < 64 := ⟨Int.tmod_nonneg _ (by omega), Int.tmod_lt_of_pos _ (by omega)⟩
      have hb0 := bits0 (w / 2 ^ ((i : Int) % 64).toNat)
      refine Safe.goto mixed 11 [⟨1100, [(1, .tt true)]⟩, ⟨1200, []⟩, ⟨1300, []⟩] [0, 3, 4] [1208] (todo' := loopAt Try.f32 0) (sl := slotsOf 19 [(0, .val (Value.int IntKind.u64 w)), (3, .sl 1208 0 1 (addN (kpL w i).length (1 : Nat)) none), (4, I ((↑i : Int) + (1 : Int)))]) (hp := [(1208, .vec 4 1 (addN (kpL w i).length (1 : Nat)) (catR (kpL w i).length (rowG encB (kpL w i)) (rowsOf [AV.val (Value.bool (decide (bitsV BinOp.and IntKind.u64 (w / (2 : Int) ^ ((↑i : Int) % (64 : Int)).toNat) (1 : Int) = (1 : Int))))] (1 : Nat))))]) (ob := [decide ((↑i : Int) < (192 : Int)) = true, (0 : Int) ≤ (↑i : Int) ∧ (0 : Int) < (64 : Int), (0 : Int) ≤ (↑i : Int) % (64 : Int) ∧ (↑i : Int) % (64 : Int) ≤ (↑IntKind.u64.bits : Int), inK IntKind.u64 (bitsV BinOp.and IntKind.u64 (w / (2 : Int) ^ ((↑i : Int) % (64 : Int)).toNat) (1 : Int)), (0 : Nat) + (1 : Nat) ≤ (1 : Nat), (kpL w i).length = (kpL w i).length, (kpL w i).length + (1 : Nat) ≤ (1099511627776 : Nat), inK IntKind.i64 ((↑i : Int) + (1 : Int))]) rfl rfl (by kernel_rfl) ⟨(decide_eq_true hlt2), (by omega), (by first | decide | (simp only [Go.IntKind.bits]; omega)), (by simp only [inK]; omega), (by omega), (by omega), (by omega), (by simp only [inK]; omega), trivial⟩ rfl ⟨rfl, (fun q => by first | exact closed_cat (fun _ => rfl) (closed_rows rfl) q | (split <;> rfl)), trivial⟩ ?_
      refine Safe.ren [(1208, 20)] rfl rfl rfl rfl ⟨rfl, (fun q => by first | exact closed_cat (fun _ => rfl) (closed_rows rfl) q | (split <;> rfl)), trivial⟩ ?_
      · skip
        have e2 : addN (kpL w i).length 1 = (kpL w (i + 1)).length := by rw [addN_eq, kpL_len, kpL_len]
        rw [e2]
        refine Safe.leH (ih (i + 1) (by omega) (by omega)) rfl (SlLe.refl _) ⟨?_, trivial⟩ rfl ⟨rfl, fun _ => rfl, trivial⟩
        rw [kpL_succ]
        exact ob_ren_one encB (kpL w i) (kpB w i) _ (by simp) (fun _ => rfl) rfl
    · have hn : ¬ (i : Int) < 192 := by omega
      obtain rfl : i = 192 := by omega
      refine Safe.gotoE mixed 7 [⟨1100, []⟩, ⟨1200, []⟩] [2] [20] (sl := slotsOf 19 [(2, .sl 20 0 1 ((kpL w (192 : Nat)).length) none)]) (hp := [(20, .vec 4 1 ((kpL w (192 : Nat)).length) (rowG encB (kpL w (192 : Nat))))]) (ob := []) rfl rfl (by kernel_rfl) trivial rfl ⟨rfl, fun _ => rfl, trivial⟩ fun td htd => ?_
      refine Safe.ren [(20, 10)] rfl rfl rfl rfl ⟨rfl, fun _ => rfl, trivial⟩ ?_
      refine Safe.endsT Try.func32 htd (r := .sl 10 0 1 ((kpL w (192 : Nat)).length) none) (hp := [(10, .vec 4 1 ((kpL w (192 : Nat)).length) (fun q => renL [((20 : Nat), (10 : Nat))] (rowG encB (kpL w (192 : Nat)) q)))]) (ob := []) rfl (by kernel_rfl) trivial ?_ ⟨?_, trivial⟩ ⟨rfl, fun _ => rfl, trivial⟩ rfl
      · rw [kpL_len]; rfl
      · rw [kpL_len]; exact ⟨rfl, rfl, rfl, fun _ _ => rfl⟩
  · intro H
    refine Safe.goto mixed 9 [⟨100, []⟩, ⟨200, []⟩, ⟨300, []⟩] [0, 3, 4] [] (todo' := loopAt Try.f32 0) (sl := slotsOf 19 [(0, .val (Value.int IntKind.u64 w)), (3, .val (Value.slice none (0 : Nat) (0 : Nat))), (4, I 0)]) (hp := []) (ob := []) rfl rfl (by kernel_rfl) trivial rfl trivial ?_
    · refine Safe.nil 3 20 4 1 (rowG encB []) rfl rfl trivial ?_ rfl
      exact Safe.leH (H 0 (Nat.zero_le _)) rfl (SlLe.refl _) ⟨⟨rfl, rfl, rfl, fun _ _ => rfl⟩, trivial⟩ rfl ⟨rfl, fun _ => rfl, trivial⟩
end Go.Proofs.Ytbgbjgedjmhcaaa
namespace Go.Proofs.Ytbgbjgedjmhcaaa
open Go.RowKit
open OldD (Dk Un gu chk3 reK)
set_option maxRecDepth 10000
structure Way (k0 : Dk) (F w e : Int) (lab : Bool) (Op : Int → Dk → Dk → Prop) : Prop where
  way : ∃ k2 : Dk, Op e { k0 with fuse := max F 0 } k2 ∧ k2.F.length ≤ 2 ^ 32 ∧ ∃ c, Gk (reK k2 (fun i => (kpL w 192).getD i false)) 1 (fun _ => 20) c ∧
    CallOK Try.prog 23 [.ifc 170 (.agg [.ptr 0 0 0 0, I 0, I 0, I 20])] [(0, .box (dbox 0 (reK k2 (fun i => (kpL w 192).getD i false))))]
      (match lab with | true => .tup [.agg [U 9, I 20, I 8, I 12, U 3], I 0] | false => .tup [noL, I 2]) [(0, some (.box (dbox 0 (reK k2 (fun i => (kpL w 192).getD i false)))))]
theorem q1_fuse {k : Dk} {N c : Nat} {v w : Nat → Int} {f : Int} {T : Nat → Prop} (h : Q1 k N c v w f T) (F : Int) (hF : 0 ≤ F ∧ F ≤ 1000) : Q1 { k with fuse := max F 0 } N c v w F T := by
  refine ⟨⟨h.g.ul, h.g.ln, h.g.ms, h.g.bd, ?_, h.g.FI, h.g.fl, h.g.wr, h.g.ap⟩, h.dn, ?_, h.nv, h.dv, h.ft⟩
  · show 0 ≤ max F 0 ∧ max F 0 ≤ 1000000
    omega
  · show max F 0 = F
    omega
theorem kp192 (w : Int) : (kpL w 192).length = 192 := kpL_len w 192
theorem rs192 (k : Dk) (w : Int) (hF : k.F.length ≤ 2 ^ 32) : CallOK Try.prog 31 [.ptr 0 0 0 0, .sl 1 0 1 192 none] [(0, .box (dbox 0 k)), (1, .vec 4 1 192 (rowG encB (kpL w 192)))] (.tup []) [(0, some (.box (dbox 0 (reK k (fun i => (kpL w 192).getD i false)))))] := by
  have := restart_c 0 k (kpL w 192) (by rw [kp192]; omega) (by rw [kp192]; omega) hF
  rw [kp192] at this
  exact this
end Go.Proofs.Ytbgbjgedjmhcaaa
namespace Go.Proofs.Ytbgbjgedjmhcaaa
open Go.RowKit
open OldD (Dk reK)
set_option maxRecDepth 10000
theorem wordS_any (z : List Int) (m p : Nat) (T : List ByteArray) (hm : m ≤ 1000) (hz : m ≤ z.length) (hp : p ≤ m) (hT : 1 ≤ T.length ∧ T.length ≤ 1000) : CallOK Try.prog 47 [.ptr 0 0 0 0, .sl 2 0 1 T.length none] [(0, .blk 139 [.sl 1 0 1 m none, I p]), (1, .ro 1 z.length (rowG encI z)), (2, .ro 1 T.length (rowG encS T))] (S (T.getD (nV z m p T.length).toNat default)) [(0, some (.blk 139 [.sl 1 0 1 m none, I (nA m p T.length)]))] := by
  refine CallOK.intro Try.call47 Try.func47 rfl rfl ⟨rfl, rfl, rfl, fun _ => rfl, rfl, fun _ => rfl, trivial⟩ ?_
  have h1 := nV_bd z m p T.length (by omega)
  have nn := n_any z m p (T.length : Int) hm hz hp (by omega)
  have e8 : rowG encS T (nV z m p T.length).toNat = [S (T.getD (nV z m p T.length).toNat default)] := rfl
  refine Safe.ends mixed Try.func47 4 [⟨1100, []⟩, ⟨1200, [(4, .call [0, 1] (I (nV z m p (↑T.length : Int))) [(0, some (.blk 139 [.sl 1 0 1 m none, I ((↑(nA m p (↑T.length : Int)) : Int))]))])]⟩] (r := S (T.getD (nV z m p (↑T.length : Int)).toNat default)) (hp := [(0, .blk 139 [.sl 1 0 1 m none, I ((↑(nA m p (↑T.length : Int)) : Int))]), (1, .ro 1 z.length (rowG encI z)), (2, .ro 1 T.length (rowG encS T))]) (ob := [CallOK Try.prog (46 : Nat) ([] ++ [AV.ptr 0 0 0 0, AV.val (Value.int IntKind.i64 (↑T.length : Int))] ++ []) [((0 : Nat), Ob.blk (139 : Nat) [AV.sl 1 0 1 m none, AV.val (Value.int IntKind.i64 (↑p : Int))]), ((1 : Nat), Ob.ro (1 : Nat) z.length (rowG encI z))] (AV.val (Value.int IntKind.i64 (nV z m p (↑T.length : Int)))) [((0 : Nat), some (Ob.blk (139 : Nat) [AV.sl 1 0 1 m none, AV.val (Value.int IntKind.i64 (↑(nA m p (↑T.length : Int)) : Int))]))], (0 : Int) ≤ nV z m p (↑T.length : Int) ∧ nV z m p (↑T.length : Int) < (↑T.length : Int), (nV z m p (↑T.length : Int)).toNat < T.length]) rfl (by kernel_rfl) ⟨nn, (by omega), (by omega), trivial⟩ rfl ⟨ObLe.refl _, ObLe.refl _, ObLe.refl _, trivial⟩ ⟨rfl, rfl, rfl, fun _ => rfl, rfl, fun _ => rfl, trivial⟩ rfl
def txs : List ByteArray := [⟨#[97]⟩, ⟨#[101, 105, 103, 104, 116, 32, 98, 121]⟩, ⟨#[115, 111, 109, 101, 32, 108, 111, 110, 103, 101, 114, 32, 116, 101, 120, 116]⟩, ⟨#[118, 103, 32, 123, 32, 125]⟩, ⟨#[]⟩]
theorem txs_size (i : Nat) : (txs.getD i default).size ≤ 16 := by
  match i with
  | 0 | 1 | 2 | 3 | 4 => decide
  | i + 5 => exact (by decide : (default : ByteArray).size ≤ 16)
abbrev txA : List AV := [S ⟨#[97]⟩, S ⟨#[101, 105, 103, 104, 116, 32, 98, 121]⟩, S ⟨#[115, 111, 109, 101, 32, 108, 111, 110, 103, 101, 114, 32, 116, 101, 120, 116]⟩, S ⟨#[118, 103, 32, 123, 32, 125]⟩, S ⟨#[]⟩]
theorem word5 (z : List Int) (m p : Nat) (hm : m ≤ 1000) (hz : m ≤ z.length) (hp : p ≤ m) : CallOK Try.prog 47 [.ptr 0 0 0 0, .sl 2 0 1 5 none] [(0, .blk 139 [.sl 1 0 1 m none, I p]), (1, .ro 1 z.length (rowG encI z)), (2, .ro 1 5 (rowsOf txA 1))] (S (txs.getD (nV z m p 5).toNat default)) [(0, some (.blk 139 [.sl 1 0 1 m none, I (nA m p 5)]))] := by
  have w := wordS_any z m p txs hm hz hp (by decide)
  rw [show txs.length = 5 from rfl, show ((5 : Nat) : Int) = 5 from rfl] at w
  have hr : ∀ q, q < 5 → rowG encS txs q = rowsOf txA 1 q := fun q hq => by
    match q, hq with
    | 0, _ | 1, _ | 2, _ | 3, _ | 4, _ => rfl
    | q + 5, h => omega
  refine w.sim fun id => ?_
  simp only [find]
  split
  · exact OSim.refl _
  · split
    · exact OSim.refl _
    · split
      · exact ⟨⟨rfl, rfl, fun q hq => hr q hq⟩, ⟨rfl, rfl, fun q hq => (hr q hq).symm⟩⟩
      · exact OSim.refl _
theorem prep_sp (m : Nat) {k : Dk} {N R c : Nat} {v : Nat → Int} {f : Int} (q : Q1 k N c v v f (fun _ => False)) (hc : c ≤ 60000) (hN : 4 ≤ N ∧ N ≤ 1000) (hR : R + 2 = N) (vw : Vw v N) {o : Option (Int × ByteArray)} (h : At v R 0 o) (sq : Int) (hq : 1 ≤ sq ∧ sq ≤ 1048575) (t : ByteArray) (ht : t.size ≤ 8192) (hs : ¬ lnR o + ln t.size ≤ R) :
    CallOK Try.prog 53 [spn N, I sq, S t] [(0, .box (dbox m k))] (I 14) [(0, some (.box (dbox m k)))] := by
  have hl := textW_len t
  have hb := ln_bd t.size
  cases o with
  | none =>
    have h : v 0 = 0 := h
    have hs : ¬ 0 + ln t.size ≤ R := hs
    exact prep_space m k N R sq t hN hR hq ht 0 0 (by omega) (behind_none m k N R q.g q.dn hN ((q.nv 0 (by omega)).trans h)) (by omega)
  | some x =>
    have h' := h
    obtain ⟨h1, h2, h3⟩ := h
    have hs : ¬ ln x.2.size + ln t.size ≤ R := hs
    have hn2 := h3.len
    obtain ⟨k1, k2, k3⟩ := q.at hR (by omega) (show 0 < N by omega) h'
    have bh := behind_ok m k N R q.g q.dn hN hR ((q.vw vw).vr hR (by omega) (by omega)) k1 x.2 k3
    rw [q.nv 0 (by omega)] at bh
    obtain ⟨_, ⟨e1, _⟩, ⟨e2, b2⟩, _⟩ := n_eq (v 0)
    rw [e1, e2] at bh
    exact prep_space m k N R sq t hN hR hq ht _ _ (by omega) bh (by omega)
structure Cr where
  i : Nat
  k : Dk
  v : Nat → Int
  c : Nat
  o : Option (Int × ByteArray)
  p : Nat
structure CrOK (N R m : Nat) (s : Cr) : Prop where
  hi : 1 ≤ s.i ∧ s.i ≤ 9
  q : ∃ f, Q1 s.k N s.c s.v s.v f (fun _ => False)
  hc : s.c ≤ 1002 * s.i
  vw : Vw s.v N
  a0 : At s.v R 0 s.o
  so : 2 ≤ s.i → s.o ≠ none
  hp : s.p ≤ m
theorem Dn.rs {k : Dk} {N c : Nat} {os : List (Option (Int × ByteArray))} (h : Dn k N c os) (w : Int) :
    ∃ k3 o', o' ∈ os ∧ CallOK Try.prog 31 [.ptr 0 0 0 0, .sl 1 0 1 192 none] [(0, .box (dbox 0 k)), (1, .vec 4 1 192 (rowG encB (kpL w 192)))] (.tup []) [(0, some (.box (dbox 0 k3)))] ∧ CallOK Try.prog 50 [spn N] [(0, .box (dbox 0 k3))] (rdR o') [(0, some (.box (dbox 0 k3)))] := by
  obtain ⟨g, dn, o', ho, rd⟩ := h.2 (fun i => (kpL w 192).getD i false)
  exact ⟨_, o', ho, rs192 k w h.1, rd 0⟩
end Go.Proofs.Ytbgbjgedjmhcaaa
namespace Go.Proofs.Ytbgbjgedjmhcaaa
open Go.RowKit
open OldD (Dk)
set_option maxRecDepth 10000
set_option maxHeartbeats 8000000 in
theorem crA_n (z : List Int) (w : Int) (m p p2 N i : Nat) (hm : m ≤ 1000) (hz : m ≤ z.length) (hi : 1 ≤ i ∧ i ≤ 8) (t : ByteArray) (k : Dk)
    (w5 : CallOK Try.prog 47 [.ptr 0 0 0 0, .sl 2 0 1 5 none] [(0, .blk 139 [.sl 1 0 1 m none, I p]), (1, .ro 1 z.length (rowG encI z)), (2, .ro 1 5 (rowsOf txA 1))] (S t) [(0, some (.blk 139 [.sl 1 0 1 m none, I p2]))])
    (pr : CallOK Try.prog 53 [spn N, I (i : Int), S t] [(0, .box (dbox 0 k))] (I 14) [(0, some (.box (dbox 0 k)))]) :
    Safe Try.prog 10 [(1, .ro 1 z.length (rowG encI z))] (B true) [] (loopAt Try.f10 0) ⟨slotsOf 122 [(2, U w), (7, .ptr 20 0 0 0), (8, .ptr 21 0 0 0), (9, .ifc 170 (.agg [.ptr 21 0 0 0, I 0, I 0, I N])), (10, .sl 22 0 1 5 none), (11, .ptr 23 0 0 0), (12, .ptr 24 0 0 0), (13, I i)], [(1, .ro 1 z.length (rowG encI z)), (20, .blk 139 [.sl 1 0 1 m none, I p]), (21, .box (dbox 0 k)), (22, .vec 9 1 5 (rowsOf txA 1)), (23, .blk 88 [B false, I 0, S0]), (24, .blk 88 [B false, I 0, S0])]⟩ [1, 20, 21, 22, 23, 24] := by
  have aw := rawake_any
  have kp := keep_any w
  have h1 : (i : Int) < 9 := by omega
  refine Safe.ends mixed Try.func10 17 [⟨1100, [(1, .tt true)]⟩, ⟨1200, [(2, .call [20, 1, 22] (S t) [(20, some (.blk 139 [.sl 1 0 1 m none, I ((↑p2 : Int))]))])]⟩, ⟨1300, [(3, .call [21] (I 14) [(21, some (.box (dbox (0 : Nat) k)))])]⟩, ⟨1400, []⟩, ⟨1500, [(0, .call [] (B true) [])]⟩] (r := B true) (hp := [(1, .ro 1 z.length (rowG encI z))]) (ob := [decide ((↑i : Int) < (9 : Int)) = true, CallOK Try.prog (47 : Nat) ([] ++ [AV.ptr 20 0 0 0, AV.sl 22 0 1 (5 : Nat) none] ++ []) [((20 : Nat), Ob.blk (139 : Nat) [AV.sl 1 0 1 m none, AV.val (Value.int IntKind.i64 (↑p : Int))]), ((1 : Nat), Ob.ro (1 : Nat) z.length (rowG encI z)), ((22 : Nat), Ob.vec (9 : Nat) (1 : Nat) (5 : Nat) (rowsOf [AV.val (Value.string (ByteArray.mk #[(97 : UInt8)])), AV.val (Value.string (ByteArray.mk #[(101 : UInt8), (105 : UInt8), (103 : UInt8), (104 : UInt8), (116 : UInt8), (32 : UInt8), (98 : UInt8), (121 : UInt8)])), AV.val (Value.string (ByteArray.mk #[(115 : UInt8), (111 : UInt8), (109 : UInt8), (101 : UInt8), (32 : UInt8), (108 : UInt8), (111 : UInt8), (110 : UInt8), (103 : UInt8), (101 : UInt8), (114 : UInt8), (32 : UInt8), (116 : UInt8), (101 : UInt8), (120 : UInt8), (116 : UInt8)])), AV.val (Value.string (ByteArray.mk #[(118 : UInt8), (103 : UInt8), (32 : UInt8), (123 : UInt8), (32 : UInt8), (125 : UInt8)])), AV.val (Value.string (ByteArray.mk #[]))] (1 : Nat)))] (AV.val (Value.string t)) [((20 : Nat), some (Ob.blk (139 : Nat) [AV.sl 1 0 1 m none, AV.val (Value.int IntKind.i64 (↑p2 : Int))]))], CallOK Try.prog (53 : Nat) ([] ++ [AV.ifc (170 : Nat) (AV.agg [AV.ptr 21 0 0 0, AV.val (Value.int IntKind.i64 (0 : Int)), AV.val (Value.int IntKind.i64 (0 : Int)), AV.val (Value.int IntKind.i64 (↑N : Int))]), AV.val (Value.int IntKind.i64 (↑i : Int)), AV.val (Value.string t)] ++ []) [((21 : Nat), Ob.box (dbox (0 : Nat) k))] (AV.val (Value.int IntKind.i64 (14 : Int))) [((21 : Nat), some (Ob.box (dbox (0 : Nat) k)))], CallOK Try.prog (41 : Nat) ([] ++ [] ++ []) [] (AV.val (Value.bool true)) []]) rfl (by kernel_rfl) ⟨(decide_eq_true h1), (CallOK.simR (CallOK.ren (CallOK.own 9 2 (es := (1 : Nat)) (n := (5 : Nat)) (row := rowsOf txA (1 : Nat)) rfl rfl rfl w5) [(0, 20), (2, 22), (1, 1)] [0, 2, 1] rfl rfl rfl rfl ⟨rfl, rfl, rfl, fun _ => rfl, rfl, closed_rows rfl, trivial⟩ rfl ⟨rfl, rfl, rfl, fun _ => rfl, rfl, closed_rows rfl, trivial⟩) (HpSim.cons rfl (OSim.refl _) (HpSim.cons rfl (OSim.refl _) (HpSim.cons rfl (OSim.rowsV rfl) HpSim.nil)))), (CallOK.ren pr [(0, 21)] [0] rfl rfl rfl rfl ⟨rfl, trivial, trivial⟩ rfl ⟨rfl, trivial, trivial⟩), aw, trivial⟩ rfl ⟨ObLe.refl _, trivial⟩ ⟨rfl, fun _ => rfl, trivial⟩ rfl
  all_goals skip
set_option maxHeartbeats 8000000 in
theorem crB_n (z : List Int) (w : Int) (m p p2 N i : Nat) (hm : m ≤ 1000) (hz : m ≤ z.length) (hi : 1 ≤ i ∧ i ≤ 8) (t : ByteArray) (k k1 k2 : Dk)
    (w5 : CallOK Try.prog 47 [.ptr 0 0 0 0, .sl 2 0 1 5 none] [(0, .blk 139 [.sl 1 0 1 m none, I p]), (1, .ro 1 z.length (rowG encI z)), (2, .ro 1 5 (rowsOf txA 1))] (S t) [(0, some (.blk 139 [.sl 1 0 1 m none, I p2]))])
    (pr : CallOK Try.prog 53 [spn N, I (i : Int), S t] [(0, .box (dbox 0 k))] (I 0) [(0, some (.box (dbox 0 k1)))])
    (sw : CallOK Try.prog 54 [spn N] [(0, .box (dbox 0 k1))] (I 0) [(0, some (.box (dbox 0 k2)))])
    (ih : Safe Try.prog 10 [(1, .ro 1 z.length (rowG encI z))] (B true) [] (loopAt Try.f10 0) ⟨slotsOf 122 [(2, U w), (7, .ptr 20 0 0 0), (8, .ptr 21 0 0 0), (9, .ifc 170 (.agg [.ptr 21 0 0 0, I 0, I 0, I N])), (10, .sl 22 0 1 5 none), (11, .ptr 23 0 0 0), (12, .ptr 24 0 0 0), (13, I ((i : Int) + 1))], [(1, .ro 1 z.length (rowG encI z)), (20, .blk 139 [.sl 1 0 1 m none, I p2]), (21, .box (dbox 0 k2)), (22, .vec 9 1 5 (rowsOf txA 1)), (23, .blk 88 [B true, I (i : Int), S t]), (24, .blk 88 [B true, I (i : Int), S t])]⟩ [1, 20, 21, 22, 23, 24]) :
    Safe Try.prog 10 [(1, .ro 1 z.length (rowG encI z))] (B true) [] (loopAt Try.f10 0) ⟨slotsOf 122 [(2, U w), (7, .ptr 20 0 0 0), (8, .ptr 21 0 0 0), (9, .ifc 170 (.agg [.ptr 21 0 0 0, I 0, I 0, I N])), (10, .sl 22 0 1 5 none), (11, .ptr 23 0 0 0), (12, .ptr 24 0 0 0), (13, I i)], [(1, .ro 1 z.length (rowG encI z)), (20, .blk 139 [.sl 1 0 1 m none, I p]), (21, .box (dbox 0 k)), (22, .vec 9 1 5 (rowsOf txA 1)), (23, .blk 88 [B false, I 0, S0]), (24, .blk 88 [B false, I 0, S0])]⟩ [1, 20, 21, 22, 23, 24] := by
  have aw := rawake_any
  have kp := keep_any w
  have h1 : (i : Int) < 9 := by omega
  refine Safe.goto mixed 37 [⟨1100, [(1, .tt true)]⟩, ⟨1200, [(2, .call [20, 1, 22] (S t) [(20, some (.blk 139 [.sl 1 0 1 m none, I ((↑p2 : Int))]))])]⟩, ⟨1300, [(3, .call [21] (I 0) [(21, some (.box (dbox (0 : Nat) k1)))])]⟩, ⟨1400, []⟩, ⟨1500, []⟩, ⟨1600, []⟩, ⟨1700, []⟩, ⟨1800, [(1, .call [21] (I 0) [(21, some (.box (dbox (0 : Nat) k2)))])]⟩, ⟨1900, []⟩, ⟨2000, []⟩, ⟨2100, []⟩, ⟨2200, []⟩] [2, 7, 8, 9, 10, 11, 12, 13] [1, 20, 21, 22, 23, 24] (todo' := loopAt Try.f10 0) (sl := slotsOf 122 [(2, .val (Value.int IntKind.u64 w)), (7, .ptr 20 0 0 0), (8, .ptr 21 0 0 0), (9, .ifc 170 (.agg [.ptr 21 0 0 0, I 0, I 0, I ((↑N : Int))])), (10, .sl 22 0 1 5 none), (11, .ptr 23 0 0 0), (12, .ptr 24 0 0 0), (13, I ((↑i : Int) + (1 : Int)))]) (hp := [(1, .ro 1 z.length (rowG encI z)), (20, .blk 139 [.sl 1 0 1 m none, I ((↑p2 : Int))]), (21, .box (dbox (0 : Nat) k2)), (22, .vec 9 1 5 (rowsOf [AV.val (Value.string (ByteArray.mk #[(97 : UInt8)])), AV.val (Value.string (ByteArray.mk #[(101 : UInt8), (105 : UInt8), (103 : UInt8), (104 : UInt8), (116 : UInt8), (32 : UInt8), (98 : UInt8), (121 : UInt8)])), AV.val (Value.string (ByteArray.mk #[(115 : UInt8), (111 : UInt8), (109 : UInt8), (101 : UInt8), (32 : UInt8), (108 : UInt8), (111 : UInt8), (110 : UInt8), (103 : UInt8), (101 : UInt8), (114 : UInt8), (32 : UInt8), (116 : UInt8), (101 : UInt8), (120 : UInt8), (116 : UInt8)])), AV.val (Value.string (ByteArray.mk #[(118 : UInt8), (103 : UInt8), (32 : UInt8), (123 : UInt8), (32 : UInt8), (125 : UInt8)])), AV.val (Value.string (ByteArray.mk #[]))] (1 : Nat))), (23, .blk 88 [B true, I ((↑i : Int)), S t]), (24, .blk 88 [B true, I ((↑i : Int)), S t])]) (ob := [decide ((↑i : Int) < (9 : Int)) = true, CallOK Try.prog (47 : Nat) ([] ++ [AV.ptr 20 0 0 0, AV.sl 22 0 1 (5 : Nat) none] ++ []) [((20 : Nat), Ob.blk (139 : Nat) [AV.sl 1 0 1 m none, AV.val (Value.int IntKind.i64 (↑p : Int))]), ((1 : Nat), Ob.ro (1 : Nat) z.length (rowG encI z)), ((22 : Nat), Ob.vec (9 : Nat) (1 : Nat) (5 : Nat) (rowsOf [AV.val (Value.string (ByteArray.mk #[(97 : UInt8)])), AV.val (Value.string (ByteArray.mk #[(101 : UInt8), (105 : UInt8), (103 : UInt8), (104 : UInt8), (116 : UInt8), (32 : UInt8), (98 : UInt8), (121 : UInt8)])), AV.val (Value.string (ByteArray.mk #[(115 : UInt8), (111 : UInt8), (109 : UInt8), (101 : UInt8), (32 : UInt8), (108 : UInt8), (111 : UInt8), (110 : UInt8), (103 : UInt8), (101 : UInt8), (114 : UInt8), (32 : UInt8), (116 : UInt8), (101 : UInt8), (120 : UInt8), (116 : UInt8)])), AV.val (Value.string (ByteArray.mk #[(118 : UInt8), (103 : UInt8), (32 : UInt8), (123 : UInt8), (32 : UInt8), (125 : UInt8)])), AV.val (Value.string (ByteArray.mk #[]))] (1 : Nat)))] (AV.val (Value.string t)) [((20 : Nat), some (Ob.blk (139 : Nat) [AV.sl 1 0 1 m none, AV.val (Value.int IntKind.i64 (↑p2 : Int))]))], CallOK Try.prog (53 : Nat) ([] ++ [AV.ifc (170 : Nat) (AV.agg [AV.ptr 21 0 0 0, AV.val (Value.int IntKind.i64 (0 : Int)), AV.val (Value.int IntKind.i64 (0 : Int)), AV.val (Value.int IntKind.i64 (↑N : Int))]), AV.val (Value.int IntKind.i64 (↑i : Int)), AV.val (Value.string t)] ++ []) [((21 : Nat), Ob.box (dbox (0 : Nat) k))] (AV.val (Value.int IntKind.i64 (0 : Int))) [((21 : Nat), some (Ob.box (dbox (0 : Nat) k1)))], CallOK Try.prog (54 : Nat) ([] ++ [AV.ifc (170 : Nat) (AV.agg [AV.ptr 21 0 0 0, AV.val (Value.int IntKind.i64 (0 : Int)), AV.val (Value.int IntKind.i64 (0 : Int)), AV.val (Value.int IntKind.i64 (↑N : Int))])] ++ []) [((21 : Nat), Ob.box (dbox (0 : Nat) k1))] (AV.val (Value.int IntKind.i64 (0 : Int))) [((21 : Nat), some (Ob.box (dbox (0 : Nat) k2)))], inK IntKind.i64 ((↑i : Int) + (1 : Int))]) rfl rfl (by kernel_rfl) ⟨(decide_eq_true h1), (CallOK.simR (CallOK.ren (CallOK.own 9 2 (es := (1 : Nat)) (n := (5 : Nat)) (row := rowsOf txA (1 : Nat)) rfl rfl rfl w5) [(0, 20), (2, 22), (1, 1)] [0, 2, 1] rfl rfl rfl rfl ⟨rfl, rfl, rfl, fun _ => rfl, rfl, closed_rows rfl, trivial⟩ rfl ⟨rfl, rfl, rfl, fun _ => rfl, rfl, closed_rows rfl, trivial⟩) (HpSim.cons rfl (OSim.refl _) (HpSim.cons rfl (OSim.refl _) (HpSim.cons rfl (OSim.rowsV rfl) HpSim.nil)))), (CallOK.ren pr [(0, 21)] [0] rfl rfl rfl rfl ⟨rfl, trivial, trivial⟩ rfl ⟨rfl, trivial, trivial⟩), (CallOK.ren sw [(0, 21)] [0] rfl rfl rfl rfl ⟨rfl, trivial, trivial⟩ rfl ⟨rfl, trivial, trivial⟩), (by simp only [inK]; omega), trivial⟩ rfl ⟨rfl, fun _ => rfl, rfl, rfl, rfl, trivial, rfl, closed_rows rfl, rfl, rfl, rfl, rfl, trivial⟩ ?_
  all_goals exact ih
set_option maxHeartbeats 8000000 in
theorem crC_n (z : List Int) (w : Int) (m p p2 N i : Nat) (hm : m ≤ 1000) (hz : m ≤ z.length) (hi : 1 ≤ i ∧ i ≤ 8) (t : ByteArray) (k k1 k3 : Dk)
    (w5 : CallOK Try.prog 47 [.ptr 0 0 0 0, .sl 2 0 1 5 none] [(0, .blk 139 [.sl 1 0 1 m none, I p]), (1, .ro 1 z.length (rowG encI z)), (2, .ro 1 5 (rowsOf txA 1))] (S t) [(0, some (.blk 139 [.sl 1 0 1 m none, I p2]))])
    (pr : CallOK Try.prog 53 [spn N, I (i : Int), S t] [(0, .box (dbox 0 k))] (I 5) [(0, some (.box (dbox 0 k1)))])
    (rs : CallOK Try.prog 31 [.ptr 0 0 0 0, .sl 1 0 1 192 none] [(0, .box (dbox 0 k1)), (1, .vec 4 1 192 (rowG encB (kpL w 192)))] (.tup []) [(0, some (.box (dbox 0 k3)))])
    (rd : CallOK Try.prog 50 [spn N] [(0, .box (dbox 0 k3))] (.tup [cpy false 0 S0, I 12]) [(0, some (.box (dbox 0 k3)))]) :
    Safe Try.prog 10 [(1, .ro 1 z.length (rowG encI z))] (B true) [] (loopAt Try.f10 0) ⟨slotsOf 122 [(2, U w), (7, .ptr 20 0 0 0), (8, .ptr 21 0 0 0), (9, .ifc 170 (.agg [.ptr 21 0 0 0, I 0, I 0, I N])), (10, .sl 22 0 1 5 none), (11, .ptr 23 0 0 0), (12, .ptr 24 0 0 0), (13, I i)], [(1, .ro 1 z.length (rowG encI z)), (20, .blk 139 [.sl 1 0 1 m none, I p]), (21, .box (dbox 0 k)), (22, .vec 9 1 5 (rowsOf txA 1)), (23, .blk 88 [B false, I 0, S0]), (24, .blk 88 [B false, I 0, S0])]⟩ [1, 20, 21, 22, 23, 24] := by
  have aw := rawake_any
  have kp := keep_any w
  have h1 : (i : Int) < 9 := by omega
  refine Safe.ends mixed Try.func10 36 [⟨1100, [(1, .tt true)]⟩, ⟨1200, [(2, .call [20, 1, 22] (S t) [(20, some (.blk 139 [.sl 1 0 1 m none, I ((↑p2 : Int))]))])]⟩, ⟨1300, [(3, .call [21] (I 5) [(21, some (.box (dbox (0 : Nat) k1)))])]⟩, ⟨1400, []⟩, ⟨1500, []⟩, ⟨1600, []⟩, ⟨1700, []⟩, ⟨1800, [(2, .call [] (.sl 1860 0 1 192 none) [(1860, some (.vec 4 1 192 (fun q => renL [((10 : Nat), (1860 : Nat))] (rowG encB (kpL w (192 : Nat)) q))))]), (3, .call [21, 1860] (.tup []) [(21, some (.box (dbox (0 : Nat) k3)))])]⟩, ⟨1900, [(1, .call [21] (.tup [.agg [B false, I 0, S (ByteArray.mk #[])], I 12]) [(21, some (.box (dbox (0 : Nat) k3)))])]⟩, ⟨2000, []⟩, ⟨2100, [(23, .call [] (B true) [])]⟩] (r := B true) (hp := [(1, .ro 1 z.length (rowG encI z))]) (ob := [decide ((↑i : Int) < (9 : Int)) = true, CallOK Try.prog (47 : Nat) ([] ++ [AV.ptr 20 0 0 0, AV.sl 22 0 1 (5 : Nat) none] ++ []) [((20 : Nat), Ob.blk (139 : Nat) [AV.sl 1 0 1 m none, AV.val (Value.int IntKind.i64 (↑p : Int))]), ((1 : Nat), Ob.ro (1 : Nat) z.length (rowG encI z)), ((22 : Nat), Ob.vec (9 : Nat) (1 : Nat) (5 : Nat) (rowsOf [AV.val (Value.string (ByteArray.mk #[(97 : UInt8)])), AV.val (Value.string (ByteArray.mk #[(101 : UInt8), (105 : UInt8), (103 : UInt8), (104 : UInt8), (116 : UInt8), (32 : UInt8), (98 : UInt8), (121 : UInt8)])), AV.val (Value.string (ByteArray.mk #[(115 : UInt8), (111 : UInt8), (109 : UInt8), (101 : UInt8), (32 : UInt8), (108 : UInt8), (111 : UInt8), (110 : UInt8), (103 : UInt8), (101 : UInt8), (114 : UInt8), (32 : UInt8), (116 : UInt8), (101 : UInt8), (120 : UInt8), (116 : UInt8)])), AV.val (Value.string (ByteArray.mk #[(118 : UInt8), (103 : UInt8), (32 : UInt8), (123 : UInt8), (32 : UInt8), (125 : UInt8)])), AV.val (Value.string (ByteArray.mk #[]))] (1 : Nat)))] (AV.val (Value.string t)) [((20 : Nat), some (Ob.blk (139 : Nat) [AV.sl 1 0 1 m none, AV.val (Value.int IntKind.i64 (↑p2 : Int))]))], CallOK Try.prog (53 : Nat) ([] ++ [AV.ifc (170 : Nat) (AV.agg [AV.ptr 21 0 0 0, AV.val (Value.int IntKind.i64 (0 : Int)), AV.val (Value.int IntKind.i64 (0 : Int)), AV.val (Value.int IntKind.i64 (↑N : Int))]), AV.val (Value.int IntKind.i64 (↑i : Int)), AV.val (Value.string t)] ++ []) [((21 : Nat), Ob.box (dbox (0 : Nat) k))] (AV.val (Value.int IntKind.i64 (5 : Int))) [((21 : Nat), some (Ob.box (dbox (0 : Nat) k1)))], CallOK Try.prog (32 : Nat) ([] ++ [AV.val (Value.int IntKind.u64 w)] ++ []) [] (AV.sl 1860 0 1 (192 : Nat) none) [((1860 : Nat), some (Ob.vec (4 : Nat) (1 : Nat) (192 : Nat) fun q => renL [((10 : Nat), (1860 : Nat))] (rowG encB (kpL w (192 : Nat)) q)))], CallOK Try.prog (31 : Nat) ([] ++ [AV.ptr 21 0 0 0, AV.sl 1860 0 1 (192 : Nat) none] ++ []) [((21 : Nat), Ob.box (dbox (0 : Nat) k1)), ((1860 : Nat), Ob.vec (4 : Nat) (1 : Nat) (192 : Nat) fun q => renL [((10 : Nat), (1860 : Nat))] (rowG encB (kpL w (192 : Nat)) q))] (AV.tup []) [((21 : Nat), some (Ob.box (dbox (0 : Nat) k3)))], CallOK Try.prog (50 : Nat) ([] ++ [AV.ifc (170 : Nat) (AV.agg [AV.ptr 21 0 0 0, AV.val (Value.int IntKind.i64 (0 : Int)), AV.val (Value.int IntKind.i64 (0 : Int)), AV.val (Value.int IntKind.i64 (↑N : Int))])] ++ []) [((21 : Nat), Ob.box (dbox (0 : Nat) k3))] (AV.tup [AV.agg [AV.val (Value.bool false), AV.val (Value.int IntKind.i64 (0 : Int)), AV.val (Value.string (ByteArray.mk #[]))], AV.val (Value.int IntKind.i64 (12 : Int))]) [((21 : Nat), some (Ob.box (dbox (0 : Nat) k3)))], CallOK Try.prog (41 : Nat) ([] ++ [] ++ []) [] (AV.val (Value.bool true)) []]) rfl (by kernel_rfl) ⟨(decide_eq_true h1), (CallOK.simR (CallOK.ren (CallOK.own 9 2 (es := (1 : Nat)) (n := (5 : Nat)) (row := rowsOf txA (1 : Nat)) rfl rfl rfl w5) [(0, 20), (2, 22), (1, 1)] [0, 2, 1] rfl rfl rfl rfl ⟨rfl, rfl, rfl, fun _ => rfl, rfl, closed_rows rfl, trivial⟩ rfl ⟨rfl, rfl, rfl, fun _ => rfl, rfl, closed_rows rfl, trivial⟩) (HpSim.cons rfl (OSim.refl _) (HpSim.cons rfl (OSim.refl _) (HpSim.cons rfl (OSim.rowsV rfl) HpSim.nil)))), (CallOK.ren pr [(0, 21)] [0] rfl rfl rfl rfl ⟨rfl, trivial, trivial⟩ rfl ⟨rfl, trivial, trivial⟩), (CallOK.ren kp [(10, 1860)] [10] rfl rfl rfl rfl trivial rfl ⟨rfl, fun _ => rfl, trivial⟩), (CallOK.ren rs [(0, 21), (1, 1860)] [0, 1] rfl rfl rfl rfl ⟨rfl, trivial, rfl, fun _ => rfl, trivial⟩ rfl ⟨rfl, trivial, rfl, fun _ => rfl, trivial⟩), (CallOK.ren rd [(0, 21)] [0] rfl rfl rfl rfl ⟨rfl, trivial, trivial⟩ rfl ⟨rfl, trivial, trivial⟩), aw, trivial⟩ rfl ⟨ObLe.refl _, trivial⟩ ⟨rfl, fun _ => rfl, trivial⟩ rfl
  all_goals first | trivial | exact absurd (by simp) ‹_› | (simp_all; done)
set_option maxHeartbeats 8000000 in
theorem crA_s (z : List Int) (w : Int) (m p p2 N i : Nat) (hm : m ≤ 1000) (hz : m ≤ z.length) (hi : 1 ≤ i ∧ i ≤ 8) (s : Int) (t0 : ByteArray) (t : ByteArray) (k : Dk)
    (w5 : CallOK Try.prog 47 [.ptr 0 0 0 0, .sl 2 0 1 5 none] [(0, .blk 139 [.sl 1 0 1 m none, I p]), (1, .ro 1 z.length (rowG encI z)), (2, .ro 1 5 (rowsOf txA 1))] (S t) [(0, some (.blk 139 [.sl 1 0 1 m none, I p2]))])
    (pr : CallOK Try.prog 53 [spn N, I (i : Int), S t] [(0, .box (dbox 0 k))] (I 14) [(0, some (.box (dbox 0 k)))]) :
    Safe Try.prog 10 [(1, .ro 1 z.length (rowG encI z))] (B true) [] (loopAt Try.f10 0) ⟨slotsOf 122 [(2, U w), (7, .ptr 20 0 0 0), (8, .ptr 21 0 0 0), (9, .ifc 170 (.agg [.ptr 21 0 0 0, I 0, I 0, I N])), (10, .sl 22 0 1 5 none), (11, .ptr 23 0 0 0), (12, .ptr 24 0 0 0), (13, I i)], [(1, .ro 1 z.length (rowG encI z)), (20, .blk 139 [.sl 1 0 1 m none, I p]), (21, .box (dbox 0 k)), (22, .vec 9 1 5 (rowsOf txA 1)), (23, .blk 88 [B true, I s, S t0]), (24, .blk 88 [B true, I s, S t0])]⟩ [1, 20, 21, 22, 23, 24] := by
  have aw := rawake_any
  have kp := keep_any w
  have h1 : (i : Int) < 9 := by omega
  refine Safe.ends mixed Try.func10 17 [⟨1100, [(1, .tt true)]⟩, ⟨1200, [(2, .call [20, 1, 22] (S t) [(20, some (.blk 139 [.sl 1 0 1 m none, I ((↑p2 : Int))]))])]⟩, ⟨1300, [(3, .call [21] (I 14) [(21, some (.box (dbox (0 : Nat) k)))])]⟩, ⟨1400, []⟩, ⟨1500, [(0, .call [] (B true) [])]⟩] (r := B true) (hp := [(1, .ro 1 z.length (rowG encI z))]) (ob := [decide ((↑i : Int) < (9 : Int)) = true, CallOK Try.prog (47 : Nat) ([] ++ [AV.ptr 20 0 0 0, AV.sl 22 0 1 (5 : Nat) none] ++ []) [((20 : Nat), Ob.blk (139 : Nat) [AV.sl 1 0 1 m none, AV.val (Value.int IntKind.i64 (↑p : Int))]), ((1 : Nat), Ob.ro (1 : Nat) z.length (rowG encI z)), ((22 : Nat), Ob.vec (9 : Nat) (1 : Nat) (5 : Nat) (rowsOf [AV.val (Value.string (ByteArray.mk #[(97 : UInt8)])), AV.val (Value.string (ByteArray.mk #[(101 : UInt8), (105 : UInt8), (103 : UInt8), (104 : UInt8), (116 : UInt8), (32 : UInt8), (98 : UInt8), (121 : UInt8)])), AV.val (Value.string (ByteArray.mk #[(115 : UInt8), (111 : UInt8), (109 : UInt8), (101 : UInt8), (32 : UInt8), (108 : UInt8), (111 : UInt8), (110 : UInt8), (103 : UInt8), (101 : UInt8), (114 : UInt8), (32 : UInt8), (116 : UInt8), (101 : UInt8), (120 : UInt8), (116 : UInt8)])), AV.val (Value.string (ByteArray.mk #[(118 : UInt8), (103 : UInt8), (32 : UInt8), (123 : UInt8), (32 : UInt8), (125 : UInt8)])), AV.val (Value.string (ByteArray.mk #[]))] (1 : Nat)))] (AV.val (Value.string t)) [((20 : Nat), some (Ob.blk (139 : Nat) [AV.sl 1 0 1 m none, AV.val (Value.int IntKind.i64 (↑p2 : Int))]))], CallOK Try.prog (53 : Nat) ([] ++ [AV.ifc (170 : Nat) (AV.agg [AV.ptr 21 0 0 0, AV.val (Value.int IntKind.i64 (0 : Int)), AV.val (Value.int IntKind.i64 (0 : Int)), AV.val (Value.int IntKind.i64 (↑N : Int))]), AV.val (Value.int IntKind.i64 (↑i : Int)), AV.val (Value.string t)] ++ []) [((21 : Nat), Ob.box (dbox (0 : Nat) k))] (AV.val (Value.int IntKind.i64 (14 : Int))) [((21 : Nat), some (Ob.box (dbox (0 : Nat) k)))], CallOK Try.prog (41 : Nat) ([] ++ [] ++ []) [] (AV.val (Value.bool true)) []]) rfl (by kernel_rfl) ⟨(decide_eq_true h1), (CallOK.simR (CallOK.ren (CallOK.own 9 2 (es := (1 : Nat)) (n := (5 : Nat)) (row := rowsOf txA (1 : Nat)) rfl rfl rfl w5) [(0, 20), (2, 22), (1, 1)] [0, 2, 1] rfl rfl rfl rfl ⟨rfl, rfl, rfl, fun _ => rfl, rfl, closed_rows rfl, trivial⟩ rfl ⟨rfl, rfl, rfl, fun _ => rfl, rfl, closed_rows rfl, trivial⟩) (HpSim.cons rfl (OSim.refl _) (HpSim.cons rfl (OSim.refl _) (HpSim.cons rfl (OSim.rowsV rfl) HpSim.nil)))), (CallOK.ren pr [(0, 21)] [0] rfl rfl rfl rfl ⟨rfl, trivial, trivial⟩ rfl ⟨rfl, trivial, trivial⟩), aw, trivial⟩ rfl ⟨ObLe.refl _, trivial⟩ ⟨rfl, fun _ => rfl, trivial⟩ rfl
  all_goals skip
set_option maxHeartbeats 8000000 in
theorem crB_s (z : List Int) (w : Int) (m p p2 N i : Nat) (hm : m ≤ 1000) (hz : m ≤ z.length) (hi : 1 ≤ i ∧ i ≤ 8) (s : Int) (t0 : ByteArray) (t : ByteArray) (k k1 k2 : Dk)
    (w5 : CallOK Try.prog 47 [.ptr 0 0 0 0, .sl 2 0 1 5 none] [(0, .blk 139 [.sl 1 0 1 m none, I p]), (1, .ro 1 z.length (rowG encI z)), (2, .ro 1 5 (rowsOf txA 1))] (S t) [(0, some (.blk 139 [.sl 1 0 1 m none, I p2]))])
    (pr : CallOK Try.prog 53 [spn N, I (i : Int), S t] [(0, .box (dbox 0 k))] (I 0) [(0, some (.box (dbox 0 k1)))])
    (sw : CallOK Try.prog 54 [spn N] [(0, .box (dbox 0 k1))] (I 0) [(0, some (.box (dbox 0 k2)))])
    (ih : Safe Try.prog 10 [(1, .ro 1 z.length (rowG encI z))] (B true) [] (loopAt Try.f10 0) ⟨slotsOf 122 [(2, U w), (7, .ptr 20 0 0 0), (8, .ptr 21 0 0 0), (9, .ifc 170 (.agg [.ptr 21 0 0 0, I 0, I 0, I N])), (10, .sl 22 0 1 5 none), (11, .ptr 23 0 0 0), (12, .ptr 24 0 0 0), (13, I ((i : Int) + 1))], [(1, .ro 1 z.length (rowG encI z)), (20, .blk 139 [.sl 1 0 1 m none, I p2]), (21, .box (dbox 0 k2)), (22, .vec 9 1 5 (rowsOf txA 1)), (23, .blk 88 [B true, I (i : Int), S t]), (24, .blk 88 [B true, I (i : Int), S t])]⟩ [1, 20, 21, 22, 23, 24]) :
    Safe Try.prog 10 [(1, .ro 1 z.length (rowG encI z))] (B true) [] (loopAt Try.f10 0) ⟨slotsOf 122 [(2, U w), (7, .ptr 20 0 0 0), (8, .ptr 21 0 0 0), (9, .ifc 170 (.agg [.ptr 21 0 0 0, I 0, I 0, I N])), (10, .sl 22 0 1 5 none), (11, .ptr 23 0 0 0), (12, .ptr 24 0 0 0), (13, I i)], [(1, .ro 1 z.length (rowG encI z)), (20, .blk 139 [.sl 1 0 1 m none, I p]), (21, .box (dbox 0 k)), (22, .vec 9 1 5 (rowsOf txA 1)), (23, .blk 88 [B true, I s, S t0]), (24, .blk 88 [B true, I s, S t0])]⟩ [1, 20, 21, 22, 23, 24] := by
  have aw := rawake_any
  have kp := keep_any w
  have h1 : (i : Int) < 9 := by omega
  refine Safe.goto mixed 37 [⟨1100, [(1, .tt true)]⟩, ⟨1200, [(2, .call [20, 1, 22] (S t) [(20, some (.blk 139 [.sl 1 0 1 m none, I ((↑p2 : Int))]))])]⟩, ⟨1300, [(3, .call [21] (I 0) [(21, some (.box (dbox (0 : Nat) k1)))])]⟩, ⟨1400, []⟩, ⟨1500, []⟩, ⟨1600, []⟩, ⟨1700, []⟩, ⟨1800, [(1, .call [21] (I 0) [(21, some (.box (dbox (0 : Nat) k2)))])]⟩, ⟨1900, []⟩, ⟨2000, []⟩, ⟨2100, []⟩, ⟨2200, []⟩] [2, 7, 8, 9, 10, 11, 12, 13] [1, 20, 21, 22, 23, 24] (todo' := loopAt Try.f10 0) (sl := slotsOf 122 [(2, .val (Value.int IntKind.u64 w)), (7, .ptr 20 0 0 0), (8, .ptr 21 0 0 0), (9, .ifc 170 (.agg [.ptr 21 0 0 0, I 0, I 0, I ((↑N : Int))])), (10, .sl 22 0 1 5 none), (11, .ptr 23 0 0 0), (12, .ptr 24 0 0 0), (13, I ((↑i : Int) + (1 : Int)))]) (hp := [(1, .ro 1 z.length (rowG encI z)), (20, .blk 139 [.sl 1 0 1 m none, I ((↑p2 : Int))]), (21, .box (dbox (0 : Nat) k2)), (22, .vec 9 1 5 (rowsOf [AV.val (Value.string (ByteArray.mk #[(97 : UInt8)])), AV.val (Value.string (ByteArray.mk #[(101 : UInt8), (105 : UInt8), (103 : UInt8), (104 : UInt8), (116 : UInt8), (32 : UInt8), (98 : UInt8), (121 : UInt8)])), AV.val (Value.string (ByteArray.mk #[(115 : UInt8), (111 : UInt8), (109 : UInt8), (101 : UInt8), (32 : UInt8), (108 : UInt8), (111 : UInt8), (110 : UInt8), (103 : UInt8), (101 : UInt8), (114 : UInt8), (32 : UInt8), (116 : UInt8), (101 : UInt8), (120 : UInt8), (116 : UInt8)])), AV.val (Value.string (ByteArray.mk #[(118 : UInt8), (103 : UInt8), (32 : UInt8), (123 : UInt8), (32 : UInt8), (125 : UInt8)])), AV.val (Value.string (ByteArray.mk #[]))] (1 : Nat))), (23, .blk 88 [B true, I ((↑i : Int)), S t]), (24, .blk 88 [B true, I ((↑i : Int)), S t])]) (ob := [decide ((↑i : Int) < (9 : Int)) = true, CallOK Try.prog (47 : Nat) ([] ++ [AV.ptr 20 0 0 0, AV.sl 22 0 1 (5 : Nat) none] ++ []) [((20 : Nat), Ob.blk (139 : Nat) [AV.sl 1 0 1 m none, AV.val (Value.int IntKind.i64 (↑p : Int))]), ((1 : Nat), Ob.ro (1 : Nat) z.length (rowG encI z)), ((22 : Nat), Ob.vec (9 : Nat) (1 : Nat) (5 : Nat) (rowsOf [AV.val (Value.string (ByteArray.mk #[(97 : UInt8)])), AV.val (Value.string (ByteArray.mk #[(101 : UInt8), (105 : UInt8), (103 : UInt8), (104 : UInt8), (116 : UInt8), (32 : UInt8), (98 : UInt8), (121 : UInt8)])), AV.val (Value.string (ByteArray.mk #[(115 : UInt8), (111 : UInt8), (109 : UInt8), (101 : UInt8), (32 : UInt8), (108 : UInt8), (111 : UInt8), (110 : UInt8), (103 : UInt8), (101 : UInt8), (114 : UInt8), (32 : UInt8), (116 : UInt8), (101 : UInt8), (120 : UInt8), (116 : UInt8)])), AV.val (Value.string (ByteArray.mk #[(118 : UInt8), (103 : UInt8), (32 : UInt8), (123 : UInt8), (32 : UInt8), (125 : UInt8)])), AV.val (Value.string (ByteArray.mk #[]))] (1 : Nat)))] (AV.val (Value.string t)) [((20 : Nat), some (Ob.blk (139 : Nat) [AV.sl 1 0 1 m none, AV.val (Value.int IntKind.i64 (↑p2 : Int))]))], CallOK Try.prog (53 : Nat) ([] ++ [AV.ifc (170 : Nat) (AV.agg [AV.ptr 21 0 0 0, AV.val (Value.int IntKind.i64 (0 : Int)), AV.val (Value.int IntKind.i64 (0 : Int)), AV.val (Value.int IntKind.i64 (↑N : Int))]), AV.val (Value.int IntKind.i64 (↑i : Int)), AV.val (Value.string t)] ++ []) [((21 : Nat), Ob.box (dbox (0 : Nat) k))] (AV.val (Value.int IntKind.i64 (0 : Int))) [((21 : Nat), some (Ob.box (dbox (0 : Nat) k1)))], CallOK Try.prog (54 : Nat) ([] ++ [AV.ifc (170 : Nat) (AV.agg [AV.ptr 21 0 0 0, AV.val (Value.int IntKind.i64 (0 : Int)), AV.val (Value.int IntKind.i64 (0 : Int)), AV.val (Value.int IntKind.i64 (↑N : Int))])] ++ []) [((21 : Nat), Ob.box (dbox (0 : Nat) k1))] (AV.val (Value.int IntKind.i64 (0 : Int))) [((21 : Nat), some (Ob.box (dbox (0 : Nat) k2)))], inK IntKind.i64 ((↑i : Int) + (1 : Int))]) rfl rfl (by kernel_rfl) ⟨(decide_eq_true h1), (CallOK.simR (CallOK.ren (CallOK.own 9 2 (es := (1 : Nat)) (n := (5 : Nat)) (row := rowsOf txA (1 : Nat)) rfl rfl rfl w5) [(0, 20), (2, 22), (1, 1)] [0, 2, 1] rfl rfl rfl rfl ⟨rfl, rfl, rfl, fun _ => rfl, rfl, closed_rows rfl, trivial⟩ rfl ⟨rfl, rfl, rfl, fun _ => rfl, rfl, closed_rows rfl, trivial⟩) (HpSim.cons rfl (OSim.refl _) (HpSim.cons rfl (OSim.refl _) (HpSim.cons rfl (OSim.rowsV rfl) HpSim.nil)))), (CallOK.ren pr [(0, 21)] [0] rfl rfl rfl rfl ⟨rfl, trivial, trivial⟩ rfl ⟨rfl, trivial, trivial⟩), (CallOK.ren sw [(0, 21)] [0] rfl rfl rfl rfl ⟨rfl, trivial, trivial⟩ rfl ⟨rfl, trivial, trivial⟩), (by simp only [inK]; omega), trivial⟩ rfl ⟨rfl, fun _ => rfl, rfl, rfl, rfl, trivial, rfl, closed_rows rfl, rfl, rfl, rfl, rfl, trivial⟩ ?_
  all_goals exact ih
set_option maxHeartbeats 8000000 in
theorem crC_s (z : List Int) (w : Int) (m p p2 N i : Nat) (hm : m ≤ 1000) (hz : m ≤ z.length) (hi : 1 ≤ i ∧ i ≤ 8) (s : Int) (t0 : ByteArray) (t : ByteArray) (k k1 k3 : Dk)
    (w5 : CallOK Try.prog 47 [.ptr 0 0 0 0, .sl 2 0 1 5 none] [(0, .blk 139 [.sl 1 0 1 m none, I p]), (1, .ro 1 z.length (rowG encI z)), (2, .ro 1 5 (rowsOf txA 1))] (S t) [(0, some (.blk 139 [.sl 1 0 1 m none, I p2]))])
    (pr : CallOK Try.prog 53 [spn N, I (i : Int), S t] [(0, .box (dbox 0 k))] (I 5) [(0, some (.box (dbox 0 k1)))])
    (rs : CallOK Try.prog 31 [.ptr 0 0 0 0, .sl 1 0 1 192 none] [(0, .box (dbox 0 k1)), (1, .vec 4 1 192 (rowG encB (kpL w 192)))] (.tup []) [(0, some (.box (dbox 0 k3)))])
    (rd : CallOK Try.prog 50 [spn N] [(0, .box (dbox 0 k3))] (.tup [cpy true s (S t0), I 0]) [(0, some (.box (dbox 0 k3)))]) :
    Safe Try.prog 10 [(1, .ro 1 z.length (rowG encI z))] (B true) [] (loopAt Try.f10 0) ⟨slotsOf 122 [(2, U w), (7, .ptr 20 0 0 0), (8, .ptr 21 0 0 0), (9, .ifc 170 (.agg [.ptr 21 0 0 0, I 0, I 0, I N])), (10, .sl 22 0 1 5 none), (11, .ptr 23 0 0 0), (12, .ptr 24 0 0 0), (13, I i)], [(1, .ro 1 z.length (rowG encI z)), (20, .blk 139 [.sl 1 0 1 m none, I p]), (21, .box (dbox 0 k)), (22, .vec 9 1 5 (rowsOf txA 1)), (23, .blk 88 [B true, I s, S t0]), (24, .blk 88 [B true, I s, S t0])]⟩ [1, 20, 21, 22, 23, 24] := by
  have aw := rawake_any
  have kp := keep_any w
  have h1 : (i : Int) < 9 := by omega
  refine (Classical.em ((true == true && (decide (s = s) && (decide (t0 = t0) && true))) = true)).elim (fun hc1 => ?ga0) (fun hc1 => ?gb0)
  case' gb0 =>
    refine Safe.ends mixed Try.func10 36 [⟨1100, [(1, .tt true)]⟩, ⟨1200, [(2, .call [20, 1, 22] (S t) [(20, some (.blk 139 [.sl 1 0 1 m none, I ((↑p2 : Int))]))])]⟩, ⟨1300, [(3, .call [21] (I 5) [(21, some (.box (dbox (0 : Nat) k1)))])]⟩, ⟨1400, []⟩, ⟨1500, []⟩, ⟨1600, []⟩, ⟨1700, []⟩, ⟨1800, [(2, .call [] (.sl 1860 0 1 192 none) [(1860, some (.vec 4 1 192 (fun q => renL [((10 : Nat), (1860 : Nat))] (rowG encB (kpL w (192 : Nat)) q))))]), (3, .call [21, 1860] (.tup []) [(21, some (.box (dbox (0 : Nat) k3)))])]⟩, ⟨1900, [(1, .call [21] (.tup [.agg [B true, I s, S t0], I 0]) [(21, some (.box (dbox (0 : Nat) k3)))])]⟩, ⟨2000, []⟩, ⟨2100, [(12, .tt false)]⟩] (r := B false) (hp := [(1, .ro 1 z.length (rowG encI z))]) (ob := [decide ((↑i : Int) < (9 : Int)) = true, CallOK Try.prog (47 : Nat) ([] ++ [AV.ptr 20 0 0 0, AV.sl 22 0 1 (5 : Nat) none] ++ []) [((20 : Nat), Ob.blk (139 : Nat) [AV.sl 1 0 1 m none, AV.val (Value.int IntKind.i64 (↑p : Int))]), ((1 : Nat), Ob.ro (1 : Nat) z.length (rowG encI z)), ((22 : Nat), Ob.vec (9 : Nat) (1 : Nat) (5 : Nat) (rowsOf [AV.val (Value.string (ByteArray.mk #[(97 : UInt8)])), AV.val (Value.string (ByteArray.mk #[(101 : UInt8), (105 : UInt8), (103 : UInt8), (104 : UInt8), (116 : UInt8), (32 : UInt8), (98 : UInt8), (121 : UInt8)])), AV.val (Value.string (ByteArray.mk #[(115 : UInt8), (111 : UInt8), (109 : UInt8), (101 : UInt8), (32 : UInt8), (108 : UInt8), (111 : UInt8), (110 : UInt8), (103 : UInt8), (101 : UInt8), (114 : UInt8), (32 : UInt8), (116 : UInt8), (101 : UInt8), (120 : UInt8), (116 : UInt8)])), AV.val (Value.string (ByteArray.mk #[(118 : UInt8), (103 : UInt8), (32 : UInt8), (123 : UInt8), (32 : UInt8), (125 : UInt8)])), AV.val (Value.string (ByteArray.mk #[]))] (1 : Nat)))] (AV.val (Value.string t)) [((20 : Nat), some (Ob.blk (139 : Nat) [AV.sl 1 0 1 m none, AV.val (Value.int IntKind.i64 (↑p2 : Int))]))], CallOK Try.prog (53 : Nat) ([] ++ [AV.ifc (170 : Nat) (AV.agg [AV.ptr 21 0 0 0, AV.val (Value.int IntKind.i64 (0 : Int)), AV.val (Value.int IntKind.i64 (0 : Int)), AV.val (Value.int IntKind.i64 (↑N : Int))]), AV.val (Value.int IntKind.i64 (↑i : Int)), AV.val (Value.string t)] ++ []) [((21 : Nat), Ob.box (dbox (0 : Nat) k))] (AV.val (Value.int IntKind.i64 (5 : Int))) [((21 : Nat), some (Ob.box (dbox (0 : Nat) k1)))], CallOK Try.prog (32 : Nat) ([] ++ [AV.val (Value.int IntKind.u64 w)] ++ []) [] (AV.sl 1860 0 1 (192 : Nat) none) [((1860 : Nat), some (Ob.vec (4 : Nat) (1 : Nat) (192 : Nat) fun q => renL [((10 : Nat), (1860 : Nat))] (rowG encB (kpL w (192 : Nat)) q)))], CallOK Try.prog (31 : Nat) ([] ++ [AV.ptr 21 0 0 0, AV.sl 1860 0 1 (192 : Nat) none] ++ []) [((21 : Nat), Ob.box (dbox (0 : Nat) k1)), ((1860 : Nat), Ob.vec (4 : Nat) (1 : Nat) (192 : Nat) fun q => renL [((10 : Nat), (1860 : Nat))] (rowG encB (kpL w (192 : Nat)) q))] (AV.tup []) [((21 : Nat), some (Ob.box (dbox (0 : Nat) k3)))], CallOK Try.prog (50 : Nat) ([] ++ [AV.ifc (170 : Nat) (AV.agg [AV.ptr 21 0 0 0, AV.val (Value.int IntKind.i64 (0 : Int)), AV.val (Value.int IntKind.i64 (0 : Int)), AV.val (Value.int IntKind.i64 (↑N : Int))])] ++ []) [((21 : Nat), Ob.box (dbox (0 : Nat) k3))] (AV.tup [AV.agg [AV.val (Value.bool true), AV.val (Value.int IntKind.i64 s), AV.val (Value.string t0)], AV.val (Value.int IntKind.i64 (0 : Int))]) [((21 : Nat), some (Ob.box (dbox (0 : Nat) k3)))], (true == true && (decide (s = s) && (decide (t0 = t0) && true))) = false]) rfl (by kernel_rfl) ⟨(decide_eq_true h1), (CallOK.simR (CallOK.ren (CallOK.own 9 2 (es := (1 : Nat)) (n := (5 : Nat)) (row := rowsOf txA (1 : Nat)) rfl rfl rfl w5) [(0, 20), (2, 22), (1, 1)] [0, 2, 1] rfl rfl rfl rfl ⟨rfl, rfl, rfl, fun _ => rfl, rfl, closed_rows rfl, trivial⟩ rfl ⟨rfl, rfl, rfl, fun _ => rfl, rfl, closed_rows rfl, trivial⟩) (HpSim.cons rfl (OSim.refl _) (HpSim.cons rfl (OSim.refl _) (HpSim.cons rfl (OSim.rowsV rfl) HpSim.nil)))), (CallOK.ren pr [(0, 21)] [0] rfl rfl rfl rfl ⟨rfl, trivial, trivial⟩ rfl ⟨rfl, trivial, trivial⟩), (CallOK.ren kp [(10, 1860)] [10] rfl rfl rfl rfl trivial rfl ⟨rfl, fun _ => rfl, trivial⟩), (CallOK.ren rs [(0, 21), (1, 1860)] [0, 1] rfl rfl rfl rfl ⟨rfl, trivial, rfl, fun _ => rfl, trivial⟩ rfl ⟨rfl, trivial, rfl, fun _ => rfl, trivial⟩), (CallOK.ren rd [(0, 21)] [0] rfl rfl rfl rfl ⟨rfl, trivial, trivial⟩ rfl ⟨rfl, trivial, trivial⟩), (by simpa using hc1), trivial⟩ ?_ ⟨ObLe.refl _, trivial⟩ ⟨rfl, fun _ => rfl, trivial⟩ rfl
  case' ga0 =>
    refine Safe.ends mixed Try.func10 36 [⟨1100, [(1, .tt true)]⟩, ⟨1200, [(2, .call [20, 1, 22] (S t) [(20, some (.blk 139 [.sl 1 0 1 m none, I ((↑p2 : Int))]))])]⟩, ⟨1300, [(3, .call [21] (I 5) [(21, some (.box (dbox (0 : Nat) k1)))])]⟩, ⟨1400, []⟩, ⟨1500, []⟩, ⟨1600, []⟩, ⟨1700, []⟩, ⟨1800, [(2, .call [] (.sl 1860 0 1 192 none) [(1860, some (.vec 4 1 192 (fun q => renL [((10 : Nat), (1860 : Nat))] (rowG encB (kpL w (192 : Nat)) q))))]), (3, .call [21, 1860] (.tup []) [(21, some (.box (dbox (0 : Nat) k3)))])]⟩, ⟨1900, [(1, .call [21] (.tup [.agg [B true, I s, S t0], I 0]) [(21, some (.box (dbox (0 : Nat) k3)))])]⟩, ⟨2000, []⟩, ⟨2100, [(12, .tt true), (23, .call [] (B true) [])]⟩] (r := B true) (hp := [(1, .ro 1 z.length (rowG encI z))]) (ob := [decide ((↑i : Int) < (9 : Int)) = true, CallOK Try.prog (47 : Nat) ([] ++ [AV.ptr 20 0 0 0, AV.sl 22 0 1 (5 : Nat) none] ++ []) [((20 : Nat), Ob.blk (139 : Nat) [AV.sl 1 0 1 m none, AV.val (Value.int IntKind.i64 (↑p : Int))]), ((1 : Nat), Ob.ro (1 : Nat) z.length (rowG encI z)), ((22 : Nat), Ob.vec (9 : Nat) (1 : Nat) (5 : Nat) (rowsOf [AV.val (Value.string (ByteArray.mk #[(97 : UInt8)])), AV.val (Value.string (ByteArray.mk #[(101 : UInt8), (105 : UInt8), (103 : UInt8), (104 : UInt8), (116 : UInt8), (32 : UInt8), (98 : UInt8), (121 : UInt8)])), AV.val (Value.string (ByteArray.mk #[(115 : UInt8), (111 : UInt8), (109 : UInt8), (101 : UInt8), (32 : UInt8), (108 : UInt8), (111 : UInt8), (110 : UInt8), (103 : UInt8), (101 : UInt8), (114 : UInt8), (32 : UInt8), (116 : UInt8), (101 : UInt8), (120 : UInt8), (116 : UInt8)])), AV.val (Value.string (ByteArray.mk #[(118 : UInt8), (103 : UInt8), (32 : UInt8), (123 : UInt8), (32 : UInt8), (125 : UInt8)])), AV.val (Value.string (ByteArray.mk #[]))] (1 : Nat)))] (AV.val (Value.string t)) [((20 : Nat), some (Ob.blk (139 : Nat) [AV.sl 1 0 1 m none, AV.val (Value.int IntKind.i64 (↑p2 : Int))]))], CallOK Try.prog (53 : Nat) ([] ++ [AV.ifc (170 : Nat) (AV.agg [AV.ptr 21 0 0 0, AV.val (Value.int IntKind.i64 (0 : Int)), AV.val (Value.int IntKind.i64 (0 : Int)), AV.val (Value.int IntKind.i64 (↑N : Int))]), AV.val (Value.int IntKind.i64 (↑i : Int)), AV.val (Value.string t)] ++ []) [((21 : Nat), Ob.box (dbox (0 : Nat) k))] (AV.val (Value.int IntKind.i64 (5 : Int))) [((21 : Nat), some (Ob.box (dbox (0 : Nat) k1)))], CallOK Try.prog (32 : Nat) ([] ++ [AV.val (Value.int IntKind.u64 w)] ++ []) [] (AV.sl 1860 0 1 (192 : Nat) none) [((1860 : Nat), some (Ob.vec (4 : Nat) (1 : Nat) (192 : Nat) fun q => renL [((10 : Nat), (1860 : Nat))] (rowG encB (kpL w (192 : Nat)) q)))], CallOK Try.prog (31 : Nat) ([] ++ [AV.ptr 21 0 0 0, AV.sl 1860 0 1 (192 : Nat) none] ++ []) [((21 : Nat), Ob.box (dbox (0 : Nat) k1)), ((1860 : Nat), Ob.vec (4 : Nat) (1 : Nat) (192 : Nat) fun q => renL [((10 : Nat), (1860 : Nat))] (rowG encB (kpL w (192 : Nat)) q))] (AV.tup []) [((21 : Nat), some (Ob.box (dbox (0 : Nat) k3)))], CallOK Try.prog (50 : Nat) ([] ++ [AV.ifc (170 : Nat) (AV.agg [AV.ptr 21 0 0 0, AV.val (Value.int IntKind.i64 (0 : Int)), AV.val (Value.int IntKind.i64 (0 : Int)), AV.val (Value.int IntKind.i64 (↑N : Int))])] ++ []) [((21 : Nat), Ob.box (dbox (0 : Nat) k3))] (AV.tup [AV.agg [AV.val (Value.bool true), AV.val (Value.int IntKind.i64 s), AV.val (Value.string t0)], AV.val (Value.int IntKind.i64 (0 : Int))]) [((21 : Nat), some (Ob.box (dbox (0 : Nat) k3)))], (true == true && (decide (s = s) && (decide (t0 = t0) && true))) = true, CallOK Try.prog (41 : Nat) ([] ++ [] ++ []) [] (AV.val (Value.bool true)) []]) rfl (by kernel_rfl) ⟨(decide_eq_true h1), (CallOK.simR (CallOK.ren (CallOK.own 9 2 (es := (1 : Nat)) (n := (5 : Nat)) (row := rowsOf txA (1 : Nat)) rfl rfl rfl w5) [(0, 20), (2, 22), (1, 1)] [0, 2, 1] rfl rfl rfl rfl ⟨rfl, rfl, rfl, fun _ => rfl, rfl, closed_rows rfl, trivial⟩ rfl ⟨rfl, rfl, rfl, fun _ => rfl, rfl, closed_rows rfl, trivial⟩) (HpSim.cons rfl (OSim.refl _) (HpSim.cons rfl (OSim.refl _) (HpSim.cons rfl (OSim.rowsV rfl) HpSim.nil)))), (CallOK.ren pr [(0, 21)] [0] rfl rfl rfl rfl ⟨rfl, trivial, trivial⟩ rfl ⟨rfl, trivial, trivial⟩), (CallOK.ren kp [(10, 1860)] [10] rfl rfl rfl rfl trivial rfl ⟨rfl, fun _ => rfl, trivial⟩), (CallOK.ren rs [(0, 21), (1, 1860)] [0, 1] rfl rfl rfl rfl ⟨rfl, trivial, rfl, fun _ => rfl, trivial⟩ rfl ⟨rfl, trivial, rfl, fun _ => rfl, trivial⟩), (CallOK.ren rd [(0, 21)] [0] rfl rfl rfl rfl ⟨rfl, trivial, trivial⟩ rfl ⟨rfl, trivial, trivial⟩), hc1, aw, trivial⟩ rfl ⟨ObLe.refl _, trivial⟩ ⟨rfl, fun _ => rfl, trivial⟩ rfl
  all_goals first | trivial | exact absurd (by simp) ‹_› | (simp_all; done)
end Go.Proofs.Ytbgbjgedjmhcaaa
namespace Go.Proofs.Ytbgbjgedjmhcaaa
open Go.RowKit
open OldD (Dk)
set_option maxRecDepth 10000
set_option maxHeartbeats 8000000 in
theorem crD_n (z : List Int) (w : Int) (m p p2 N i : Nat) (hm : m ≤ 1000) (hz : m ≤ z.length) (hi : 1 ≤ i ∧ i ≤ 8) (t : ByteArray) (k k1 k2 k3 : Dk)
    (w5 : CallOK Try.prog 47 [.ptr 0 0 0 0, .sl 2 0 1 5 none] [(0, .blk 139 [.sl 1 0 1 m none, I p]), (1, .ro 1 z.length (rowG encI z)), (2, .ro 1 5 (rowsOf txA 1))] (S t) [(0, some (.blk 139 [.sl 1 0 1 m none, I p2]))])
    (pr : CallOK Try.prog 53 [spn N, I (i : Int), S t] [(0, .box (dbox 0 k))] (I 0) [(0, some (.box (dbox 0 k1)))])
    (sw : CallOK Try.prog 54 [spn N] [(0, .box (dbox 0 k1))] (I 5) [(0, some (.box (dbox 0 k2)))])
    (rs : CallOK Try.prog 31 [.ptr 0 0 0 0, .sl 1 0 1 192 none] [(0, .box (dbox 0 k2)), (1, .vec 4 1 192 (rowG encB (kpL w 192)))] (.tup []) [(0, some (.box (dbox 0 k3)))])
    (rd : CallOK Try.prog 50 [spn N] [(0, .box (dbox 0 k3))] (.tup [cpy false 0 S0, I 12]) [(0, some (.box (dbox 0 k3)))]) :
    Safe Try.prog 10 [(1, .ro 1 z.length (rowG encI z))] (B true) [] (loopAt Try.f10 0) ⟨slotsOf 122 [(2, U w), (7, .ptr 20 0 0 0), (8, .ptr 21 0 0 0), (9, .ifc 170 (.agg [.ptr 21 0 0 0, I 0, I 0, I N])), (10, .sl 22 0 1 5 none), (11, .ptr 23 0 0 0), (12, .ptr 24 0 0 0), (13, I i)], [(1, .ro 1 z.length (rowG encI z)), (20, .blk 139 [.sl 1 0 1 m none, I p]), (21, .box (dbox 0 k)), (22, .vec 9 1 5 (rowsOf txA 1)), (23, .blk 88 [B false, I 0, S0]), (24, .blk 88 [B false, I 0, S0])]⟩ [1, 20, 21, 22, 23, 24] := by
  have aw := rawake_any
  have kp := keep_any w
  have h1 : (i : Int) < 9 := by omega
  refine Safe.ends mixed Try.func10 43 [⟨1100, [(1, .tt true)]⟩, ⟨1200, [(2, .call [20, 1, 22] (S t) [(20, some (.blk 139 [.sl 1 0 1 m none, I ((↑p2 : Int))]))])]⟩, ⟨1300, [(3, .call [21] (I 0) [(21, some (.box (dbox (0 : Nat) k1)))])]⟩, ⟨1400, []⟩, ⟨1500, []⟩, ⟨1600, []⟩, ⟨1700, []⟩, ⟨1800, [(1, .call [21] (I 5) [(21, some (.box (dbox (0 : Nat) k2)))])]⟩, ⟨1900, []⟩, ⟨2000, []⟩, ⟨2100, [(2, .call [] (.sl 2160 0 1 192 none) [(2160, some (.vec 4 1 192 (fun q => renL [((10 : Nat), (2160 : Nat))] (rowG encB (kpL w (192 : Nat)) q))))]), (3, .call [21, 2160] (.tup []) [(21, some (.box (dbox (0 : Nat) k3)))])]⟩, ⟨2200, [(1, .call [21] (.tup [.agg [B false, I 0, S (ByteArray.mk #[])], I 12]) [(21, some (.box (dbox (0 : Nat) k3)))])]⟩, ⟨2300, []⟩, ⟨2400, [(23, .call [] (B true) [])]⟩] (r := B true) (hp := [(1, .ro 1 z.length (rowG encI z))]) (ob := [decide ((↑i : Int) < (9 : Int)) = true, CallOK Try.prog (47 : Nat) ([] ++ [AV.ptr 20 0 0 0, AV.sl 22 0 1 (5 : Nat) none] ++ []) [((20 : Nat), Ob.blk (139 : Nat) [AV.sl 1 0 1 m none, AV.val (Value.int IntKind.i64 (↑p : Int))]), ((1 : Nat), Ob.ro (1 : Nat) z.length (rowG encI z)), ((22 : Nat), Ob.vec (9 : Nat) (1 : Nat) (5 : Nat) (rowsOf [AV.val (Value.string (ByteArray.mk #[(97 : UInt8)])), AV.val (Value.string (ByteArray.mk #[(101 : UInt8), (105 : UInt8), (103 : UInt8), (104 : UInt8), (116 : UInt8), (32 : UInt8), (98 : UInt8), (121 : UInt8)])), AV.val (Value.string (ByteArray.mk #[(115 : UInt8), (111 : UInt8), (109 : UInt8), (101 : UInt8), (32 : UInt8), (108 : UInt8), (111 : UInt8), (110 : UInt8), (103 : UInt8), (101 : UInt8), (114 : UInt8), (32 : UInt8), (116 : UInt8), (101 : UInt8), (120 : UInt8), (116 : UInt8)])), AV.val (Value.string (ByteArray.mk #[(118 : UInt8), (103 : UInt8), (32 : UInt8), (123 : UInt8), (32 : UInt8), (125 : UInt8)])), AV.val (Value.string (ByteArray.mk #[]))] (1 : Nat)))] (AV.val (Value.string t)) [((20 : Nat), some (Ob.blk (139 : Nat) [AV.sl 1 0 1 m none, AV.val (Value.int IntKind.i64 (↑p2 : Int))]))], CallOK Try.prog (53 : Nat) ([] ++ [AV.ifc (170 : Nat) (AV.agg [AV.ptr 21 0 0 0, AV.val (Value.int IntKind.i64 (0 : Int)), AV.val (Value.int IntKind.i64 (0 : Int)), AV.val (Value.int IntKind.i64 (↑N : Int))]), AV.val (Value.int IntKind.i64 (↑i : Int)), AV.val (Value.string t)] ++ []) [((21 : Nat), Ob.box (dbox (0 : Nat) k))] (AV.val (Value.int IntKind.i64 (0 : Int))) [((21 : Nat), some (Ob.box (dbox (0 : Nat) k1)))], CallOK Try.prog (54 : Nat) ([] ++ [AV.ifc (170 : Nat) (AV.agg [AV.ptr 21 0 0 0, AV.val (Value.int IntKind.i64 (0 : Int)), AV.val (Value.int IntKind.i64 (0 : Int)), AV.val (Value.int IntKind.i64 (↑N : Int))])] ++ []) [((21 : Nat), Ob.box (dbox (0 : Nat) k1))] (AV.val (Value.int IntKind.i64 (5 : Int))) [((21 : Nat), some (Ob.box (dbox (0 : Nat) k2)))], CallOK Try.prog (32 : Nat) ([] ++ [AV.val (Value.int IntKind.u64 w)] ++ []) [] (AV.sl 2160 0 1 (192 : Nat) none) [((2160 : Nat), some (Ob.vec (4 : Nat) (1 : Nat) (192 : Nat) fun q => renL [((10 : Nat), (2160 : Nat))] (rowG encB (kpL w (192 : Nat)) q)))], CallOK Try.prog (31 : Nat) ([] ++ [AV.ptr 21 0 0 0, AV.sl 2160 0 1 (192 : Nat) none] ++ []) [((21 : Nat), Ob.box (dbox (0 : Nat) k2)), ((2160 : Nat), Ob.vec (4 : Nat) (1 : Nat) (192 : Nat) fun q => renL [((10 : Nat), (2160 : Nat))] (rowG encB (kpL w (192 : Nat)) q))] (AV.tup []) [((21 : Nat), some (Ob.box (dbox (0 : Nat) k3)))], CallOK Try.prog (50 : Nat) ([] ++ [AV.ifc (170 : Nat) (AV.agg [AV.ptr 21 0 0 0, AV.val (Value.int IntKind.i64 (0 : Int)), AV.val (Value.int IntKind.i64 (0 : Int)), AV.val (Value.int IntKind.i64 (↑N : Int))])] ++ []) [((21 : Nat), Ob.box (dbox (0 : Nat) k3))] (AV.tup [AV.agg [AV.val (Value.bool false), AV.val (Value.int IntKind.i64 (0 : Int)), AV.val (Value.string (ByteArray.mk #[]))], AV.val (Value.int IntKind.i64 (12 : Int))]) [((21 : Nat), some (Ob.box (dbox (0 : Nat) k3)))], CallOK Try.prog (41 : Nat) ([] ++ [] ++ []) [] (AV.val (Value.bool true)) []]) rfl (by kernel_rfl) ⟨(decide_eq_true h1), (CallOK.simR (CallOK.ren (CallOK.own 9 2 (es := (1 : Nat)) (n := (5 : Nat)) (row := rowsOf txA (1 : Nat)) rfl rfl rfl w5) [(0, 20), (2, 22), (1, 1)] [0, 2, 1] rfl rfl rfl rfl ⟨rfl, rfl, rfl, fun _ => rfl, rfl, closed_rows rfl, trivial⟩ rfl ⟨rfl, rfl, rfl, fun _ => rfl, rfl, closed_rows rfl, trivial⟩) (HpSim.cons rfl (OSim.refl _) (HpSim.cons rfl (OSim.refl _) (HpSim.cons rfl (OSim.rowsV rfl) HpSim.nil)))), (CallOK.ren pr [(0, 21)] [0] rfl rfl rfl rfl ⟨rfl, trivial, trivial⟩ rfl ⟨rfl, trivial, trivial⟩), (CallOK.ren sw [(0, 21)] [0] rfl rfl rfl rfl ⟨rfl, trivial, trivial⟩ rfl ⟨rfl, trivial, trivial⟩), (CallOK.ren kp [(10, 2160)] [10] rfl rfl rfl rfl trivial rfl ⟨rfl, fun _ => rfl, trivial⟩), (CallOK.ren rs [(0, 21), (1, 2160)] [0, 1] rfl rfl rfl rfl ⟨rfl, trivial, rfl, fun _ => rfl, trivial⟩ rfl ⟨rfl, trivial, rfl, fun _ => rfl, trivial⟩), (CallOK.ren rd [(0, 21)] [0] rfl rfl rfl rfl ⟨rfl, trivial, trivial⟩ rfl ⟨rfl, trivial, trivial⟩), aw, trivial⟩ rfl ⟨ObLe.refl _, trivial⟩ ⟨rfl, fun _ => rfl, trivial⟩ rfl
  all_goals first | trivial | exact absurd (by simp) ‹_› | (simp_all; done)
set_option maxHeartbeats 8000000 in
theorem crE_n (z : List Int) (w : Int) (m p p2 N i : Nat) (hm : m ≤ 1000) (hz : m ≤ z.length) (hi : 1 ≤ i ∧ i ≤ 8) (t : ByteArray) (k k1 k2 k3 : Dk)
    (w5 : CallOK Try.prog 47 [.ptr 0 0 0 0, .sl 2 0 1 5 none] [(0, .blk 139 [.sl 1 0 1 m none, I p]), (1, .ro 1 z.length (rowG encI z)), (2, .ro 1 5 (rowsOf txA 1))] (S t) [(0, some (.blk 139 [.sl 1 0 1 m none, I p2]))])
    (pr : CallOK Try.prog 53 [spn N, I (i : Int), S t] [(0, .box (dbox 0 k))] (I 0) [(0, some (.box (dbox 0 k1)))])
    (sw : CallOK Try.prog 54 [spn N] [(0, .box (dbox 0 k1))] (I 5) [(0, some (.box (dbox 0 k2)))])
    (rs : CallOK Try.prog 31 [.ptr 0 0 0 0, .sl 1 0 1 192 none] [(0, .box (dbox 0 k2)), (1, .vec 4 1 192 (rowG encB (kpL w 192)))] (.tup []) [(0, some (.box (dbox 0 k3)))])
    (rd : CallOK Try.prog 50 [spn N] [(0, .box (dbox 0 k3))] (.tup [cpy true (i : Int) (S t), I 0]) [(0, some (.box (dbox 0 k3)))]) :
    Safe Try.prog 10 [(1, .ro 1 z.length (rowG encI z))] (B true) [] (loopAt Try.f10 0) ⟨slotsOf 122 [(2, U w), (7, .ptr 20 0 0 0), (8, .ptr 21 0 0 0), (9, .ifc 170 (.agg [.ptr 21 0 0 0, I 0, I 0, I N])), (10, .sl 22 0 1 5 none), (11, .ptr 23 0 0 0), (12, .ptr 24 0 0 0), (13, I i)], [(1, .ro 1 z.length (rowG encI z)), (20, .blk 139 [.sl 1 0 1 m none, I p]), (21, .box (dbox 0 k)), (22, .vec 9 1 5 (rowsOf txA 1)), (23, .blk 88 [B false, I 0, S0]), (24, .blk 88 [B false, I 0, S0])]⟩ [1, 20, 21, 22, 23, 24] := by
  have aw := rawake_any
  have kp := keep_any w
  have h1 : (i : Int) < 9 := by omega
  refine (Classical.em ((true == true && (decide ((↑i : Int) = (↑i : Int)) && (decide (t = t) && true))) = true)).elim (fun hc1 => ?ga0) (fun hc1 => ?gb0)
  case' gb0 =>
    refine Safe.ends mixed Try.func10 43 [⟨1100, [(1, .tt true)]⟩, ⟨1200, [(2, .call [20, 1, 22] (S t) [(20, some (.blk 139 [.sl 1 0 1 m none, I ((↑p2 : Int))]))])]⟩, ⟨1300, [(3, .call [21] (I 0) [(21, some (.box (dbox (0 : Nat) k1)))])]⟩, ⟨1400, []⟩, ⟨1500, []⟩, ⟨1600, []⟩, ⟨1700, []⟩, ⟨1800, [(1, .call [21] (I 5) [(21, some (.box (dbox (0 : Nat) k2)))])]⟩, ⟨1900, []⟩, ⟨2000, []⟩, ⟨2100, [(2, .call [] (.sl 2160 0 1 192 none) [(2160, some (.vec 4 1 192 (fun q => renL [((10 : Nat), (2160 : Nat))] (rowG encB (kpL w (192 : Nat)) q))))]), (3, .call [21, 2160] (.tup []) [(21, some (.box (dbox (0 : Nat) k3)))])]⟩, ⟨2200, [(1, .call [21] (.tup [.agg [B true, I ((↑i : Int)), S t], I 0]) [(21, some (.box (dbox (0 : Nat) k3)))])]⟩, ⟨2300, []⟩, ⟨2400, [(18, .tt false)]⟩] (r := B false) (hp := [(1, .ro 1 z.length (rowG encI z))]) (ob := [decide ((↑i : Int) < (9 : Int)) = true, CallOK Try.prog (47 : Nat) ([] ++ [AV.ptr 20 0 0 0, AV.sl 22 0 1 (5 : Nat) none] ++ []) [((20 : Nat), Ob.blk (139 : Nat) [AV.sl 1 0 1 m none, AV.val (Value.int IntKind.i64 (↑p : Int))]), ((1 : Nat), Ob.ro (1 : Nat) z.length (rowG encI z)), ((22 : Nat), Ob.vec (9 : Nat) (1 : Nat) (5 : Nat) (rowsOf [AV.val (Value.string (ByteArray.mk #[(97 : UInt8)])), AV.val (Value.string (ByteArray.mk #[(101 : UInt8), (105 : UInt8), (103 : UInt8), (104 : UInt8), (116 : UInt8), (32 : UInt8), (98 : UInt8), (121 : UInt8)])), AV.val (Value.string (ByteArray.mk #[(115 : UInt8), (111 : UInt8), (109 : UInt8), (101 : UInt8), (32 : UInt8), (108 : UInt8), (111 : UInt8), (110 : UInt8), (103 : UInt8), (101 : UInt8), (114 : UInt8), (32 : UInt8), (116 : UInt8), (101 : UInt8), (120 : UInt8), (116 : UInt8)])), AV.val (Value.string (ByteArray.mk #[(118 : UInt8), (103 : UInt8), (32 : UInt8), (123 : UInt8), (32 : UInt8), (125 : UInt8)])), AV.val (Value.string (ByteArray.mk #[]))] (1 : Nat)))] (AV.val (Value.string t)) [((20 : Nat), some (Ob.blk (139 : Nat) [AV.sl 1 0 1 m none, AV.val (Value.int IntKind.i64 (↑p2 : Int))]))], CallOK Try.prog (53 : Nat) ([] ++ [AV.ifc (170 : Nat) (AV.agg [AV.ptr 21 0 0 0, AV.val (Value.int IntKind.i64 (0 : Int)), AV.val (Value.int IntKind.i64 (0 : Int)), AV.val (Value.int IntKind.i64 (↑N : Int))]), AV.val (Value.int IntKind.i64 (↑i : Int)), AV.val (Value.string t)] ++ []) [((21 : Nat), Ob.box (dbox (0 : Nat) k))] (AV.val (Value.int IntKind.i64 (0 : Int))) [((21 : Nat), some (Ob.box (dbox (0 : Nat) k1)))], CallOK Try.prog (54 : Nat) ([] ++ [AV.ifc (170 : Nat) (AV.agg [AV.ptr 21 0 0 0, AV.val (Value.int IntKind.i64 (0 : Int)), AV.val (Value.int IntKind.i64 (0 : Int)), AV.val (Value.int IntKind.i64 (↑N : Int))])] ++ []) [((21 : Nat), Ob.box (dbox (0 : Nat) k1))] (AV.val (Value.int IntKind.i64 (5 : Int))) [((21 : Nat), some (Ob.box (dbox (0 : Nat) k2)))], CallOK Try.prog (32 : Nat) ([] ++ [AV.val (Value.int IntKind.u64 w)] ++ []) [] (AV.sl 2160 0 1 (192 : Nat) none) [((2160 : Nat), some (Ob.vec (4 : Nat) (1 : Nat) (192 : Nat) fun q => renL [((10 : Nat), (2160 : Nat))] (rowG encB (kpL w (192 : Nat)) q)))], CallOK Try.prog (31 : Nat) ([] ++ [AV.ptr 21 0 0 0, AV.sl 2160 0 1 (192 : Nat) none] ++ []) [((21 : Nat), Ob.box (dbox (0 : Nat) k2)), ((2160 : Nat), Ob.vec (4 : Nat) (1 : Nat) (192 : Nat) fun q => renL [((10 : Nat), (2160 : Nat))] (rowG encB (kpL w (192 : Nat)) q))] (AV.tup []) [((21 : Nat), some (Ob.box (dbox (0 : Nat) k3)))], CallOK Try.prog (50 : Nat) ([] ++ [AV.ifc (170 : Nat) (AV.agg [AV.ptr 21 0 0 0, AV.val (Value.int IntKind.i64 (0 : Int)), AV.val (Value.int IntKind.i64 (0 : Int)), AV.val (Value.int IntKind.i64 (↑N : Int))])] ++ []) [((21 : Nat), Ob.box (dbox (0 : Nat) k3))] (AV.tup [AV.agg [AV.val (Value.bool true), AV.val (Value.int IntKind.i64 (↑i : Int)), AV.val (Value.string t)], AV.val (Value.int IntKind.i64 (0 : Int))]) [((21 : Nat), some (Ob.box (dbox (0 : Nat) k3)))], (true == true && (decide ((↑i : Int) = (↑i : Int)) && (decide (t = t) && true))) = false]) rfl (by kernel_rfl) ⟨(decide_eq_true h1), (CallOK.simR (CallOK.ren (CallOK.own 9 2 (es := (1 : Nat)) (n := (5 : Nat)) (row := rowsOf txA (1 : Nat)) rfl rfl rfl w5) [(0, 20), (2, 22), (1, 1)] [0, 2, 1] rfl rfl rfl rfl ⟨rfl, rfl, rfl, fun _ => rfl, rfl, closed_rows rfl, trivial⟩ rfl ⟨rfl, rfl, rfl, fun _ => rfl, rfl, closed_rows rfl, trivial⟩) (HpSim.cons rfl (OSim.refl _) (HpSim.cons rfl (OSim.refl _) (HpSim.cons rfl (OSim.rowsV rfl) HpSim.nil)))), (CallOK.ren pr [(0, 21)] [0] rfl rfl rfl rfl ⟨rfl, trivial, trivial⟩ rfl ⟨rfl, trivial, trivial⟩), (CallOK.ren sw [(0, 21)] [0] rfl rfl rfl rfl ⟨rfl, trivial, trivial⟩ rfl ⟨rfl, trivial, trivial⟩), (CallOK.ren kp [(10, 2160)] [10] rfl rfl rfl rfl trivial rfl ⟨rfl, fun _ => rfl, trivial⟩), (CallOK.ren rs [(0, 21), (1, 2160)] [0, 1] rfl rfl rfl rfl ⟨rfl, trivial, rfl, fun _ => rfl, trivial⟩ rfl ⟨rfl, trivial, rfl, fun _ => rfl, trivial⟩), (CallOK.ren rd [(0, 21)] [0] rfl rfl rfl rfl ⟨rfl, trivial, trivial⟩ rfl ⟨rfl, trivial, trivial⟩), (by simpa using hc1), trivial⟩ ?_ ⟨ObLe.refl _, trivial⟩ ⟨rfl, fun _ => rfl, trivial⟩ rfl
  case' ga0 =>
    refine Safe.ends mixed Try.func10 43 [⟨1100, [(1, .tt true)]⟩, ⟨1200, [(2, .call [20, 1, 22] (S t) [(20, some (.blk 139 [.sl 1 0 1 m none, I ((↑p2 : Int))]))])]⟩, ⟨1300, [(3, .call [21] (I 0) [(21, some (.box (dbox (0 : Nat) k1)))])]⟩, ⟨1400, []⟩, ⟨1500, []⟩, ⟨1600, []⟩, ⟨1700, []⟩, ⟨1800, [(1, .call [21] (I 5) [(21, some (.box (dbox (0 : Nat) k2)))])]⟩, ⟨1900, []⟩, ⟨2000, []⟩, ⟨2100, [(2, .call [] (.sl 2160 0 1 192 none) [(2160, some (.vec 4 1 192 (fun q => renL [((10 : Nat), (2160 : Nat))] (rowG encB (kpL w (192 : Nat)) q))))]), (3, .call [21, 2160] (.tup []) [(21, some (.box (dbox (0 : Nat) k3)))])]⟩, ⟨2200, [(1, .call [21] (.tup [.agg [B true, I ((↑i : Int)), S t], I 0]) [(21, some (.box (dbox (0 : Nat) k3)))])]⟩, ⟨2300, []⟩, ⟨2400, [(18, .tt true), (23, .call [] (B true) [])]⟩] (r := B true) (hp := [(1, .ro 1 z.length (rowG encI z))]) (ob := [decide ((↑i : Int) < (9 : Int)) = true, CallOK Try.prog (47 : Nat) ([] ++ [AV.ptr 20 0 0 0, AV.sl 22 0 1 (5 : Nat) none] ++ []) [((20 : Nat), Ob.blk (139 : Nat) [AV.sl 1 0 1 m none, AV.val (Value.int IntKind.i64 (↑p : Int))]), ((1 : Nat), Ob.ro (1 : Nat) z.length (rowG encI z)), ((22 : Nat), Ob.vec (9 : Nat) (1 : Nat) (5 : Nat) (rowsOf [AV.val (Value.string (ByteArray.mk #[(97 : UInt8)])), AV.val (Value.string (ByteArray.mk #[(101 : UInt8), (105 : UInt8), (103 : UInt8), (104 : UInt8), (116 : UInt8), (32 : UInt8), (98 : UInt8), (121 : UInt8)])), AV.val (Value.string (ByteArray.mk #[(115 : UInt8), (111 : UInt8), (109 : UInt8), (101 : UInt8), (32 : UInt8), (108 : UInt8), (111 : UInt8), (110 : UInt8), (103 : UInt8), (101 : UInt8), (114 : UInt8), (32 : UInt8), (116 : UInt8), (101 : UInt8), (120 : UInt8), (116 : UInt8)])), AV.val (Value.string (ByteArray.mk #[(118 : UInt8), (103 : UInt8), (32 : UInt8), (123 : UInt8), (32 : UInt8), (125 : UInt8)])), AV.val (Value.string (ByteArray.mk #[]))] (1 : Nat)))] (AV.val (Value.string t)) [((20 : Nat), some (Ob.blk (139 : Nat) [AV.sl 1 0 1 m none, AV.val (Value.int IntKind.i64 (↑p2 : Int))]))], CallOK Try.prog (53 : Nat) ([] ++ [AV.ifc (170 : Nat) (AV.agg [AV.ptr 21 0 0 0, AV.val (Value.int IntKind.i64 (0 : Int)), AV.val (Value.int IntKind.i64 (0 : Int)), AV.val (Value.int IntKind.i64 (↑N : Int))]), AV.val (Value.int IntKind.i64 (↑i : Int)), AV.val (Value.string t)] ++ []) [((21 : Nat), Ob.box (dbox (0 : Nat) k))] (AV.val (Value.int IntKind.i64 (0 : Int))) [((21 : Nat), some (Ob.box (dbox (0 : Nat) k1)))], CallOK Try.prog (54 : Nat) ([] ++ [AV.ifc (170 : Nat) (AV.agg [AV.ptr 21 0 0 0, AV.val (Value.int IntKind.i64 (0 : Int)), AV.val (Value.int IntKind.i64 (0 : Int)), AV.val (Value.int IntKind.i64 (↑N : Int))])] ++ []) [((21 : Nat), Ob.box (dbox (0 : Nat) k1))] (AV.val (Value.int IntKind.i64 (5 : Int))) [((21 : Nat), some (Ob.box (dbox (0 : Nat) k2)))], CallOK Try.prog (32 : Nat) ([] ++ [AV.val (Value.int IntKind.u64 w)] ++ []) [] (AV.sl 2160 0 1 (192 : Nat) none) [((2160 : Nat), some (Ob.vec (4 : Nat) (1 : Nat) (192 : Nat) fun q => renL [((10 : Nat), (2160 : Nat))] (rowG encB (kpL w (192 : Nat)) q)))], CallOK Try.prog (31 : Nat) ([] ++ [AV.ptr 21 0 0 0, AV.sl 2160 0 1 (192 : Nat) none] ++ []) [((21 : Nat), Ob.box (dbox (0 : Nat) k2)), ((2160 : Nat), Ob.vec (4 : Nat) (1 : Nat) (192 : Nat) fun q => renL [((10 : Nat), (2160 : Nat))] (rowG encB (kpL w (192 : Nat)) q))] (AV.tup []) [((21 : Nat), some (Ob.box (dbox (0 : Nat) k3)))], CallOK Try.prog (50 : Nat) ([] ++ [AV.ifc (170 : Nat) (AV.agg [AV.ptr 21 0 0 0, AV.val (Value.int IntKind.i64 (0 : Int)), AV.val (Value.int IntKind.i64 (0 : Int)), AV.val (Value.int IntKind.i64 (↑N : Int))])] ++ []) [((21 : Nat), Ob.box (dbox (0 : Nat) k3))] (AV.tup [AV.agg [AV.val (Value.bool true), AV.val (Value.int IntKind.i64 (↑i : Int)), AV.val (Value.string t)], AV.val (Value.int IntKind.i64 (0 : Int))]) [((21 : Nat), some (Ob.box (dbox (0 : Nat) k3)))], (true == true && (decide ((↑i : Int) = (↑i : Int)) && (decide (t = t) && true))) = true, CallOK Try.prog (41 : Nat) ([] ++ [] ++ []) [] (AV.val (Value.bool true)) []]) rfl (by kernel_rfl) ⟨(decide_eq_true h1), (CallOK.simR (CallOK.ren (CallOK.own 9 2 (es := (1 : Nat)) (n := (5 : Nat)) (row := rowsOf txA (1 : Nat)) rfl rfl rfl w5) [(0, 20), (2, 22), (1, 1)] [0, 2, 1] rfl rfl rfl rfl ⟨rfl, rfl, rfl, fun _ => rfl, rfl, closed_rows rfl, trivial⟩ rfl ⟨rfl, rfl, rfl, fun _ => rfl, rfl, closed_rows rfl, trivial⟩) (HpSim.cons rfl (OSim.refl _) (HpSim.cons rfl (OSim.refl _) (HpSim.cons rfl (OSim.rowsV rfl) HpSim.nil)))), (CallOK.ren pr [(0, 21)] [0] rfl rfl rfl rfl ⟨rfl, trivial, trivial⟩ rfl ⟨rfl, trivial, trivial⟩), (CallOK.ren sw [(0, 21)] [0] rfl rfl rfl rfl ⟨rfl, trivial, trivial⟩ rfl ⟨rfl, trivial, trivial⟩), (CallOK.ren kp [(10, 2160)] [10] rfl rfl rfl rfl trivial rfl ⟨rfl, fun _ => rfl, trivial⟩), (CallOK.ren rs [(0, 21), (1, 2160)] [0, 1] rfl rfl rfl rfl ⟨rfl, trivial, rfl, fun _ => rfl, trivial⟩ rfl ⟨rfl, trivial, rfl, fun _ => rfl, trivial⟩), (CallOK.ren rd [(0, 21)] [0] rfl rfl rfl rfl ⟨rfl, trivial, trivial⟩ rfl ⟨rfl, trivial, trivial⟩), hc1, aw, trivial⟩ rfl ⟨ObLe.refl _, trivial⟩ ⟨rfl, fun _ => rfl, trivial⟩ rfl
  all_goals first | trivial | exact absurd (by simp) ‹_› | (simp_all; done)
set_option maxHeartbeats 8000000 in
theorem crD_s (z : List Int) (w : Int) (m p p2 N i : Nat) (hm : m ≤ 1000) (hz : m ≤ z.length) (hi : 1 ≤ i ∧ i ≤ 8) (s : Int) (t0 : ByteArray) (t : ByteArray) (k k1 k2 k3 : Dk)
    (w5 : CallOK Try.prog 47 [.ptr 0 0 0 0, .sl 2 0 1 5 none] [(0, .blk 139 [.sl 1 0 1 m none, I p]), (1, .ro 1 z.length (rowG encI z)), (2, .ro 1 5 (rowsOf txA 1))] (S t) [(0, some (.blk 139 [.sl 1 0 1 m none, I p2]))])
    (pr : CallOK Try.prog 53 [spn N, I (i : Int), S t] [(0, .box (dbox 0 k))] (I 0) [(0, some (.box (dbox 0 k1)))])
    (sw : CallOK Try.prog 54 [spn N] [(0, .box (dbox 0 k1))] (I 5) [(0, some (.box (dbox 0 k2)))])
    (rs : CallOK Try.prog 31 [.ptr 0 0 0 0, .sl 1 0 1 192 none] [(0, .box (dbox 0 k2)), (1, .vec 4 1 192 (rowG encB (kpL w 192)))] (.tup []) [(0, some (.box (dbox 0 k3)))])
    (rd : CallOK Try.prog 50 [spn N] [(0, .box (dbox 0 k3))] (.tup [cpy true s (S t0), I 0]) [(0, some (.box (dbox 0 k3)))]) :
    Safe Try.prog 10 [(1, .ro 1 z.length (rowG encI z))] (B true) [] (loopAt Try.f10 0) ⟨slotsOf 122 [(2, U w), (7, .ptr 20 0 0 0), (8, .ptr 21 0 0 0), (9, .ifc 170 (.agg [.ptr 21 0 0 0, I 0, I 0, I N])), (10, .sl 22 0 1 5 none), (11, .ptr 23 0 0 0), (12, .ptr 24 0 0 0), (13, I i)], [(1, .ro 1 z.length (rowG encI z)), (20, .blk 139 [.sl 1 0 1 m none, I p]), (21, .box (dbox 0 k)), (22, .vec 9 1 5 (rowsOf txA 1)), (23, .blk 88 [B true, I s, S t0]), (24, .blk 88 [B true, I s, S t0])]⟩ [1, 20, 21, 22, 23, 24] := by
  have aw := rawake_any
  have kp := keep_any w
  have h1 : (i : Int) < 9 := by omega
  refine (Classical.em ((true == true && (decide (s = s) && (decide (t0 = t0) && true))) = true)).elim (fun hc1 => ?ga1) (fun hc1 => ?gb1)
  case' gb1 =>
    refine (Classical.em ((true == true && (decide (s = (↑i : Int)) && (decide (t0 = t) && true))) = true)).elim (fun hc2 => ?ga2) (fun hc2 => ?gb2)
    case' gb2 =>
      refine Safe.ends mixed Try.func10 43 [⟨1100, [(1, .tt true)]⟩, ⟨1200, [(2, .call [20, 1, 22] (S t) [(20, some (.blk 139 [.sl 1 0 1 m none, I ((↑p2 : Int))]))])]⟩, ⟨1300, [(3, .call [21] (I 0) [(21, some (.box (dbox (0 : Nat) k1)))])]⟩, ⟨1400, []⟩, ⟨1500, []⟩, ⟨1600, []⟩, ⟨1700, []⟩, ⟨1800, [(1, .call [21] (I 5) [(21, some (.box (dbox (0 : Nat) k2)))])]⟩, ⟨1900, []⟩, ⟨2000, []⟩, ⟨2100, [(2, .call [] (.sl 2160 0 1 192 none) [(2160, some (.vec 4 1 192 (fun q => renL [((10 : Nat), (2160 : Nat))] (rowG encB (kpL w (192 : Nat)) q))))]), (3, .call [21, 2160] (.tup []) [(21, some (.box (dbox (0 : Nat) k3)))])]⟩, ⟨2200, [(1, .call [21] (.tup [.agg [B true, I s, S t0], I 0]) [(21, some (.box (dbox (0 : Nat) k3)))])]⟩, ⟨2300, []⟩, ⟨2400, [(12, .tt false), (18, .tt false)]⟩] (r := B false) (hp := [(1, .ro 1 z.length (rowG encI z))]) (ob := [decide ((↑i : Int) < (9 : Int)) = true, CallOK Try.prog (47 : Nat) ([] ++ [AV.ptr 20 0 0 0, AV.sl 22 0 1 (5 : Nat) none] ++ []) [((20 : Nat), Ob.blk (139 : Nat) [AV.sl 1 0 1 m none, AV.val (Value.int IntKind.i64 (↑p : Int))]), ((1 : Nat), Ob.ro (1 : Nat) z.length (rowG encI z)), ((22 : Nat), Ob.vec (9 : Nat) (1 : Nat) (5 : Nat) (rowsOf [AV.val (Value.string (ByteArray.mk #[(97 : UInt8)])), AV.val (Value.string (ByteArray.mk #[(101 : UInt8), (105 : UInt8), (103 : UInt8), (104 : UInt8), (116 : UInt8), (32 : UInt8), (98 : UInt8), (121 : UInt8)])), AV.val (Value.string (ByteArray.mk #[(115 : UInt8), (111 : UInt8), (109 : UInt8), (101 : UInt8), (32 : UInt8), (108 : UInt8), (111 : UInt8), (110 : UInt8), (103 : UInt8), (101 : UInt8), (114 : UInt8), (32 : UInt8), (116 : UInt8), (101 : UInt8), (120 : UInt8), (116 : UInt8)])), AV.val (Value.string (ByteArray.mk #[(118 : UInt8), (103 : UInt8), (32 : UInt8), (123 : UInt8), (32 : UInt8), (125 : UInt8)])), AV.val (Value.string (ByteArray.mk #[]))] (1 : Nat)))] (AV.val (Value.string t)) [((20 : Nat), some (Ob.blk (139 : Nat) [AV.sl 1 0 1 m none, AV.val (Value.int IntKind.i64 (↑p2 : Int))]))], CallOK Try.prog (53 : Nat) ([] ++ [AV.ifc (170 : Nat) (AV.agg [AV.ptr 21 0 0 0, AV.val (Value.int IntKind.i64 (0 : Int)), AV.val (Value.int IntKind.i64 (0 : Int)), AV.val (Value.int IntKind.i64 (↑N : Int))]), AV.val (Value.int IntKind.i64 (↑i : Int)), AV.val (Value.string t)] ++ []) [((21 : Nat), Ob.box (dbox (0 : Nat) k))] (AV.val (Value.int IntKind.i64 (0 : Int))) [((21 : Nat), some (Ob.box (dbox (0 : Nat) k1)))], CallOK Try.prog (54 : Nat) ([] ++ [AV.ifc (170 : Nat) (AV.agg [AV.ptr 21 0 0 0, AV.val (Value.int IntKind.i64 (0 : Int)), AV.val (Value.int IntKind.i64 (0 : Int)), AV.val (Value.int IntKind.i64 (↑N : Int))])] ++ []) [((21 : Nat), Ob.box (dbox (0 : Nat) k1))] (AV.val (Value.int IntKind.i64 (5 : Int))) [((21 : Nat), some (Ob.box (dbox (0 : Nat) k2)))], CallOK Try.prog (32 : Nat) ([] ++ [AV.val (Value.int IntKind.u64 w)] ++ []) [] (AV.sl 2160 0 1 (192 : Nat) none) [((2160 : Nat), some (Ob.vec (4 : Nat) (1 : Nat) (192 : Nat) fun q => renL [((10 : Nat), (2160 : Nat))] (rowG encB (kpL w (192 : Nat)) q)))], CallOK Try.prog (31 : Nat) ([] ++ [AV.ptr 21 0 0 0, AV.sl 2160 0 1 (192 : Nat) none] ++ []) [((21 : Nat), Ob.box (dbox (0 : Nat) k2)), ((2160 : Nat), Ob.vec (4 : Nat) (1 : Nat) (192 : Nat) fun q => renL [((10 : Nat), (2160 : Nat))] (rowG encB (kpL w (192 : Nat)) q))] (AV.tup []) [((21 : Nat), some (Ob.box (dbox (0 : Nat) k3)))], CallOK Try.prog (50 : Nat) ([] ++ [AV.ifc (170 : Nat) (AV.agg [AV.ptr 21 0 0 0, AV.val (Value.int IntKind.i64 (0 : Int)), AV.val (Value.int IntKind.i64 (0 : Int)), AV.val (Value.int IntKind.i64 (↑N : Int))])] ++ []) [((21 : Nat), Ob.box (dbox (0 : Nat) k3))] (AV.tup [AV.agg [AV.val (Value.bool true), AV.val (Value.int IntKind.i64 s), AV.val (Value.string t0)], AV.val (Value.int IntKind.i64 (0 : Int))]) [((21 : Nat), some (Ob.box (dbox (0 : Nat) k3)))], (true == true && (decide (s = s) && (decide (t0 = t0) && true))) = false, (true == true && (decide (s = (↑i : Int)) && (decide (t0 = t) && true))) = false]) rfl (by kernel_rfl) ⟨(decide_eq_true h1), (CallOK.simR (CallOK.ren (CallOK.own 9 2 (es := (1 : Nat)) (n := (5 : Nat)) (row := rowsOf txA (1 : Nat)) rfl rfl rfl w5) [(0, 20), (2, 22), (1, 1)] [0, 2, 1] rfl rfl rfl rfl ⟨rfl, rfl, rfl, fun _ => rfl, rfl, closed_rows rfl, trivial⟩ rfl ⟨rfl, rfl, rfl, fun _ => rfl, rfl, closed_rows rfl, trivial⟩) (HpSim.cons rfl (OSim.refl _) (HpSim.cons rfl (OSim.refl _) (HpSim.cons rfl (OSim.rowsV rfl) HpSim.nil)))), (CallOK.ren pr [(0, 21)] [0] rfl rfl rfl rfl ⟨rfl, trivial, trivial⟩ rfl ⟨rfl, trivial, trivial⟩), (CallOK.ren sw [(0, 21)] [0] rfl rfl rfl rfl ⟨rfl, trivial, trivial⟩ rfl ⟨rfl, trivial, trivial⟩), (CallOK.ren kp [(10, 2160)] [10] rfl rfl rfl rfl trivial rfl ⟨rfl, fun _ => rfl, trivial⟩), (CallOK.ren rs [(0, 21), (1, 2160)] [0, 1] rfl rfl rfl rfl ⟨rfl, trivial, rfl, fun _ => rfl, trivial⟩ rfl ⟨rfl, trivial, rfl, fun _ => rfl, trivial⟩), (CallOK.ren rd [(0, 21)] [0] rfl rfl rfl rfl ⟨rfl, trivial, trivial⟩ rfl ⟨rfl, trivial, trivial⟩), (by simpa using hc1), (by simpa using hc2), trivial⟩ ?_ ⟨ObLe.refl _, trivial⟩ ⟨rfl, fun _ => rfl, trivial⟩ rfl
    case' ga2 =>
      refine Safe.ends mixed Try.func10 43 [⟨1100, [(1, .tt true)]⟩, ⟨1200, [(2, .call [20, 1, 22] (S t) [(20, some (.blk 139 [.sl 1 0 1 m none, I ((↑p2 : Int))]))])]⟩, ⟨1300, [(3, .call [21] (I 0) [(21, some (.box (dbox (0 : Nat) k1)))])]⟩, ⟨1400, []⟩, ⟨1500, []⟩, ⟨1600, []⟩, ⟨1700, []⟩, ⟨1800, [(1, .call [21] (I 5) [(21, some (.box (dbox (0 : Nat) k2)))])]⟩, ⟨1900, []⟩, ⟨2000, []⟩, ⟨2100, [(2, .call [] (.sl 2160 0 1 192 none) [(2160, some (.vec 4 1 192 (fun q => renL [((10 : Nat), (2160 : Nat))] (rowG encB (kpL w (192 : Nat)) q))))]), (3, .call [21, 2160] (.tup []) [(21, some (.box (dbox (0 : Nat) k3)))])]⟩, ⟨2200, [(1, .call [21] (.tup [.agg [B true, I s, S t0], I 0]) [(21, some (.box (dbox (0 : Nat) k3)))])]⟩, ⟨2300, []⟩, ⟨2400, [(12, .tt false), (18, .tt true), (23, .call [] (B true) [])]⟩] (r := B true) (hp := [(1, .ro 1 z.length (rowG encI z))]) (ob := [decide ((↑i : Int) < (9 : Int)) = true, CallOK Try.prog (47 : Nat) ([] ++ [AV.ptr 20 0 0 0, AV.sl 22 0 1 (5 : Nat) none] ++ []) [((20 : Nat), Ob.blk (139 : Nat) [AV.sl 1 0 1 m none, AV.val (Value.int IntKind.i64 (↑p : Int))]), ((1 : Nat), Ob.ro (1 : Nat) z.length (rowG encI z)), ((22 : Nat), Ob.vec (9 : Nat) (1 : Nat) (5 : Nat) (rowsOf [AV.val (Value.string (ByteArray.mk #[(97 : UInt8)])), AV.val (Value.string (ByteArray.mk #[(101 : UInt8), (105 : UInt8), (103 : UInt8), (104 : UInt8), (116 : UInt8), (32 : UInt8), (98 : UInt8), (121 : UInt8)])), AV.val (Value.string (ByteArray.mk #[(115 : UInt8), (111 : UInt8), (109 : UInt8), (101 : UInt8), (32 : UInt8), (108 : UInt8), (111 : UInt8), (110 : UInt8), (103 : UInt8), (101 : UInt8), (114 : UInt8), (32 : UInt8), (116 : UInt8), (101 : UInt8), (120 : UInt8), (116 : UInt8)])), AV.val (Value.string (ByteArray.mk #[(118 : UInt8), (103 : UInt8), (32 : UInt8), (123 : UInt8), (32 : UInt8), (125 : UInt8)])), AV.val (Value.string (ByteArray.mk #[]))] (1 : Nat)))] (AV.val (Value.string t)) [((20 : Nat), some (Ob.blk (139 : Nat) [AV.sl 1 0 1 m none, AV.val (Value.int IntKind.i64 (↑p2 : Int))]))], CallOK Try.prog (53 : Nat) ([] ++ [AV.ifc (170 : Nat) (AV.agg [AV.ptr 21 0 0 0, AV.val (Value.int IntKind.i64 (0 : Int)), AV.val (Value.int IntKind.i64 (0 : Int)), AV.val (Value.int IntKind.i64 (↑N : Int))]), AV.val (Value.int IntKind.i64 (↑i : Int)), AV.val (Value.string t)] ++ []) [((21 : Nat), Ob.box (dbox (0 : Nat) k))] (AV.val (Value.int IntKind.i64 (0 : Int))) [((21 : Nat), some (Ob.box (dbox (0 : Nat) k1)))], CallOK Try.prog (54 : Nat) ([] ++ [AV.ifc (170 : Nat) (AV.agg [AV.ptr 21 0 0 0, AV.val (Value.int IntKind.i64 (0 : Int)), AV.val (Value.int IntKind.i64 (0 : Int)), AV.val (Value.int IntKind.i64 (↑N : Int))])] ++ []) [((21 : Nat), Ob.box (dbox (0 : Nat) k1))] (AV.val (Value.int IntKind.i64 (5 : Int))) [((21 : Nat), some (Ob.box (dbox (0 : Nat) k2)))], CallOK Try.prog (32 : Nat) ([] ++ [AV.val (Value.int IntKind.u64 w)] ++ []) [] (AV.sl 2160 0 1 (192 : Nat) none) [((2160 : Nat), some (Ob.vec (4 : Nat) (1 : Nat) (192 : Nat) fun q => renL [((10 : Nat), (2160 : Nat))] (rowG encB (kpL w (192 : Nat)) q)))], CallOK Try.prog (31 : Nat) ([] ++ [AV.ptr 21 0 0 0, AV.sl 2160 0 1 (192 : Nat) none] ++ []) [((21 : Nat), Ob.box (dbox (0 : Nat) k2)), ((2160 : Nat), Ob.vec (4 : Nat) (1 : Nat) (192 : Nat) fun q => renL [((10 : Nat), (2160 : Nat))] (rowG encB (kpL w (192 : Nat)) q))] (AV.tup []) [((21 : Nat), some (Ob.box (dbox (0 : Nat) k3)))], CallOK Try.prog (50 : Nat) ([] ++ [AV.ifc (170 : Nat) (AV.agg [AV.ptr 21 0 0 0, AV.val (Value.int IntKind.i64 (0 : Int)), AV.val (Value.int IntKind.i64 (0 : Int)), AV.val (Value.int IntKind.i64 (↑N : Int))])] ++ []) [((21 : Nat), Ob.box (dbox (0 : Nat) k3))] (AV.tup [AV.agg [AV.val (Value.bool true), AV.val (Value.int IntKind.i64 s), AV.val (Value.string t0)], AV.val (Value.int IntKind.i64 (0 : Int))]) [((21 : Nat), some (Ob.box (dbox (0 : Nat) k3)))], (true == true && (decide (s = s) && (decide (t0 = t0) && true))) = false, (true == true && (decide (s = (↑i : Int)) && (decide (t0 = t) && true))) = true, CallOK Try.prog (41 : Nat) ([] ++ [] ++ []) [] (AV.val (Value.bool true)) []]) rfl (by kernel_rfl) ⟨(decide_eq_true h1), (CallOK.simR (CallOK.ren (CallOK.own 9 2 (es := (1 : Nat)) (n := (5 : Nat)) (row := rowsOf txA (1 : Nat)) rfl rfl rfl w5) [(0, 20), (2, 22), (1, 1)] [0, 2, 1] rfl rfl rfl rfl ⟨rfl, rfl, rfl, fun _ => rfl, rfl, closed_rows rfl, trivial⟩ rfl ⟨rfl, rfl, rfl, fun _ => rfl, rfl, closed_rows rfl, trivial⟩) (HpSim.cons rfl (OSim.refl _) (HpSim.cons rfl (OSim.refl _) (HpSim.cons rfl (OSim.rowsV rfl) HpSim.nil)))), (CallOK.ren pr [(0, 21)] [0] rfl rfl rfl rfl ⟨rfl, trivial, trivial⟩ rfl ⟨rfl, trivial, trivial⟩), (CallOK.ren sw [(0, 21)] [0] rfl rfl rfl rfl ⟨rfl, trivial, trivial⟩ rfl ⟨rfl, trivial, trivial⟩), (CallOK.ren kp [(10, 2160)] [10] rfl rfl rfl rfl trivial rfl ⟨rfl, fun _ => rfl, trivial⟩), (CallOK.ren rs [(0, 21), (1, 2160)] [0, 1] rfl rfl rfl rfl ⟨rfl, trivial, rfl, fun _ => rfl, trivial⟩ rfl ⟨rfl, trivial, rfl, fun _ => rfl, trivial⟩), (CallOK.ren rd [(0, 21)] [0] rfl rfl rfl rfl ⟨rfl, trivial, trivial⟩ rfl ⟨rfl, trivial, trivial⟩), (by simpa using hc1), hc2, aw, trivial⟩ rfl ⟨ObLe.refl _, trivial⟩ ⟨rfl, fun _ => rfl, trivial⟩ rfl
  case' ga1 =>
    refine Safe.ends mixed Try.func10 43 [⟨1100, [(1, .tt true)]⟩, ⟨1200, [(2, .call [20, 1, 22] (S t) [(20, some (.blk 139 [.sl 1 0 1 m none, I ((↑p2 : Int))]))])]⟩, ⟨1300, [(3, .call [21] (I 0) [(21, some (.box (dbox (0 : Nat) k1)))])]⟩, ⟨1400, []⟩, ⟨1500, []⟩, ⟨1600, []⟩, ⟨1700, []⟩, ⟨1800, [(1, .call [21] (I 5) [(21, some (.box (dbox (0 : Nat) k2)))])]⟩, ⟨1900, []⟩, ⟨2000, []⟩, ⟨2100, [(2, .call [] (.sl 2160 0 1 192 none) [(2160, some (.vec 4 1 192 (fun q => renL [((10 : Nat), (2160 : Nat))] (rowG encB (kpL w (192 : Nat)) q))))]), (3, .call [21, 2160] (.tup []) [(21, some (.box (dbox (0 : Nat) k3)))])]⟩, ⟨2200, [(1, .call [21] (.tup [.agg [B true, I s, S t0], I 0]) [(21, some (.box (dbox (0 : Nat) k3)))])]⟩, ⟨2300, []⟩, ⟨2400, [(12, .tt true), (23, .call [] (B true) [])]⟩] (r := B true) (hp := [(1, .ro 1 z.length (rowG encI z))]) (ob := [decide ((↑i : Int) < (9 : Int)) = true, CallOK Try.prog (47 : Nat) ([] ++ [AV.ptr 20 0 0 0, AV.sl 22 0 1 (5 : Nat) none] ++ []) [((20 : Nat), Ob.blk (139 : Nat) [AV.sl 1 0 1 m none, AV.val (Value.int IntKind.i64 (↑p : Int))]), ((1 : Nat), Ob.ro (1 : Nat) z.length (rowG encI z)), ((22 : Nat), Ob.vec (9 : Nat) (1 : Nat) (5 : Nat) (rowsOf [AV.val (Value.string (ByteArray.mk #[(97 : UInt8)])), AV.val (Value.string (ByteArray.mk #[(101 : UInt8), (105 : UInt8), (103 : UInt8), (104 : UInt8), (116 : UInt8), (32 : UInt8), (98 : UInt8), (121 : UInt8)])), AV.val (Value.string (ByteArray.mk #[(115 : UInt8), (111 : UInt8), (109 : UInt8), (101 : UInt8), (32 : UInt8), (108 : UInt8), (111 : UInt8), (110 : UInt8), (103 : UInt8), (101 : UInt8), (114 : UInt8), (32 : UInt8), (116 : UInt8), (101 : UInt8), (120 : UInt8), (116 : UInt8)])), AV.val (Value.string (ByteArray.mk #[(118 : UInt8), (103 : UInt8), (32 : UInt8), (123 : UInt8), (32 : UInt8), (125 : UInt8)])), AV.val (Value.string (ByteArray.mk #[]))] (1 : Nat)))] (AV.val (Value.string t)) [((20 : Nat), some (Ob.blk (139 : Nat) [AV.sl 1 0 1 m none, AV.val (Value.int IntKind.i64 (↑p2 : Int))]))], CallOK Try.prog (53 : Nat) ([] ++ [AV.ifc (170 : Nat) (AV.agg [AV.ptr 21 0 0 0, AV.val (Value.int IntKind.i64 (0 : Int)), AV.val (Value.int IntKind.i64 (0 : Int)), AV.val (Value.int IntKind.i64 (↑N : Int))]), AV.val (Value.int IntKind.i64 (↑i : Int)), AV.val (Value.string t)] ++ []) [((21 : Nat), Ob.box (dbox (0 : Nat) k))] (AV.val (Value.int IntKind.i64 (0 : Int))) [((21 : Nat), some (Ob.box (dbox (0 : Nat) k1)))], CallOK Try.prog (54 : Nat) ([] ++ [AV.ifc (170 : Nat) (AV.agg [AV.ptr 21 0 0 0, AV.val (Value.int IntKind.i64 (0 : Int)), AV.val (Value.int IntKind.i64 (0 : Int)), AV.val (Value.int IntKind.i64 (↑N : Int))])] ++ []) [((21 : Nat), Ob.box (dbox (0 : Nat) k1))] (AV.val (Value.int IntKind.i64 (5 : Int))) [((21 : Nat), some (Ob.box (dbox (0 : Nat) k2)))], CallOK Try.prog (32 : Nat) ([] ++ [AV.val (Value.int IntKind.u64 w)] ++ []) [] (AV.sl 2160 0 1 (192 : Nat) none) [((2160 : Nat), some (Ob.vec (4 : Nat) (1 : Nat) (192 : Nat) fun q => renL [((10 : Nat), (2160 : Nat))] (rowG encB (kpL w (192 : Nat)) q)))], CallOK Try.prog (31 : Nat) ([] ++ [AV.ptr 21 0 0 0, AV.sl 2160 0 1 (192 : Nat) none] ++ []) [((21 : Nat), Ob.box (dbox (0 : Nat) k2)), ((2160 : Nat), Ob.vec (4 : Nat) (1 : Nat) (192 : Nat) fun q => renL [((10 : Nat), (2160 : Nat))] (rowG encB (kpL w (192 : Nat)) q))] (AV.tup []) [((21 : Nat), some (Ob.box (dbox (0 : Nat) k3)))], CallOK Try.prog (50 : Nat) ([] ++ [AV.ifc (170 : Nat) (AV.agg [AV.ptr 21 0 0 0, AV.val (Value.int IntKind.i64 (0 : Int)), AV.val (Value.int IntKind.i64 (0 : Int)), AV.val (Value.int IntKind.i64 (↑N : Int))])] ++ []) [((21 : Nat), Ob.box (dbox (0 : Nat) k3))] (AV.tup [AV.agg [AV.val (Value.bool true), AV.val (Value.int IntKind.i64 s), AV.val (Value.string t0)], AV.val (Value.int IntKind.i64 (0 : Int))]) [((21 : Nat), some (Ob.box (dbox (0 : Nat) k3)))], (true == true && (decide (s = s) && (decide (t0 = t0) && true))) = true, CallOK Try.prog (41 : Nat) ([] ++ [] ++ []) [] (AV.val (Value.bool true)) []]) rfl (by kernel_rfl) ⟨(decide_eq_true h1), (CallOK.simR (CallOK.ren (CallOK.own 9 2 (es := (1 : Nat)) (n := (5 : Nat)) (row := rowsOf txA (1 : Nat)) rfl rfl rfl w5) [(0, 20), (2, 22), (1, 1)] [0, 2, 1] rfl rfl rfl rfl ⟨rfl, rfl, rfl, fun _ => rfl, rfl, closed_rows rfl, trivial⟩ rfl ⟨rfl, rfl, rfl, fun _ => rfl, rfl, closed_rows rfl, trivial⟩) (HpSim.cons rfl (OSim.refl _) (HpSim.cons rfl (OSim.refl _) (HpSim.cons rfl (OSim.rowsV rfl) HpSim.nil)))), (CallOK.ren pr [(0, 21)] [0] rfl rfl rfl rfl ⟨rfl, trivial, trivial⟩ rfl ⟨rfl, trivial, trivial⟩), (CallOK.ren sw [(0, 21)] [0] rfl rfl rfl rfl ⟨rfl, trivial, trivial⟩ rfl ⟨rfl, trivial, trivial⟩), (CallOK.ren kp [(10, 2160)] [10] rfl rfl rfl rfl trivial rfl ⟨rfl, fun _ => rfl, trivial⟩), (CallOK.ren rs [(0, 21), (1, 2160)] [0, 1] rfl rfl rfl rfl ⟨rfl, trivial, rfl, fun _ => rfl, trivial⟩ rfl ⟨rfl, trivial, rfl, fun _ => rfl, trivial⟩), (CallOK.ren rd [(0, 21)] [0] rfl rfl rfl rfl ⟨rfl, trivial, trivial⟩ rfl ⟨rfl, trivial, trivial⟩), hc1, aw, trivial⟩ rfl ⟨ObLe.refl _, trivial⟩ ⟨rfl, fun _ => rfl, trivial⟩ rfl
  all_goals first | trivial | exact absurd (by simp) ‹_› | (simp_all; done)
set_option maxHeartbeats 8000000 in
theorem crE_s (z : List Int) (w : Int) (m p p2 N i : Nat) (hm : m ≤ 1000) (hz : m ≤ z.length) (hi : 1 ≤ i ∧ i ≤ 8) (s : Int) (t0 : ByteArray) (t : ByteArray) (k k1 k2 k3 : Dk)
    (w5 : CallOK Try.prog 47 [.ptr 0 0 0 0, .sl 2 0 1 5 none] [(0, .blk 139 [.sl 1 0 1 m none, I p]), (1, .ro 1 z.length (rowG encI z)), (2, .ro 1 5 (rowsOf txA 1))] (S t) [(0, some (.blk 139 [.sl 1 0 1 m none, I p2]))])
    (pr : CallOK Try.prog 53 [spn N, I (i : Int), S t] [(0, .box (dbox 0 k))] (I 0) [(0, some (.box (dbox 0 k1)))])
    (sw : CallOK Try.prog 54 [spn N] [(0, .box (dbox 0 k1))] (I 5) [(0, some (.box (dbox 0 k2)))])
    (rs : CallOK Try.prog 31 [.ptr 0 0 0 0, .sl 1 0 1 192 none] [(0, .box (dbox 0 k2)), (1, .vec 4 1 192 (rowG encB (kpL w 192)))] (.tup []) [(0, some (.box (dbox 0 k3)))])
    (rd : CallOK Try.prog 50 [spn N] [(0, .box (dbox 0 k3))] (.tup [cpy true (i : Int) (S t), I 0]) [(0, some (.box (dbox 0 k3)))]) :
    Safe Try.prog 10 [(1, .ro 1 z.length (rowG encI z))] (B true) [] (loopAt Try.f10 0) ⟨slotsOf 122 [(2, U w), (7, .ptr 20 0 0 0), (8, .ptr 21 0 0 0), (9, .ifc 170 (.agg [.ptr 21 0 0 0, I 0, I 0, I N])), (10, .sl 22 0 1 5 none), (11, .ptr 23 0 0 0), (12, .ptr 24 0 0 0), (13, I i)], [(1, .ro 1 z.length (rowG encI z)), (20, .blk 139 [.sl 1 0 1 m none, I p]), (21, .box (dbox 0 k)), (22, .vec 9 1 5 (rowsOf txA 1)), (23, .blk 88 [B true, I s, S t0]), (24, .blk 88 [B true, I s, S t0])]⟩ [1, 20, 21, 22, 23, 24] := by
  have aw := rawake_any
  have kp := keep_any w
  have h1 : (i : Int) < 9 := by omega
  refine (Classical.em ((true == true && (decide ((↑i : Int) = s) && (decide (t = t0) && true))) = true)).elim (fun hc1 => ?ga3) (fun hc1 => ?gb3)
  case' gb3 =>
    refine (Classical.em ((true == true && (decide ((↑i : Int) = (↑i : Int)) && (decide (t = t) && true))) = true)).elim (fun hc2 => ?ga4) (fun hc2 => ?gb4)
    case' gb4 =>
      refine Safe.ends mixed Try.func10 43 [⟨1100, [(1, .tt true)]⟩, ⟨1200, [(2, .call [20, 1, 22] (S t) [(20, some (.blk 139 [.sl 1 0 1 m none, I ((↑p2 : Int))]))])]⟩, ⟨1300, [(3, .call [21] (I 0) [(21, some (.box (dbox (0 : Nat) k1)))])]⟩, ⟨1400, []⟩, ⟨1500, []⟩, ⟨1600, []⟩, ⟨1700, []⟩, ⟨1800, [(1, .call [21] (I 5) [(21, some (.box (dbox (0 : Nat) k2)))])]⟩, ⟨1900, []⟩, ⟨2000, []⟩, ⟨2100, [(2, .call [] (.sl 2160 0 1 192 none) [(2160, some (.vec 4 1 192 (fun q => renL [((10 : Nat), (2160 : Nat))] (rowG encB (kpL w (192 : Nat)) q))))]), (3, .call [21, 2160] (.tup []) [(21, some (.box (dbox (0 : Nat) k3)))])]⟩, ⟨2200, [(1, .call [21] (.tup [.agg [B true, I ((↑i : Int)), S t], I 0]) [(21, some (.box (dbox (0 : Nat) k3)))])]⟩, ⟨2300, []⟩, ⟨2400, [(12, .tt false), (18, .tt false)]⟩] (r := B false) (hp := [(1, .ro 1 z.length (rowG encI z))]) (ob := [decide ((↑i : Int) < (9 : Int)) = true, CallOK Try.prog (47 : Nat) ([] ++ [AV.ptr 20 0 0 0, AV.sl 22 0 1 (5 : Nat) none] ++ []) [((20 : Nat), Ob.blk (139 : Nat) [AV.sl 1 0 1 m none, AV.val (Value.int IntKind.i64 (↑p : Int))]), ((1 : Nat), Ob.ro (1 : Nat) z.length (rowG encI z)), ((22 : Nat), Ob.vec (9 : Nat) (1 : Nat) (5 : Nat) (rowsOf [AV.val (Value.string (ByteArray.mk #[(97 : UInt8)])), AV.val (Value.string (ByteArray.mk #[(101 : UInt8), (105 : UInt8), (103 : UInt8), (104 : UInt8), (116 : UInt8), (32 : UInt8), (98 : UInt8), (121 : UInt8)])), AV.val (Value.string (ByteArray.mk #[(115 : UInt8), (111 : UInt8), (109 : UInt8), (101 : UInt8), (32 : UInt8), (108 : UInt8), (111 : UInt8), (110 : UInt8), (103 : UInt8), (101 : UInt8), (114 : UInt8), (32 : UInt8), (116 : UInt8), (101 : UInt8), (120 : UInt8), (116 : UInt8)])), AV.val (Value.string (ByteArray.mk #[(118 : UInt8), (103 : UInt8), (32 : UInt8), (123 : UInt8), (32 : UInt8), (125 : UInt8)])), AV.val (Value.string (ByteArray.mk #[]))] (1 : Nat)))] (AV.val (Value.string t)) [((20 : Nat), some (Ob.blk (139 : Nat) [AV.sl 1 0 1 m none, AV.val (Value.int IntKind.i64 (↑p2 : Int))]))], CallOK Try.prog (53 : Nat) ([] ++ [AV.ifc (170 : Nat) (AV.agg [AV.ptr 21 0 0 0, AV.val (Value.int IntKind.i64 (0 : Int)), AV.val (Value.int IntKind.i64 (0 : Int)), AV.val (Value.int IntKind.i64 (↑N : Int))]), AV.val (Value.int IntKind.i64 (↑i : Int)), AV.val (Value.string t)] ++ []) [((21 : Nat), Ob.box (dbox (0 : Nat) k))] (AV.val (Value.int IntKind.i64 (0 : Int))) [((21 : Nat), some (Ob.box (dbox (0 : Nat) k1)))], CallOK Try.prog (54 : Nat) ([] ++ [AV.ifc (170 : Nat) (AV.agg [AV.ptr 21 0 0 0, AV.val (Value.int IntKind.i64 (0 : Int)), AV.val (Value.int IntKind.i64 (0 : Int)), AV.val (Value.int IntKind.i64 (↑N : Int))])] ++ []) [((21 : Nat), Ob.box (dbox (0 : Nat) k1))] (AV.val (Value.int IntKind.i64 (5 : Int))) [((21 : Nat), some (Ob.box (dbox (0 : Nat) k2)))], CallOK Try.prog (32 : Nat) ([] ++ [AV.val (Value.int IntKind.u64 w)] ++ []) [] (AV.sl 2160 0 1 (192 : Nat) none) [((2160 : Nat), some (Ob.vec (4 : Nat) (1 : Nat) (192 : Nat) fun q => renL [((10 : Nat), (2160 : Nat))] (rowG encB (kpL w (192 : Nat)) q)))], CallOK Try.prog (31 : Nat) ([] ++ [AV.ptr 21 0 0 0, AV.sl 2160 0 1 (192 : Nat) none] ++ []) [((21 : Nat), Ob.box (dbox (0 : Nat) k2)), ((2160 : Nat), Ob.vec (4 : Nat) (1 : Nat) (192 : Nat) fun q => renL [((10 : Nat), (2160 : Nat))] (rowG encB (kpL w (192 : Nat)) q))] (AV.tup []) [((21 : Nat), some (Ob.box (dbox (0 : Nat) k3)))], CallOK Try.prog (50 : Nat) ([] ++ [AV.ifc (170 : Nat) (AV.agg [AV.ptr 21 0 0 0, AV.val (Value.int IntKind.i64 (0 : Int)), AV.val (Value.int IntKind.i64 (0 : Int)), AV.val (Value.int IntKind.i64 (↑N : Int))])] ++ []) [((21 : Nat), Ob.box (dbox (0 : Nat) k3))] (AV.tup [AV.agg [AV.val (Value.bool true), AV.val (Value.int IntKind.i64 (↑i : Int)), AV.val (Value.string t)], AV.val (Value.int IntKind.i64 (0 : Int))]) [((21 : Nat), some (Ob.box (dbox (0 : Nat) k3)))], (true == true && (decide ((↑i : Int) = s) && (decide (t = t0) && true))) = false, (true == true && (decide ((↑i : Int) = (↑i : Int)) && (decide (t = t) && true))) = false]) rfl (by kernel_rfl) ⟨(decide_eq_true h1), (CallOK.simR (CallOK.ren (CallOK.own 9 2 (es := (1 : Nat)) (n := (5 : Nat)) (row := rowsOf txA (1 : Nat)) rfl rfl rfl w5) [(0, 20), (2, 22), (1, 1)] [0, 2, 1] rfl rfl rfl rfl ⟨rfl, rfl, rfl, fun _ => rfl, rfl, closed_rows rfl, trivial⟩ rfl ⟨rfl, rfl, rfl, fun _ => rfl, rfl, closed_rows rfl, trivial⟩) (HpSim.cons rfl (OSim.refl _) (HpSim.cons rfl (OSim.refl _) (HpSim.cons rfl (OSim.rowsV rfl) HpSim.nil)))), (CallOK.ren pr [(0, 21)] [0] rfl rfl rfl rfl ⟨rfl, trivial, trivial⟩ rfl ⟨rfl, trivial, trivial⟩), (CallOK.ren sw [(0, 21)] [0] rfl rfl rfl rfl ⟨rfl, trivial, trivial⟩ rfl ⟨rfl, trivial, trivial⟩), (CallOK.ren kp [(10, 2160)] [10] rfl rfl rfl rfl trivial rfl ⟨rfl, fun _ => rfl, trivial⟩), (CallOK.ren rs [(0, 21), (1, 2160)] [0, 1] rfl rfl rfl rfl ⟨rfl, trivial, rfl, fun _ => rfl, trivial⟩ rfl ⟨rfl, trivial, rfl, fun _ => rfl, trivial⟩), (CallOK.ren rd [(0, 21)] [0] rfl rfl rfl rfl ⟨rfl, trivial, trivial⟩ rfl ⟨rfl, trivial, trivial⟩), (by simpa using hc1), (by simpa using hc2), trivial⟩ ?_ ⟨ObLe.refl _, trivial⟩ ⟨rfl, fun _ => rfl, trivial⟩ rfl
    case' ga4 =>
      refine Safe.ends mixed Try.func10 43 [⟨1100, [(1, .tt true)]⟩, ⟨1200, [(2, .call [20, 1, 22] (S t) [(20, some (.blk 139 [.sl 1 0 1 m none, I ((↑p2 : Int))]))])]⟩, ⟨1300, [(3, .call [21] (I 0) [(21, some (.box (dbox (0 : Nat) k1)))])]⟩, ⟨1400, []⟩, ⟨1500, []⟩, ⟨1600, []⟩, ⟨1700, []⟩, ⟨1800, [(1, .call [21] (I 5) [(21, some (.box (dbox (0 : Nat) k2)))])]⟩, ⟨1900, []⟩, ⟨2000, []⟩, ⟨2100, [(2, .call [] (.sl 2160 0 1 192 none) [(2160, some (.vec 4 1 192 (fun q => renL [((10 : Nat), (2160 : Nat))] (rowG encB (kpL w (192 : Nat)) q))))]), (3, .call [21, 2160] (.tup []) [(21, some (.box (dbox (0 : Nat) k3)))])]⟩, ⟨2200, [(1, .call [21] (.tup [.agg [B true, I ((↑i : Int)), S t], I 0]) [(21, some (.box (dbox (0 : Nat) k3)))])]⟩, ⟨2300, []⟩, ⟨2400, [(12, .tt false), (18, .tt true), (23, .call [] (B true) [])]⟩] (r := B true) (hp := [(1, .ro 1 z.length (rowG encI z))]) (ob := [decide ((↑i : Int) < (9 : Int)) = true, CallOK Try.prog (47 : Nat) ([] ++ [AV.ptr 20 0 0 0, AV.sl 22 0 1 (5 : Nat) none] ++ []) [((20 : Nat), Ob.blk (139 : Nat) [AV.sl 1 0 1 m none, AV.val (Value.int IntKind.i64 (↑p : Int))]), ((1 : Nat), Ob.ro (1 : Nat) z.length (rowG encI z)), ((22 : Nat), Ob.vec (9 : Nat) (1 : Nat) (5 : Nat) (rowsOf [AV.val (Value.string (ByteArray.mk #[(97 : UInt8)])), AV.val (Value.string (ByteArray.mk #[(101 : UInt8), (105 : UInt8), (103 : UInt8), (104 : UInt8), (116 : UInt8), (32 : UInt8), (98 : UInt8), (121 : UInt8)])), AV.val (Value.string (ByteArray.mk #[(115 : UInt8), (111 : UInt8), (109 : UInt8), (101 : UInt8), (32 : UInt8), (108 : UInt8), (111 : UInt8), (110 : UInt8), (103 : UInt8), (101 : UInt8), (114 : UInt8), (32 : UInt8), (116 : UInt8), (101 : UInt8), (120 : UInt8), (116 : UInt8)])), AV.val (Value.string (ByteArray.mk #[(118 : UInt8), (103 : UInt8), (32 : UInt8), (123 : UInt8), (32 : UInt8), (125 : UInt8)])), AV.val (Value.string (ByteArray.mk #[]))] (1 : Nat)))] (AV.val (Value.string t)) [((20 : Nat), some (Ob.blk (139 : Nat) [AV.sl 1 0 1 m none, AV.val (Value.int IntKind.i64 (↑p2 : Int))]))], CallOK Try.prog (53 : Nat) ([] ++ [AV.ifc (170 : Nat) (AV.agg [AV.ptr 21 0 0 0, AV.val (Value.int IntKind.i64 (0 : Int)), AV.val (Value.int IntKind.i64 (0 : Int)), AV.val (Value.int IntKind.i64 (↑N : Int))]), AV.val (Value.int IntKind.i64 (↑i : Int)), AV.val (Value.string t)] ++ []) [((21 : Nat), Ob.box (dbox (0 : Nat) k))] (AV.val (Value.int IntKind.i64 (0 : Int))) [((21 : Nat), some (Ob.box (dbox (0 : Nat) k1)))], CallOK Try.prog (54 : Nat) ([] ++ [AV.ifc (170 : Nat) (AV.agg [AV.ptr 21 0 0 0, AV.val (Value.int IntKind.i64 (0 : Int)), AV.val (Value.int IntKind.i64 (0 : Int)), AV.val (Value.int IntKind.i64 (↑N : Int))])] ++ []) [((21 : Nat), Ob.box (dbox (0 : Nat) k1))] (AV.val (Value.int IntKind.i64 (5 : Int))) [((21 : Nat), some (Ob.box (dbox (0 : Nat) k2)))], CallOK Try.prog (32 : Nat) ([] ++ [AV.val (Value.int IntKind.u64 w)] ++ []) [] (AV.sl 2160 0 1 (192 : Nat) none) [((2160 : Nat), some (Ob.vec (4 : Nat) (1 : Nat) (192 : Nat) fun q => renL [((10 : Nat), (2160 : Nat))] (rowG encB (kpL w (192 : Nat)) q)))], CallOK Try.prog (31 : Nat) ([] ++ [AV.ptr 21 0 0 0, AV.sl 2160 0 1 (192 : Nat) none] ++ []) [((21 : Nat), Ob.box (dbox (0 : Nat) k2)), ((2160 : Nat), Ob.vec (4 : Nat) (1 : Nat) (192 : Nat) fun q => renL [((10 : Nat), (2160 : Nat))] (rowG encB (kpL w (192 : Nat)) q))] (AV.tup []) [((21 : Nat), some (Ob.box (dbox (0 : Nat) k3)))], CallOK Try.prog (50 : Nat) ([] ++ [AV.ifc (170 : Nat) (AV.agg [AV.ptr 21 0 0 0, AV.val (Value.int IntKind.i64 (0 : Int)), AV.val (Value.int IntKind.i64 (0 : Int)), AV.val (Value.int IntKind.i64 (↑N : Int))])] ++ []) [((21 : Nat), Ob.box (dbox (0 : Nat) k3))] (AV.tup [AV.agg [AV.val (Value.bool true), AV.val (Value.int IntKind.i64 (↑i : Int)), AV.val (Value.string t)], AV.val (Value.int IntKind.i64 (0 : Int))]) [((21 : Nat), some (Ob.box (dbox (0 : Nat) k3)))], (true == true && (decide ((↑i : Int) = s) && (decide (t = t0) && true))) = false, (true == true && (decide ((↑i : Int) = (↑i : Int)) && (decide (t = t) && true))) = true, CallOK Try.prog (41 : Nat) ([] ++ [] ++ []) [] (AV.val (Value.bool true)) []]) rfl (by kernel_rfl) ⟨(decide_eq_true h1), (CallOK.simR (CallOK.ren (CallOK.own 9 2 (es := (1 : Nat)) (n := (5 : Nat)) (row := rowsOf txA (1 : Nat)) rfl rfl rfl w5) [(0, 20), (2, 22), (1, 1)] [0, 2, 1] rfl rfl rfl rfl ⟨rfl, rfl, rfl, fun _ => rfl, rfl, closed_rows rfl, trivial⟩ rfl ⟨rfl, rfl, rfl, fun _ => rfl, rfl, closed_rows rfl, trivial⟩) (HpSim.cons rfl (OSim.refl _) (HpSim.cons rfl (OSim.refl _) (HpSim.cons rfl (OSim.rowsV rfl) HpSim.nil)))), (CallOK.ren pr [(0, 21)] [0] rfl rfl rfl rfl ⟨rfl, trivial, trivial⟩ rfl ⟨rfl, trivial, trivial⟩), (CallOK.ren sw [(0, 21)] [0] rfl rfl rfl rfl ⟨rfl, trivial, trivial⟩ rfl ⟨rfl, trivial, trivial⟩), (CallOK.ren kp [(10, 2160)] [10] rfl rfl rfl rfl trivial rfl ⟨rfl, fun _ => rfl, trivial⟩), (CallOK.ren rs [(0, 21), (1, 2160)] [0, 1] rfl rfl rfl rfl ⟨rfl, trivial, rfl, fun _ => rfl, trivial⟩ rfl ⟨rfl, trivial, rfl, fun _ => rfl, trivial⟩), (CallOK.ren rd [(0, 21)] [0] rfl rfl rfl rfl ⟨rfl, trivial, trivial⟩ rfl ⟨rfl, trivial, trivial⟩), (by simpa using hc1), hc2, aw, trivial⟩ rfl ⟨ObLe.refl _, trivial⟩ ⟨rfl, fun _ => rfl, trivial⟩ rfl
  case' ga3 =>
    refine Safe.ends mixed Try.func10 43 [⟨1100, [(1, .tt true)]⟩, ⟨1200, [(2, .call [20, 1, 22] (S t) [(20, some (.blk 139 [.sl 1 0 1 m none, I ((↑p2 : Int))]))])]⟩, ⟨1300, [(3, .call [21] (I 0) [(21, some (.box (dbox (0 : Nat) k1)))])]⟩, ⟨1400, []⟩, ⟨1500, []⟩, ⟨1600, []⟩, ⟨1700, []⟩, ⟨1800, [(1, .call [21] (I 5) [(21, some (.box (dbox (0 : Nat) k2)))])]⟩, ⟨1900, []⟩, ⟨2000, []⟩, ⟨2100, [(2, .call [] (.sl 2160 0 1 192 none) [(2160, some (.vec 4 1 192 (fun q => renL [((10 : Nat), (2160 : Nat))] (rowG encB (kpL w (192 : Nat)) q))))]), (3, .call [21, 2160] (.tup []) [(21, some (.box (dbox (0 : Nat) k3)))])]⟩, ⟨2200, [(1, .call [21] (.tup [.agg [B true, I ((↑i : Int)), S t], I 0]) [(21, some (.box (dbox (0 : Nat) k3)))])]⟩, ⟨2300, []⟩, ⟨2400, [(12, .tt true), (23, .call [] (B true) [])]⟩] (r := B true) (hp := [(1, .ro 1 z.length (rowG encI z))]) (ob := [decide ((↑i : Int) < (9 : Int)) = true, CallOK Try.prog (47 : Nat) ([] ++ [AV.ptr 20 0 0 0, AV.sl 22 0 1 (5 : Nat) none] ++ []) [((20 : Nat), Ob.blk (139 : Nat) [AV.sl 1 0 1 m none, AV.val (Value.int IntKind.i64 (↑p : Int))]), ((1 : Nat), Ob.ro (1 : Nat) z.length (rowG encI z)), ((22 : Nat), Ob.vec (9 : Nat) (1 : Nat) (5 : Nat) (rowsOf [AV.val (Value.string (ByteArray.mk #[(97 : UInt8)])), AV.val (Value.string (ByteArray.mk #[(101 : UInt8), (105 : UInt8), (103 : UInt8), (104 : UInt8), (116 : UInt8), (32 : UInt8), (98 : UInt8), (121 : UInt8)])), AV.val (Value.string (ByteArray.mk #[(115 : UInt8), (111 : UInt8), (109 : UInt8), (101 : UInt8), (32 : UInt8), (108 : UInt8), (111 : UInt8), (110 : UInt8), (103 : UInt8), (101 : UInt8), (114 : UInt8), (32 : UInt8), (116 : UInt8), (101 : UInt8), (120 : UInt8), (116 : UInt8)])), AV.val (Value.string (ByteArray.mk #[(118 : UInt8), (103 : UInt8), (32 : UInt8), (123 : UInt8), (32 : UInt8), (125 : UInt8)])), AV.val (Value.string (ByteArray.mk #[]))] (1 : Nat)))] (AV.val (Value.string t)) [((20 : Nat), some (Ob.blk (139 : Nat) [AV.sl 1 0 1 m none, AV.val (Value.int IntKind.i64 (↑p2 : Int))]))], CallOK Try.prog (53 : Nat) ([] ++ [AV.ifc (170 : Nat) (AV.agg [AV.ptr 21 0 0 0, AV.val (Value.int IntKind.i64 (0 : Int)), AV.val (Value.int IntKind.i64 (0 : Int)), AV.val (Value.int IntKind.i64 (↑N : Int))]), AV.val (Value.int IntKind.i64 (↑i : Int)), AV.val (Value.string t)] ++ []) [((21 : Nat), Ob.box (dbox (0 : Nat) k))] (AV.val (Value.int IntKind.i64 (0 : Int))) [((21 : Nat), some (Ob.box (dbox (0 : Nat) k1)))], CallOK Try.prog (54 : Nat) ([] ++ [AV.ifc (170 : Nat) (AV.agg [AV.ptr 21 0 0 0, AV.val (Value.int IntKind.i64 (0 : Int)), AV.val (Value.int IntKind.i64 (0 : Int)), AV.val (Value.int IntKind.i64 (↑N : Int))])] ++ []) [((21 : Nat), Ob.box (dbox (0 : Nat) k1))] (AV.val (Value.int IntKind.i64 (5 : Int))) [((21 : Nat), some (Ob.box (dbox (0 : Nat) k2)))], CallOK Try.prog (32 : Nat) ([] ++ [AV.val (Value.int IntKind.u64 w)] ++ []) [] (AV.sl 2160 0 1 (192 : Nat) none) [((2160 : Nat), some (Ob.vec (4 : Nat) (1 : Nat) (192 : Nat) fun q => renL [((10 : Nat), (2160 : Nat))] (rowG encB (kpL w (192 : Nat)) q)))], CallOK Try.prog (31 : Nat) ([] ++ [AV.ptr 21 0 0 0, AV.sl 2160 0 1 (192 : Nat) none] ++ []) [((21 : Nat), Ob.box (dbox (0 : Nat) k2)), ((2160 : Nat), Ob.vec (4 : Nat) (1 : Nat) (192 : Nat) fun q => renL [((10 : Nat), (2160 : Nat))] (rowG encB (kpL w (192 : Nat)) q))] (AV.tup []) [((21 : Nat), some (Ob.box (dbox (0 : Nat) k3)))], CallOK Try.prog (50 : Nat) ([] ++ [AV.ifc (170 : Nat) (AV.agg [AV.ptr 21 0 0 0, AV.val (Value.int IntKind.i64 (0 : Int)), AV.val (Value.int IntKind.i64 (0 : Int)), AV.val (Value.int IntKind.i64 (↑N : Int))])] ++ []) [((21 : Nat), Ob.box (dbox (0 : Nat) k3))] (AV.tup [AV.agg [AV.val (Value.bool true), AV.val (Value.int IntKind.i64 (↑i : Int)), AV.val (Value.string t)], AV.val (Value.int IntKind.i64 (0 : Int))]) [((21 : Nat), some (Ob.box (dbox (0 : Nat) k3)))], (true == true && (decide ((↑i : Int) = s) && (decide (t = t0) && true))) = true, CallOK Try.prog (41 : Nat) ([] ++ [] ++ []) [] (AV.val (Value.bool true)) []]) rfl (by kernel_rfl) ⟨(decide_eq_true h1), (CallOK.simR (CallOK.ren (CallOK.own 9 2 (es := (1 : Nat)) (n := (5 : Nat)) (row := rowsOf txA (1 : Nat)) rfl rfl rfl w5) [(0, 20), (2, 22), (1, 1)] [0, 2, 1] rfl rfl rfl rfl ⟨rfl, rfl, rfl, fun _ => rfl, rfl, closed_rows rfl, trivial⟩ rfl ⟨rfl, rfl, rfl, fun _ => rfl, rfl, closed_rows rfl, trivial⟩) (HpSim.cons rfl (OSim.refl _) (HpSim.cons rfl (OSim.refl _) (HpSim.cons rfl (OSim.rowsV rfl) HpSim.nil)))), (CallOK.ren pr [(0, 21)] [0] rfl rfl rfl rfl ⟨rfl, trivial, trivial⟩ rfl ⟨rfl, trivial, trivial⟩), (CallOK.ren sw [(0, 21)] [0] rfl rfl rfl rfl ⟨rfl, trivial, trivial⟩ rfl ⟨rfl, trivial, trivial⟩), (CallOK.ren kp [(10, 2160)] [10] rfl rfl rfl rfl trivial rfl ⟨rfl, fun _ => rfl, trivial⟩), (CallOK.ren rs [(0, 21), (1, 2160)] [0, 1] rfl rfl rfl rfl ⟨rfl, trivial, rfl, fun _ => rfl, trivial⟩ rfl ⟨rfl, trivial, rfl, fun _ => rfl, trivial⟩), (CallOK.ren rd [(0, 21)] [0] rfl rfl rfl rfl ⟨rfl, trivial, trivial⟩ rfl ⟨rfl, trivial, trivial⟩), hc1, aw, trivial⟩ rfl ⟨ObLe.refl _, trivial⟩ ⟨rfl, fun _ => rfl, trivial⟩ rfl
  all_goals first | trivial | exact absurd (by simp) ‹_› | (simp_all; done)
set_option maxHeartbeats 8000000 in
theorem crF_s (z : List Int) (w : Int) (m p p2 N i : Nat) (hm : m ≤ 1000) (hz : m ≤ z.length) (hi : i = 9) (s : Int) (t0 : ByteArray) (t : ByteArray) (k : Dk)
    
    (rd : CallOK Try.prog 50 [spn N] [(0, .box (dbox 0 k))] (.tup [cpy true s (S t0), I 0]) [(0, some (.box (dbox 0 k)))]) :
    Safe Try.prog 10 [(1, .ro 1 z.length (rowG encI z))] (B true) [] (loopAt Try.f10 0) ⟨slotsOf 122 [(2, U w), (7, .ptr 20 0 0 0), (8, .ptr 21 0 0 0), (9, .ifc 170 (.agg [.ptr 21 0 0 0, I 0, I 0, I N])), (10, .sl 22 0 1 5 none), (11, .ptr 23 0 0 0), (12, .ptr 24 0 0 0), (13, I i)], [(1, .ro 1 z.length (rowG encI z)), (20, .blk 139 [.sl 1 0 1 m none, I p]), (21, .box (dbox 0 k)), (22, .vec 9 1 5 (rowsOf txA 1)), (23, .blk 88 [B true, I s, S t0]), (24, .blk 88 [B true, I s, S t0])]⟩ [1, 20, 21, 22, 23, 24] := by
  have aw := rawake_any
  have kp := keep_any w
  have h1 : ¬ (i : Int) < 9 := by omega
  refine (Classical.em ((true == true && (decide (s = s) && (decide (t0 = t0) && true))) = true)).elim (fun hc1 => ?ga5) (fun hc1 => ?gb5)
  case' gb5 =>
    refine Safe.ends mixed Try.func10 9 [⟨1100, [(1, .tt false)]⟩, ⟨1200, [(1, .call [21] (.tup [.agg [B true, I s, S t0], I 0]) [(21, some (.box (dbox (0 : Nat) k)))])]⟩, ⟨1300, [(5, .tt false)]⟩] (r := B false) (hp := [(1, .ro 1 z.length (rowG encI z))]) (ob := [decide ((↑i : Int) < (9 : Int)) = false, CallOK Try.prog (50 : Nat) ([] ++ [AV.ifc (170 : Nat) (AV.agg [AV.ptr 21 0 0 0, AV.val (Value.int IntKind.i64 (0 : Int)), AV.val (Value.int IntKind.i64 (0 : Int)), AV.val (Value.int IntKind.i64 (↑N : Int))])] ++ []) [((21 : Nat), Ob.box (dbox (0 : Nat) k))] (AV.tup [AV.agg [AV.val (Value.bool true), AV.val (Value.int IntKind.i64 s), AV.val (Value.string t0)], AV.val (Value.int IntKind.i64 (0 : Int))]) [((21 : Nat), some (Ob.box (dbox (0 : Nat) k)))], (true == true && (decide (s = s) && (decide (t0 = t0) && true))) = false]) rfl (by kernel_rfl) ⟨(decide_eq_false h1), (CallOK.ren rd [(0, 21)] [0] rfl rfl rfl rfl ⟨rfl, trivial, trivial⟩ rfl ⟨rfl, trivial, trivial⟩), (by simpa using hc1), trivial⟩ ?_ ⟨ObLe.refl _, trivial⟩ ⟨rfl, fun _ => rfl, trivial⟩ rfl
  case' ga5 =>
    refine Safe.ends mixed Try.func10 9 [⟨1100, [(1, .tt false)]⟩, ⟨1200, [(1, .call [21] (.tup [.agg [B true, I s, S t0], I 0]) [(21, some (.box (dbox (0 : Nat) k)))])]⟩, ⟨1300, [(5, .tt true), (8, .call [] (B true) [])]⟩] (r := B true) (hp := [(1, .ro 1 z.length (rowG encI z))]) (ob := [decide ((↑i : Int) < (9 : Int)) = false, CallOK Try.prog (50 : Nat) ([] ++ [AV.ifc (170 : Nat) (AV.agg [AV.ptr 21 0 0 0, AV.val (Value.int IntKind.i64 (0 : Int)), AV.val (Value.int IntKind.i64 (0 : Int)), AV.val (Value.int IntKind.i64 (↑N : Int))])] ++ []) [((21 : Nat), Ob.box (dbox (0 : Nat) k))] (AV.tup [AV.agg [AV.val (Value.bool true), AV.val (Value.int IntKind.i64 s), AV.val (Value.string t0)], AV.val (Value.int IntKind.i64 (0 : Int))]) [((21 : Nat), some (Ob.box (dbox (0 : Nat) k)))], (true == true && (decide (s = s) && (decide (t0 = t0) && true))) = true, CallOK Try.prog (41 : Nat) ([] ++ [] ++ []) [] (AV.val (Value.bool true)) []]) rfl (by kernel_rfl) ⟨(decide_eq_false h1), (CallOK.ren rd [(0, 21)] [0] rfl rfl rfl rfl ⟨rfl, trivial, trivial⟩ rfl ⟨rfl, trivial, trivial⟩), hc1, aw, trivial⟩ rfl ⟨ObLe.refl _, trivial⟩ ⟨rfl, fun _ => rfl, trivial⟩ rfl
  all_goals first | trivial | exact absurd (by simp) ‹_› | (simp_all; done)
end Go.Proofs.Ytbgbjgedjmhcaaa
namespace Go.Proofs.Ytbgbjgedjmhcaaa
open Go.RowKit
open OldD (Dk)
set_option maxRecDepth 10000
def cpL : Option (Int × ByteArray) → List AV
  | none => [B false, I 0, S0]
  | some x => [B true, I x.1, S x.2]
abbrev crS (z : List Int) (w : Int) (m N : Nat) (s : Cr) : St := ⟨slotsOf 122 [(2, U w), (7, .ptr 20 0 0 0), (8, .ptr 21 0 0 0), (9, .ifc 170 (.agg [.ptr 21 0 0 0, I 0, I 0, I N])), (10, .sl 22 0 1 5 none), (11, .ptr 23 0 0 0), (12, .ptr 24 0 0 0), (13, I (s.i : Int))], [(1, .ro 1 z.length (rowG encI z)), (20, .blk 139 [.sl 1 0 1 m none, I s.p]), (21, .box (dbox 0 s.k)), (22, .vec 9 1 5 (rowsOf txA 1)), (23, .blk 88 (cpL s.o)), (24, .blk 88 (cpL s.o))]⟩
theorem cr_round (z : List Int) (w : Int) (m N R : Nat) (hm : m ≤ 1000) (hz : m ≤ z.length) (hN : 4 ≤ N ∧ N ≤ 1000) (hR : R + 2 = N) (s : Cr) (hs : CrOK N R m s) (ih : ∀ s', CrOK N R m s' → 9 - s'.i < 9 - s.i → Safe Try.prog 10 [(1, .ro 1 z.length (rowG encI z))] (B true) [] (loopAt Try.f10 0) (crS z w m N s') [1, 20, 21, 22, 23, 24]) :
    Safe Try.prog 10 [(1, .ro 1 z.length (rowG encI z))] (B true) [] (loopAt Try.f10 0) (crS z w m N s) [1, 20, 21, 22, 23, 24] := by
  obtain ⟨i, k, v, c, o, p⟩ := s
  obtain ⟨hi, ⟨f, q⟩, hc, vw, a0, so, hp⟩ := hs
  dsimp only at hi q hc vw a0 so hp ih
  by_cases hlt : i < 9
  · have hi8 : 1 ≤ i ∧ i ≤ 8 := by omega
    have w5 := word5 z m p hm hz hp
    have htz := txs_size (nV z m p 5).toNat
    have hpa := (nA_bd m p 5 hp).2
    generalize txs.getD (nV z m p 5).toNat default = t at w5 htz
    generalize nA m p 5 = p2 at w5 hpa
    by_cases hsp : lnR o + ln t.size ≤ R
    · obtain ⟨k1, e, pr, h⟩ := prep_q 0 q (by omega) hN hR vw a0 (i : Int) (by omega) t (by omega) hsp
      rcases h with ⟨rfl, v1, f1, q1, vw1, b0, b1, _⟩ | ⟨_, rfl, dn⟩
      · obtain ⟨k2, e, sw, h⟩ := switch_q 0 q1 (by omega) hN hR vw1 b0 _ b1
        rcases h with ⟨rfl, v2, f2, q2, vw2, d0, d1, _⟩ | ⟨_, rfl, dn⟩
        · have ihn := ih ⟨i + 1, k2, v2, c + 1001 + 1, some ((i : Int), t), p2⟩ ⟨by dsimp only; omega, ⟨_, q2⟩, by show c + 1001 + 1 ≤ 1002 * (i + 1); omega, vw2, d0, fun _ => by simp, hpa⟩ (by show 9 - (i + 1) < 9 - i; omega)
          cases o with
          | none => exact crB_n z w m p p2 N i hm hz hi8 t k k1 k2 w5 pr sw ihn
          | some x => exact crB_s z w m p p2 N i hm hz hi8 x.1 x.2 t k k1 k2 w5 pr sw ihn
        · obtain ⟨k3, o', ho, rs, rd⟩ := dn.rs w
          rcases List.mem_cons.1 ho with rfl | ho
          · cases o' with
            | none => exact crD_n z w m p p2 N i hm hz hi8 t k k1 k2 k3 w5 pr sw rs rd
            | some x => exact crD_s z w m p p2 N i hm hz hi8 x.1 x.2 t k k1 k2 k3 w5 pr sw rs rd
          · obtain rfl := List.mem_singleton.1 ho
            cases o with
            | none => exact crE_n z w m p p2 N i hm hz hi8 t k k1 k2 k3 w5 pr sw rs rd
            | some x => exact crE_s z w m p p2 N i hm hz hi8 x.1 x.2 t k k1 k2 k3 w5 pr sw rs rd
      · obtain ⟨k3, o', ho, rs, rd⟩ := dn.rs w
        obtain rfl := List.mem_singleton.1 ho
        cases o' with
        | none => exact crC_n z w m p p2 N i hm hz hi8 t k k1 k3 w5 pr rs rd
        | some x => exact crC_s z w m p p2 N i hm hz hi8 x.1 x.2 t k k1 k3 w5 pr rs rd
    · have pr := prep_sp 0 q (by omega) hN hR vw a0 (i : Int) (by omega) t (by omega) hsp
      cases o with
      | none => exact crA_n z w m p p2 N i hm hz hi8 t k w5 pr
      | some x => exact crA_s z w m p p2 N i hm hz hi8 x.1 x.2 t k w5 pr
  · have hi9 : i = 9 := by omega
    have rd := read_q 0 q hN hR vw a0
    cases o with
    | none => exact absurd rfl (so (by omega))
    | some x => exact crF_s z w m p 0 N i hm hz hi9 x.1 x.2 ⟨#[]⟩ k rd
set_option maxHeartbeats 8000000 in
theorem crash_any (z : List Int) (hz : z.length ≤ 9223372036854775807) (n w : Int) (hn : 0 ≤ n ∧ n ≤ 255) : CallOK Try.prog 10 [.sl 1 0 1 z.length none, .val (.int .u8 n), U w] [(1, .ro 1 z.length (rowG encI z))] (B true) [] := by
  refine CallOK.intro Try.call10 Try.func10 rfl rfl ⟨rfl, fun _ => rfl, trivial⟩ ?_
  have nw' := new_any z hz
  obtain ⟨m, hm⟩ : ∃ m, m = min 1000 z.length := ⟨_, rfl⟩
  rw [← hm] at nw'
  have b17 := nV_bd z m 0 17 (by omega)
  have rg : CallOK Try.prog 44 [.ptr 0 0 0 0, I 8, I 24] [(0, .blk 139 [.sl 1 0 1 m none, I (0 : Nat)]), (1, .ro 1 z.length (rowG encI z))] (I (8 + nV z m 0 17)) [(0, some (.blk 139 [.sl 1 0 1 m none, I (nA m 0 17)]))] := range_any z m 0 8 24 (by omega) (by omega) (by omega) (by omega) (by omega)
  have ar := areaz (8 + nV z m 0 17).toNat (by omega)
  have q0 := q_zero (8 + nV z m 0 17).toNat
  generalize dkN [List.replicate (8 + nV z m 0 17).toNat 0] = k0 at ar q0
  have fu := fuse_c 0 k0 (1 + n % 60)
  have q1 := q1_fuse q0 (1 + n % 60) (by omega)
  have hb60 : 0 ≤ n % 60 ∧ n % 60 < 60 := by omega
  have ok0 : CrOK (8 + nV z m 0 17).toNat (6 + nV z m 0 17).toNat m ⟨1, { k0 with fuse := max (1 + n % 60) 0 }, fun _ => 0, 0, none, nA m 0 17⟩ := ⟨⟨Nat.le_refl _, by show 1 ≤ 9; omega⟩, ⟨_, q1⟩, Nat.zero_le _, vw_zero _, rfl, fun h => absurd h (by show ¬ 2 ≤ 1; omega), (nA_bd m 0 17 (by omega)).2⟩
  refine Safe.withLoop (loopAt Try.f10 0) [1, 20, 21, 22, 23, 24] 122 (fun s : Cr => [(2, U w), (7, .ptr 20 0 0 0), (8, .ptr 21 0 0 0), (9, .ifc 170 (.agg [.ptr 21 0 0 0, I 0, I 0, I (8 + nV z m 0 17).toNat])), (10, .sl 22 0 1 5 none), (11, .ptr 23 0 0 0), (12, .ptr 24 0 0 0), (13, I (s.i : Int))]) (fun s => [(1, .ro 1 z.length (rowG encI z)), (20, .blk 139 [.sl 1 0 1 m none, I s.p]), (21, .box (dbox 0 s.k)), (22, .vec 9 1 5 (rowsOf txA 1)), (23, .blk 88 (cpL s.o)), (24, .blk 88 (cpL s.o))]) (CrOK (8 + nV z m 0 17).toNat (6 + nV z m 0 17).toNat m) (fun s => 9 - s.i) ?_ ?_
  · intro s hs ih
    exact cr_round z w m _ _ (by omega) (by omega) (by omega) (by omega) s hs ih
  · intro H
    have H0 := H _ ok0
    dsimp only [cpL] at H0
    clear H ok0 q0 q1
    refine Safe.goto mixed 22 [⟨1100, []⟩, ⟨1200, [(1, .call [1] (.ptr 1255 0 0 0) [(1255, some (.blk 139 [.sl 1 0 1 m none, I 0]))])]⟩, ⟨1300, [(1, .call [1255, 1] (I ((8 : Int) + nV z m (0 : Nat) (17 : Int))) [(1255, some (.blk 139 [.sl 1 0 1 m none, I ((↑(nA m (0 : Nat) (17 : Int)) : Int))]))]), (3, .call [1302] (.tup [.ptr 1365 0 0 0, .ifc 170 (.agg [.ptr 1365 0 0 0, I 0, I 0, I ((↑((8 : Int) + nV z m (0 : Nat) (17 : Int)).toNat : Int))])]) [(1365, some (.box (dbox (0 : Nat) k0)))])]⟩, ⟨1400, []⟩, ⟨1500, []⟩, ⟨1600, []⟩, ⟨1700, [(5, .call [1365] (.tup []) [(1365, some (.box (dbox (0 : Nat) (Dk.mk k0.U k0.bad k0.F (max ((1 : Int) + n % (60 : Int)) (0 : Int)) k0.down k0.wr))))])]⟩, ⟨1800, []⟩] [2, 7, 8, 9, 10, 11, 12, 13] [1, 1255, 1365, 1500, 1600, 1601] (todo' := loopAt Try.f10 0) (sl := slotsOf 122 [(2, .val (Value.int IntKind.u64 w)), (7, .ptr 1255 0 0 0), (8, .ptr 1365 0 0 0), (9, .ifc 170 (.agg [.ptr 1365 0 0 0, I 0, I 0, I ((↑((8 : Int) + nV z m (0 : Nat) (17 : Int)).toNat : Int))])), (10, .sl 1500 0 1 5 none), (11, .ptr 1600 0 0 0), (12, .ptr 1601 0 0 0), (13, I 1)]) (hp := [(1, .ro 1 z.length (rowG encI z)), (1255, .blk 139 [.sl 1 0 1 m none, I ((↑(nA m (0 : Nat) (17 : Int)) : Int))]), (1365, .box (dbox (0 : Nat) (Dk.mk k0.U k0.bad k0.F (max ((1 : Int) + n % (60 : Int)) (0 : Int)) k0.down k0.wr))), (1500, .vec 9 1 5 (rowsOf [AV.val (Value.string (ByteArray.mk #[(97 : UInt8)])), AV.val (Value.string (ByteArray.mk #[(101 : UInt8), (105 : UInt8), (103 : UInt8), (104 : UInt8), (116 : UInt8), (32 : UInt8), (98 : UInt8), (121 : UInt8)])), AV.val (Value.string (ByteArray.mk #[(115 : UInt8), (111 : UInt8), (109 : UInt8), (101 : UInt8), (32 : UInt8), (108 : UInt8), (111 : UInt8), (110 : UInt8), (103 : UInt8), (101 : UInt8), (114 : UInt8), (32 : UInt8), (116 : UInt8), (101 : UInt8), (120 : UInt8), (116 : UInt8)])), AV.val (Value.string (ByteArray.mk #[(118 : UInt8), (103 : UInt8), (32 : UInt8), (123 : UInt8), (32 : UInt8), (125 : UInt8)])), AV.val (Value.string (ByteArray.mk #[]))] (1 : Nat))), (1600, .blk 88 [B false, I 0, S (ByteArray.mk #[])]), (1601, .blk 88 [B false, I 0, S (ByteArray.mk #[])])]) (ob := [CallOK Try.prog (42 : Nat) ([] ++ [AV.sl 1 0 1 z.length none] ++ []) [((1 : Nat), Ob.ro (1 : Nat) z.length (rowG encI z))] (AV.ptr 1255 0 0 0) [((1255 : Nat), some (Ob.blk (139 : Nat) [AV.sl 1 0 1 m none, AV.val (Value.int IntKind.i64 (0 : Int))]))], CallOK Try.prog (44 : Nat) ([] ++ [AV.ptr 1255 0 0 0, ofV (Value.int IntKind.i64 (8 : Int)), ofV (Value.int IntKind.i64 (24 : Int))] ++ []) [((1255 : Nat), Ob.blk (139 : Nat) [AV.sl 1 0 1 m none, AV.val (Value.int IntKind.i64 (0 : Int))]), ((1 : Nat), Ob.ro (1 : Nat) z.length (rowG encI z))] (AV.val (Value.int IntKind.i64 ((8 : Int) + nV z m (0 : Nat) (17 : Int)))) [((1255 : Nat), some (Ob.blk (139 : Nat) [AV.sl 1 0 1 m none, AV.val (Value.int IntKind.i64 (↑(nA m (0 : Nat) (17 : Int)) : Int))]))], (0 : Int) ≤ (8 : Int) + nV z m (0 : Nat) (17 : Int) ∧ (8 : Int) + nV z m (0 : Nat) (17 : Int) ≤ (8 : Int) + nV z m (0 : Nat) (17 : Int) ∧ (8 : Int) + nV z m (0 : Nat) (17 : Int) ≤ (1099511627776 : Int), CallOK Try.prog (48 : Nat) ([] ++ [AV.sl 1302 0 1 ((8 : Int) + nV z m (0 : Nat) (17 : Int)).toNat none] ++ []) [((1302 : Nat), Ob.vec (22 : Nat) (1 : Nat) ((8 : Int) + nV z m (0 : Nat) (17 : Int)).toNat fun x => List.map AV.val (Value.int IntKind.u64 (0 : Int)).cells.toList)] (AV.tup [AV.ptr 1365 0 0 0, AV.ifc (170 : Nat) (AV.agg [AV.ptr 1365 0 0 0, AV.val (Value.int IntKind.i64 (0 : Int)), AV.val (Value.int IntKind.i64 (0 : Int)), AV.val (Value.int IntKind.i64 (↑((8 : Int) + nV z m (0 : Nat) (17 : Int)).toNat : Int))])]) [((1365 : Nat), some (Ob.box (dbox (0 : Nat) k0)))], (0 : Int) ≤ n ∧ (0 : Int) < (60 : Int), inK IntKind.i64 (n % (60 : Int)), inK IntKind.i64 ((1 : Int) + n % (60 : Int)), CallOK Try.prog (30 : Nat) ([] ++ [AV.ptr 1365 0 0 0, AV.val (Value.int IntKind.i64 ((1 : Int) + n % (60 : Int)))] ++ []) [((1365 : Nat), Ob.box (dbox (0 : Nat) k0))] (AV.tup []) [((1365 : Nat), some (Ob.box (dbox (0 : Nat) (Dk.mk k0.U k0.bad k0.F (max ((1 : Int) + n % (60 : Int)) (0 : Int)) k0.down k0.wr))))]]) rfl rfl (by kernel_rfl) ⟨(CallOK.ren nw' [(1, 1), (10, 1255)] [1, 10] rfl rfl rfl rfl ⟨rfl, fun _ => rfl, trivial⟩ rfl ⟨rfl, fun _ => rfl, rfl, rfl, trivial⟩), (CallOK.ren rg [(0, 1255), (1, 1)] [0, 1] rfl rfl rfl rfl ⟨rfl, rfl, rfl, fun _ => rfl, trivial⟩ rfl ⟨rfl, rfl, rfl, fun _ => rfl, trivial⟩), (by omega), (CallOK.ren ar [(1, 1302), (10, 1365)] [1, 10] rfl rfl rfl rfl ⟨rfl, fun _ => rfl, trivial⟩ rfl ⟨rfl, fun _ => rfl, rfl, trivial, trivial⟩), (by omega), (by simp only [inK]; omega), (by simp only [inK]; omega), (CallOK.ren fu [(0, 1365)] [0] rfl rfl rfl rfl ⟨rfl, trivial, trivial⟩ rfl ⟨rfl, trivial, trivial⟩), trivial⟩ rfl ⟨rfl, fun _ => rfl, rfl, rfl, rfl, trivial, rfl, closed_rows rfl, rfl, rfl, rfl, rfl, trivial⟩ ?_
    refine Safe.ren [(1255, 20), (1365, 21), (1500, 22), (1600, 23), (1601, 24)] rfl rfl rfl rfl ⟨rfl, fun _ => rfl, rfl, rfl, rfl, trivial, rfl, closed_rows rfl, rfl, rfl, rfl, rfl, trivial⟩ ?_
    refine Safe.leH H0 rfl (SlLe.refl _) ⟨ObLe.refl _, ObLe.refl _, ObLe.refl _, ⟨rfl, rfl, rfl, fun q hq => ?_⟩, ObLe.refl _, ObLe.refl _, trivial⟩ rfl ⟨rfl, fun _ => rfl, rfl, rfl, rfl, trivial, rfl, closed_rows rfl, rfl, rfl, rfl, rfl, trivial⟩
    exact (renL_rowsOf _ _ _ _).trans rfl
end Go.Proofs.Ytbgbjgedjmhcaaa
