/- What the law needs, one text behind the other. No conditions but those of each theorem. -/
import Derived.KernelRfl
import Derived.Below
import Derived.WalkKit
import Derived.OpenShut
import Derived.SliceStrings
import Derived.Test.YtbgbjgedjmhcaaaKDg
set_option linter.unnecessarySimpa false
set_option linter.unusedSimpArgs false
set_option linter.unusedVariables false
set_option maxHeartbeats 16000000
set_option maxRecDepth 10000
namespace Go.Proofs.Ytbgbjgedjmhcaaa
open Go.RowKit
open OldD (Dk chk3 chk4 rdV wrE wrK flK reK)
def At (v : Nat → Int) (R p : Nat) : Option (Int × ByteArray) → Prop
  | none => v p = 0
  | some x => ¬ v p = 0 ∧ f0 (v p) = x.1 ∧ Wh v R (v p) x.2
def rdR : Option (Int × ByteArray) → AV
  | none => .tup [cpy false 0 S0, I 12]
  | some x => .tup [cpy true x.1 (S x.2), I 0]
def seqR : Option (Int × ByteArray) → Int
  | none => 0
  | some x => x.1
def lnR : Option (Int × ByteArray) → Nat
  | none => 0
  | some x => ln x.2.size
theorem At.seq {v : Nat → Int} {R p : Nat} {o : Option (Int × ByteArray)} (h : At v R p o) : f0 (v p) = seqR o := by
  cases o with
  | none => have h : v p = 0 := h; rw [h]; rfl
  | some x => exact h.2.1
theorem read_at (m : Nat) (k : Dk) (N R : Nat) {cc : Nat} (g : Gk k 1 (fun _ => N) cc) (hdn : k.down = false) (hN : 4 ≤ N ∧ N ≤ 1000) (hR : R + 2 = N) {v : Nat → Int} (e0 : nw k 0 0 = v 0) (es : ∀ i, i < n2 (v 0) → v (plc R (n1 (v 0)) i) = nw k 0 (plc R (n1 (v 0)) i)) (vr : Vr v R (v 0)) (o : Option (Int × ByteArray)) (h : At v R 0 o) :
    CallOK Try.prog 50 [spn N] [(0, .box (dbox m k))] (rdR o) [(0, some (.box (dbox m k)))] := by
  cases o with
  | none => exact read_none m k N g hdn hN (e0.trans h)
  | some x =>
    obtain ⟨h1, h2, h3⟩ := h
    have hv : Vr (nw k 0) R (nw k 0 0) := by
      rw [e0]
      refine ⟨vr.1, ?_⟩
      rw [← wsP_ext _ es]
      exact vr.2
    have hw : Wh (nw k 0) R (nw k 0 0) x.2 := by
      rw [e0]
      exact h3.ext es
    have := read_ok m k N R g hdn hN hR hv (by rw [e0]; exact h1) x.2 hw
    rw [e0, h2] at this
    exact this
theorem Q1.vw {k : Dk} {N c : Nat} {v w : Nat → Int} {f : Int} {T : Nat → Prop} (q : Q1 k N c v w f T) (h : Vw v N) : Vw (nw k 0) N := fun t ht => by rw [q.nv t ht]; exact h t ht
theorem Q1.at {k : Dk} {N c R p : Nat} {v w : Nat → Int} {f : Int} {T : Nat → Prop} (q : Q1 k N c v w f T) (hR : R + 2 = N) (h1 : 1 ≤ R) (hp : p < N) {o : Option (Int × ByteArray)} (h : At v R p o) : At (nw k 0) R p o := by
  cases o with
  | none => exact (q.nv p hp).trans h
  | some x =>
    obtain ⟨h1', h2, h3⟩ := h
    show ¬ nw k 0 p = 0 ∧ f0 (nw k 0 p) = x.1 ∧ Wh (nw k 0) R (nw k 0 p) x.2
    rw [q.nv p hp]
    refine ⟨h1', h2, h3.ext fun i hi => (q.nv _ ?_).symm⟩
    have := plc_bd R (n1 (v p)) i h1
    omega
theorem read_q (m : Nat) {k : Dk} {N R c : Nat} {v w : Nat → Int} {f : Int} {T : Nat → Prop} (q : Q1 k N c v w f T) (hN : 4 ≤ N ∧ N ≤ 1000) (hR : R + 2 = N) (vw : Vw v N) {o : Option (Int × ByteArray)} (h : At v R 0 o) :
    CallOK Try.prog 50 [spn N] [(0, .box (dbox m k))] (rdR o) [(0, some (.box (dbox m k)))] :=
  read_at m k N R q.g q.dn hN hR (q.nv 0 (by omega)) (fun i hi => by
    have := plc_bd R (n1 (v 0)) i (by omega)
    exact (q.nv _ (by omega)).symm) (vw.vr hR (by omega) (by omega)) o h
theorem seqs_q (m : Nat) {k : Dk} {N R c : Nat} {v w : Nat → Int} {f : Int} {T : Nat → Prop} (q : Q1 k N c v w f T) (hN : 4 ≤ N ∧ N ≤ 1000) (vw : Vw v N) {o p : Option (Int × ByteArray)} (h : At v R 0 o) (hp : At v R 1 p) :
    CallOK Try.prog 52 [spn N] [(0, .box (dbox m k))] (.tup [I (seqR o), I (seqR p), I 0]) [(0, some (.box (dbox m k)))] := by
  have := seqs_ok m k N q.g q.dn hN (q.vw vw)
  rw [q.nv 0 (by omega), q.nv 1 (by omega), h.seq, hp.seq] at this
  exact this
def Dn (k : Dk) (N : Nat) (c : Nat) (os : List (Option (Int × ByteArray))) : Prop :=
  k.F.length ≤ 2 ^ 32 ∧ ∀ kp : Nat → Bool, Gk (reK k kp) 1 (fun _ => N) c ∧ (reK k kp).down = false ∧ ∃ o, o ∈ os ∧ ∀ m, CallOK Try.prog 50 [spn N] [(0, .box (dbox m (reK k kp)))] (rdR o) [(0, some (.box (dbox m (reK k kp))))]
theorem wfT (t : ByteArray) (ht : t.size ≤ 8192) : Wf (textW t) := textP_wf t (by omega) _
def PrG (m : Nat) (k : Dk) (N R c : Nat) (f : Int) (o : Option (Int × ByteArray)) (sq : Int) (t : ByteArray) : Prop :=
  ∃ (k' : Dk) (e : Int), CallOK Try.prog 53 [spn N, I sq, S t] [(0, .box (dbox m k))] (I e) [(0, some (.box (dbox m k')))] ∧
      ((e = 0 ∧ ∃ v' f', Q1 k' N (c + 1001) v' v' f' (fun _ => False) ∧ Vw v' N ∧ At v' R 0 o ∧ At v' R 1 (some (sq, t)) ∧ (f = 0 → f' = 0)) ∨
       (f ≠ 0 ∧ e = 5 ∧ Dn k' N (c + 1001) [o]))
theorem prep_q (m : Nat) {k : Dk} {N R c : Nat} {v : Nat → Int} {f : Int} (q : Q1 k N c v v f (fun _ => False)) (hc : c ≤ 60000) (hN : 4 ≤ N ∧ N ≤ 1000) (hR : R + 2 = N) (vw : Vw v N) {o : Option (Int × ByteArray)} (h : At v R 0 o) (sq : Int) (hq : 1 ≤ sq ∧ sq ≤ 1048575) (t : ByteArray) (ht : t.size ≤ 8192) (hs : lnR o + ln t.size ≤ R) :
    PrG m k N R c f o sq t := by
  have hl := textW_len t
  have hb := ln_bd t.size
  have hw := wfT t ht
  have key : ∀ (st : Nat) (u : Int), st < R → 0 ≤ u → u + (textW t).length ≤ R → CallOK Try.prog 91 [ara N R] [(0, .box (dbox m k))] (.tup [I st, I u, I 0]) [(0, some (.box (dbox m k)))] → (∀ v' : Nat → Int, v' 0 = v 0 → (∀ p, 2 ≤ p → p < N → ¬ Pl R st (textW t).length p → v' p = v p) → At v' R 0 o ∧ ∀ i, i < n2 (v 0) → v (plc R (n1 (v 0)) i) = v' (plc R (n1 (v 0)) i)) → PrG m k N R c f o sq t := fun st u hst hu hsp bh hold => by
    have pg := prep_gen m k N R st sq u t (textW t) (text_ok t ht) q.bc hc hN hR hq hw hst hu hsp bh
    have at2 := (wsQ_at v (textW t) R st hst (by omega)).2
    have ov2 : ∀ p, ¬ Pl R st (textW t).length p → ovA v (wsQ (textW t) R st) p = v p := at2
    have ov0 : ovA v (wsQ (textW t) R st) 0 = v 0 := ov2 0 fun h => by have := h.two; omega
    have vr := vw.vr hR (by omega) (show 0 < N by omega)
    rcases prep_run q (textW t) R st sq hR (by omega) with ⟨e, f', r, hf⟩ | ⟨hf, e, w, T, r, hw2⟩
    · rw [e] at pg
      refine ⟨_, _, pg, .inl ⟨rfl, _, f', ⟨r.g.mono (by omega), r.dn, r.fu, r.nv, r.dv, r.ft⟩, vw.prV hw (by omega) (by omega) hq, ?_, ?_, hf⟩⟩
      · obtain ⟨p1, p2, p3, p4, p5⟩ := prV_new v t ht R st sq hst (by omega) (by omega) hq
        refine (hold _ p2 fun p hp hpN hpl => ?_).1
        show updV _ 1 _ p = v p
        rw [updV, if_neg (by omega)]
        exact ov2 p hpl
      · obtain ⟨p1, p2, p3, p4, p5⟩ := prV_new v t ht R st sq hst (by omega) (by omega) hq
        exact ⟨p3, p4, p5⟩
    · rw [e] at pg
      refine ⟨_, _, pg, .inr ⟨hf, rfl, ?_, fun kp => ?_⟩⟩
      · have := r.g.fl
        omega
      · obtain ⟨g, dn, hb⟩ := r.back kp
        refine ⟨g.mono (by omega), dn, o, List.mem_singleton.2 rfl, fun m => ?_⟩
        have hh : nw (reK (seqK k (prA (textW t) R st sq)) kp) 0 0 = v 0 ∧ ∀ p, 2 ≤ p → p < N → ¬ Pl R st (textW t).length p → nw (reK (seqK k (prA (textW t) R st sq)) kp) 0 p = v p := by
          rcases hw2 with ⟨rfl, rfl⟩ | ⟨rfl, rfl⟩
          · exact ⟨hb 0 (by omega) fun h => by have := h.two; omega, fun p _ hp hpl => hb p hp hpl⟩
          · exact ⟨(hb 0 (by omega) fun x => x).trans ov0, fun p _ hp hpl => (hb p hp fun x => x).trans (ov2 p hpl)⟩
        obtain ⟨h1, h2⟩ := hold _ hh.1 hh.2
        exact read_at m _ N R g dn hN hR hh.1 h2 vr o h
  cases o with
  | none =>
    have h : v 0 = 0 := h
    have hs : 0 + ln t.size ≤ R := hs
    refine key 0 0 (by omega) (by omega) (by omega) (behind_none m k N R q.g q.dn hN ((q.nv 0 (by omega)).trans h)) fun v' e _ => ⟨e.trans h, fun i hi => ?_⟩
    rw [h] at hi
    exact absurd hi (by unfold n2 f2; simp)
  | some x =>
    have h' := h
    obtain ⟨h1, h2, h3⟩ := h
    have hs : ln x.2.size + ln t.size ≤ R := hs
    have hn2 := h3.len
    have hk := q.at hR (by omega) (show 0 < N by omega) h'
    obtain ⟨k1, k2, k3⟩ := hk
    have bh := behind_ok m k N R q.g q.dn hN hR ((q.vw vw).vr hR (by omega) (by omega)) k1 x.2 k3
    rw [q.nv 0 (by omega)] at bh
    obtain ⟨_, ⟨e1, _⟩, ⟨e2, b2⟩, _⟩ := n_eq (v 0)
    rw [e1, e2, show ((n1 (v 0) : Int) + (n2 (v 0) : Int)) % (R : Int) = (((n1 (v 0) + n2 (v 0)) % R : Nat) : Int) by push_cast; rfl] at bh
    obtain ⟨o1, o2, o3⟩ := prV_old v (textW t) R sq x.2 (by omega) h3
    have hf := h3.1
    have hRp : 0 < R := by have := hf.2.2.1; omega
    have hno : ∀ i, i < n2 (v 0) → ¬ Pl R ((n1 (v 0) + n2 (v 0)) % R) (textW t).length (plc R (n1 (v 0)) i) := fun i hi ⟨j, hj, e⟩ => by
      rw [plc_add] at e
      have := plc_inj hf.2.2.1 (by omega) (by omega) e
      omega
    refine key _ (n2 (v 0)) (Nat.mod_lt _ hRp) (by omega) (by omega) bh fun v' e hv' => ?_
    have es : ∀ i, i < n2 (v 0) → v (plc R (n1 (v 0)) i) = v' (plc R (n1 (v 0)) i) := fun i hi => by
      have := plc_bd R (n1 (v 0)) i hRp
      exact (hv' _ (plc_two _ _ _) (by omega) (hno i hi)).symm
    refine ⟨?_, es⟩
    show ¬ v' 0 = 0 ∧ f0 (v' 0) = x.1 ∧ Wh v' R (v' 0) x.2
    rw [e]
    exact ⟨h1, h2, h3.ext es⟩
theorem switch_q (m : Nat) {k : Dk} {N R c : Nat} {v : Nat → Int} {f : Int} (q : Q1 k N c v v f (fun _ => False)) (hc : c ≤ 70000) (hN : 4 ≤ N ∧ N ≤ 1000) (hR : R + 2 = N) (vw : Vw v N) {o : Option (Int × ByteArray)} (h : At v R 0 o) (x : Int × ByteArray) (hx : At v R 1 (some x)) :
    ∃ (k' : Dk) (e : Int), CallOK Try.prog 54 [spn N] [(0, .box (dbox m k))] (I e) [(0, some (.box (dbox m k')))] ∧
      ((e = 0 ∧ ∃ v' f', Q1 k' N (c + 1) v' v' f' (fun _ => False) ∧ Vw v' N ∧ At v' R 0 (some x) ∧ At v' R 1 (some x) ∧ (f = 0 → f' = 0)) ∨
       (f ≠ 0 ∧ e = 5 ∧ Dn k' N (c + 1) [o, some x])) := by
  obtain ⟨k1, k2, k3⟩ := q.at hR (by omega) (show 1 < N by omega) hx
  have sw := switch_ok m k N R q.g (by omega) q.dn hN hR ((q.vw vw).vr hR (by omega) (by omega)) k1 x.2 k3
  obtain ⟨h1, h2, h3⟩ := hx
  rw [q.nv 1 (by omega)] at sw
  rcases put_run q (by omega) 0 (by omega) (v 1) with ⟨e, f', r, hf⟩ | ⟨hf, e, r⟩
  · have e' : seqE k [some (0, v 1), none] = 0 := e
    rw [e'] at sw
    refine ⟨_, _, sw, .inl ⟨rfl, _, f', r, vw.upd (vw 1 (by omega)), ?_, ?_, hf⟩⟩
    · show ¬ v 1 = 0 ∧ f0 (v 1) = x.1 ∧ Wh (updV v 0 (v 1)) R (v 1) x.2
      exact ⟨h1, h2, upd0_wh _ h3⟩
    · show ¬ v 1 = 0 ∧ f0 (v 1) = x.1 ∧ Wh (updV v 0 (v 1)) R (v 1) x.2
      exact ⟨h1, h2, upd0_wh _ h3⟩
  · have e' : seqE k [some (0, v 1), none] = 5 := e
    rw [e'] at sw
    refine ⟨_, _, sw, .inr ⟨hf, rfl, ?_, fun kp => ?_⟩⟩
    · have := r.g.fl
      have e2 : (seqK k [some (0, v 1), none]).F.length ≤ c + 1 := this
      omega
    · obtain ⟨g, dn, hb⟩ := r.back kp
      have vr := vw.vr hR (by omega) (show 0 < N by omega)
      exact ⟨g, dn, o, by simp, fun m => read_at m _ N R g dn hN hR (hb 0 (by omega) fun x => x) (fun i hi => by
        have := plc_bd R (n1 (v 0)) i (by omega)
        exact (hb _ (by omega) fun x => x).symm) vr o h⟩
end Go.Proofs.Ytbgbjgedjmhcaaa
namespace Go.Proofs.Ytbgbjgedjmhcaaa
open Go.RowKit
theorem and_maskU (k : Nat) (hk : k < 32) (n : Int) (hn : 0 ≤ n ∧ n ≤ 18446744073709551615) : bitsV .and .u64 n ((2 ^ k - 1 : Nat) : Int) = n % ((2 ^ k : Nat) : Int) := by
  have h2 : 2 ^ k < 2 ^ 32 := Nat.pow_lt_pow_right (by omega) hk
  have hp : 0 < 2 ^ k := Nat.pow_pos (by omega)
  obtain ⟨a, rfl⟩ : ∃ a : Nat, n = (a : Int) := ⟨n.toNat, by omega⟩
  have ha : a < 2 ^ 64 := by omega
  have key : bitsV .and .u64 (a : Int) ((2 ^ k - 1 : Nat) : Int) = ((a &&& (2 ^ k - 1) : Nat) : Int) := by
    show (((BitVec.ofInt 64 (a : Int) &&& BitVec.ofInt 64 ((2 ^ k - 1 : Nat) : Int)).toNat : Nat) : Int) = _
    rw [BitVec.toNat_and, BitVec.ofInt_natCast, BitVec.ofInt_natCast, BitVec.toNat_ofNat, BitVec.toNat_ofNat, Nat.mod_eq_of_lt ha, Nat.mod_eq_of_lt (by omega)]
  rw [key, Nat.and_two_pow_sub_one_eq_mod]
  push_cast
  rfl
theorem rsplit_any (w : Int) (hw : 0 ≤ w ∧ w ≤ 18446744073709551615) : CallOK Try.prog 83 [U w] [] (.agg [I (f0 w), I (f1 w), I (f2 w), U16 (f3 w)]) [] := by
  have a0 : bitsV .and .u64 w 1048575 = f0 w := and_maskU 20 (by omega) w hw
  have a1 : bitsV .and .u64 (w / 1048576) 65535 = f1 w := and_maskU 16 (by omega) _ (by omega)
  have a2 : bitsV .and .u64 (w / 68719476736) 4095 = f2 w := and_maskU 12 (by omega) _ (by omega)
  have a3 : w / 281474976710656 = f3 w := by unfold f3; omega
  have bd := f_bd w
  generalize f0 w = x0 at *
  generalize f1 w = x1 at *
  generalize f2 w = x2 at *
  generalize f3 w = x3 at *
  refine CallOK.intro Try.call83 Try.func83 rfl rfl trivial ?_
  refine Safe.ends mixed Try.func83 4 [⟨100, []⟩, ⟨200, []⟩] (r := .agg [I (bitsV BinOp.and IntKind.u64 w (1048575 : Int)), I (bitsV BinOp.and IntKind.u64 (w / (1048576 : Int)) (65535 : Int)), I (bitsV BinOp.and IntKind.u64 (w / (68719476736 : Int)) (4095 : Int)), .val (Value.int IntKind.u16 (w / (281474976710656 : Int)))]) (hp := []) (ob := [inK IntKind.u64 (bitsV BinOp.and IntKind.u64 w (1048575 : Int)), inK IntKind.i64 (bitsV BinOp.and IntKind.u64 w (1048575 : Int)), (0 : Int) ≤ (20 : Int) ∧ (20 : Int) ≤ (↑IntKind.u64.bits : Int), inK IntKind.u64 (bitsV BinOp.and IntKind.u64 (w / (1048576 : Int)) (65535 : Int)), inK IntKind.i64 (bitsV BinOp.and IntKind.u64 (w / (1048576 : Int)) (65535 : Int)), (0 : Int) ≤ (36 : Int) ∧ (36 : Int) ≤ (↑IntKind.u64.bits : Int), inK IntKind.u64 (bitsV BinOp.and IntKind.u64 (w / (68719476736 : Int)) (4095 : Int)), inK IntKind.i64 (bitsV BinOp.and IntKind.u64 (w / (68719476736 : Int)) (4095 : Int)), (0 : Int) ≤ (48 : Int) ∧ (48 : Int) ≤ (↑IntKind.u64.bits : Int), inK IntKind.u16 (w / (281474976710656 : Int))]) rfl (by kernel_rfl) ⟨(by simp only [inK]; first | omega | assumption), (by simp only [inK]; first | omega | assumption), (by first | decide | (simp only [Go.IntKind.bits]; first | omega | assumption)), (by simp only [inK]; first | omega | assumption), (by simp only [inK]; first | omega | assumption), (by first | decide | (simp only [Go.IntKind.bits]; first | omega | assumption)), (by simp only [inK]; first | omega | assumption), (by simp only [inK]; first | omega | assumption), (by first | decide | (simp only [Go.IntKind.bits]; first | omega | assumption)), (by simp only [inK]; first | omega | assumption), trivial⟩ ?_ trivial trivial rfl
  · rw [a0, a1, a2, a3]; rfl
theorem ring_any (N : Nat) (h : N ≤ 1000) : CallOK Try.prog 109 [I N] [] (I ((N : Int) - 2)) [] := by
  refine CallOK.intro Try.call109 Try.func109 rfl rfl trivial ?_
  refine Safe.ends mixed Try.func109 4 [⟨100, []⟩, ⟨200, []⟩] (r := I (min ((↑N : Int) - (2 : Int)) (65535 : Int))) (hp := []) (ob := [inK IntKind.i64 ((↑N : Int) - (2 : Int))]) rfl (by kernel_rfl) ⟨(by simp only [inK]; omega), trivial⟩ ?_ trivial trivial rfl
  · rw [show min ((N : Int) - 2) 65535 = (N : Int) - 2 by omega]; rfl
theorem wsP_succ (v : Nat → Int) (R st i : Nat) : wsP v R st (i + 1) = wsP v R st i ++ [v (plc R st i)] := rfl
def lv (X : List Int) : Nat → Int := fun t => X.getD t default
theorem rwordsP_any (X : List Int) (R st n : Nat) (hX : X.length ≤ 1000) (hR : R + 2 = X.length) (h1 : 1 ≤ R) (hst : st ≤ 100000) (hn : 1 ≤ n ∧ n ≤ 10000) (hw : Wf X) : CallOK Try.prog 111 [.sl 0 0 1 X.length none, I st, I n] [(0, .ro 1 X.length (rowG encU X))] (.sl 10 0 1 n none) [(10, some (.vec 22 1 n (rowG encU (wsP (lv X) R st n))))] := by
  have rg := ring_any X.length hX
  rw [show (X.length : Int) - 2 = (R : Int) by omega] at rg
  refine CallOK.intro Try.call111 Try.func111 rfl rfl ⟨rfl, fun _ => rfl, trivial⟩ ?_
  refine Safe.withLoop (loopAt Try.f111 0) [0, 20] 31 (fun i : Nat => [(0, .sl 0 0 1 X.length none), (1, I st), (2, I n), (7, I R), (8, .sl 20 0 1 (wsP (lv X) R st i).length none), (9, I i)]) (fun i => [(0, .ro 1 X.length (rowG encU X)), (20, .vec 22 1 (wsP (lv X) R st i).length (rowG encU (wsP (lv X) R st i)))]) (fun i => i ≤ n) (fun i => n - i) ?_ ?_
  · intro i hi ih
    have hl := wsP_len (lv X) R st i
    by_cases hlt : i < n
    · have h2 : (i : Int) < (n : Int) := by omega
      have ep : ((2 : Int) + ((st : Int) + (i : Int)) % (R : Int)) = ((plc R st i : Nat) : Int) := plc_int R st i
      have hb := plc_bd R st i h1
      have hmod : 0 ≤ ((st : Int) + (i : Int)) % (R : Int) ∧ ((st : Int) + (i : Int)) % (R : Int) < (R : Int) := ⟨Int.emod_nonneg _ (by omega), Int.emod_lt_of_pos _ (by omega)⟩
      have w8 := hw.at (plc R st i)
      refine Safe.goto mixed 11 [⟨1100, [(2, .tt true)]⟩, ⟨1200, [(7, .is (I ((↑(plc R st i) : Int))))]⟩, ⟨1300, []⟩] [0, 1, 2, 7, 8, 9] [0, 1211] (todo' := loopAt Try.f111 0) (sl := slotsOf 31 [(0, .sl 0 0 1 X.length none), (1, I ↑st), (2, I ↑n), (7, I ↑R), (8, .sl 1211 0 1 (addN (wsP (lv X) R st i).length 1) none), (9, I ((↑i : Int) + (1 : Int)))]) (hp := [(0, .ro 1 X.length (rowG encU X)), (1211, .vec 22 1 (addN (wsP (lv X) R st i).length 1) (catR (wsP (lv X) R st i).length (rowG encU (wsP (lv X) R st i)) (rowsOf [U (X.getD (plc R st i) default)] 1)))]) (ob := [decide ((↑i : Int) < (↑n : Int)) = true, inK IntKind.i64 ((↑st : Int) + (↑i : Int)), (0 : Int) ≤ (↑st : Int) + (↑i : Int) ∧ (0 : Int) < (↑R : Int), inK IntKind.i64 ((2 : Int) + ((↑st : Int) + (↑i : Int)) % (↑R : Int)), I ((2 : Int) + ((↑st : Int) + (↑i : Int)) % (↑R : Int)) = I (↑(plc R st i) : Int), (0 : Int) ≤ (↑(plc R st i) : Int) ∧ (↑(plc R st i) : Int) < (↑X.length : Int), plc R st i < X.length, 0 + 1 ≤ 1, (wsP (lv X) R st i).length = (wsP (lv X) R st i).length, (wsP (lv X) R st i).length + 1 ≤ 1099511627776, inK IntKind.i64 ((↑i : Int) + (1 : Int))]) rfl rfl (by kernel_rfl) ⟨(decide_eq_true h2), (by simp only [inK]; first | omega | exact congrArg (fun z => I z) ep), (by first | omega | exact congrArg (fun z => I z) ep), (by simp only [inK]; first | omega | exact congrArg (fun z => I z) ep), (by first | omega | exact congrArg (fun z => I z) ep), (by first | omega | exact congrArg (fun z => I z) ep), (by first | omega | exact congrArg (fun z => I z) ep), (by first | omega | exact congrArg (fun z => I z) ep), (by first | omega | exact congrArg (fun z => I z) ep), (by first | omega | exact congrArg (fun z => I z) ep), (by simp only [inK]; first | omega | exact congrArg (fun z => I z) ep), trivial⟩ rfl ⟨rfl, fun _ => rfl, rfl, (fun q => by first | exact closed_cat (fun _ => rfl) (closed_rows rfl) q | (split <;> rfl)), trivial⟩ ?_
      refine Safe.ren [(1211, 20)] rfl rfl rfl rfl ⟨rfl, fun _ => rfl, rfl, (fun q => by first | exact closed_cat (fun _ => rfl) (closed_rows rfl) q | (split <;> rfl)), trivial⟩ ?_
      · have e2 : addN (wsP (lv X) R st i).length 1 = (wsP (lv X) R st (i + 1)).length := by rw [addN_eq, wsP_len, wsP_len]
        rw [e2]
        refine Safe.leH (ih (i + 1) (by omega) (by omega)) rfl (SlLe.refl _) ⟨ObLe.refl _, ?_, trivial⟩ rfl ⟨rfl, fun _ => rfl, rfl, fun _ => rfl, trivial⟩
        rw [wsP_succ]
        exact ob_ren_one encU (wsP (lv X) R st i) (lv X (plc R st i)) _ (by simp) (fun _ => rfl) rfl
    · have hn2 : ¬ (i : Int) < (n : Int) := by omega
      obtain rfl : i = n := by omega
      refine Safe.gotoE mixed 7 [⟨1100, [(2, .tt false)]⟩, ⟨1200, []⟩] [6] [0, 20] (sl := slotsOf 31 [(6, .sl 20 0 1 ((wsP (lv X) R st i).length) none)]) (hp := [(0, .ro 1 X.length (rowG encU X)), (20, .vec 22 1 ((wsP (lv X) R st i).length) (rowG encU (wsP (lv X) R st i)))]) (ob := [decide ((↑i : Int) < (↑i : Int)) = false]) rfl rfl (by kernel_rfl) ⟨(decide_eq_false hn2), trivial⟩ rfl ⟨rfl, fun _ => rfl, rfl, fun _ => rfl, trivial⟩ fun td htd => ?_
      refine Safe.ren [(20, 10)] rfl rfl rfl rfl ⟨rfl, fun _ => rfl, rfl, fun _ => rfl, trivial⟩ ?_
      refine Safe.endsT Try.func111 htd (r := .sl 10 0 1 ((wsP (lv X) R st i).length) none) (hp := [(0, .ro 1 X.length (fun q => renL [(20, 10)] (rowG encU X q))), (10, .vec 22 1 ((wsP (lv X) R st i).length) (fun q => renL [(20, 10)] (rowG encU (wsP (lv X) R st i) q)))]) (ob := []) rfl (by kernel_rfl) trivial ?_ ⟨⟨rfl, rfl, fun _ _ => rfl⟩, ?_, trivial⟩ ⟨rfl, fun _ => rfl, rfl, fun _ => rfl, trivial⟩ rfl
      · rw [wsP_len]; rfl
      · rw [wsP_len]; exact ⟨rfl, rfl, rfl, fun _ _ => rfl⟩
  · intro H
    refine Safe.goto mixed 11 [⟨1100, []⟩, ⟨1200, [(2, .call [] (I ↑R) [])]⟩, ⟨1300, []⟩, ⟨1400, []⟩] [0, 1, 2, 7, 8, 9] [0] (todo' := loopAt Try.f111 0) (sl := slotsOf 31 [(0, .sl 0 0 1 X.length none), (1, I ↑st), (2, I ↑n), (7, I ↑R), (8, .val (Value.slice none 0 0)), (9, I 0)]) (hp := [(0, .ro 1 X.length (rowG encU X))]) (ob := [CallOK Try.prog 109 ([] ++ [I ↑X.length] ++ []) [] (I ↑R) []]) rfl rfl (by kernel_rfl) ⟨rg, trivial⟩ rfl ⟨rfl, fun _ => rfl, trivial⟩ ?_
    · refine Safe.nil 8 20 22 1 (rowG encU []) rfl rfl ⟨rfl, fun _ => rfl, trivial⟩ ?_ rfl
      exact Safe.leH (H 0 (Nat.zero_le _)) rfl (SlLe.refl _) ⟨ObLe.refl _, ⟨rfl, rfl, rfl, fun _ _ => rfl⟩, trivial⟩ rfl ⟨rfl, fun _ => rfl, rfl, fun _ => rfl, trivial⟩
theorem cat3 (a b c : Int) (L : List Int) (q : Nat) (hq : q < 2 + 1 + L.length) : rowG encU ([a, b, c] ++ L) q = catR 3 (rowsOf [U a, U b, U c] 1) (rowG encU L) q := by
  rw [catR_at]
  by_cases h : q < 3
  · rw [if_pos h]
    obtain rfl | rfl | rfl : q = 0 ∨ q = 1 ∨ q = 2 := by omega
    all_goals rfl
  · rw [if_neg h]
    unfold rowG
    rw [List.getD_eq_getElem?_getD, List.getElem?_append_right (by simp; omega), List.getD_eq_getElem?_getD]
    rfl
theorem rsumP_any (a b c d : Int) (L : List Int) (ha : 0 ≤ a ∧ a ≤ 1048575) (hb : 0 ≤ b ∧ b ≤ 100000) (hc : 0 ≤ c ∧ c ≤ 100000) (hw : Wf L) (hl : L.length ≤ 100000) : CallOK Try.prog 110 [.agg [I a, I b, I c, U16 d], .sl 0 0 1 L.length none] [(0, .ro 1 L.length (rowG encU L))] (U16 (smW a b c L)) [] := by
  have hw3 := wf3 (a := a) (b := b) (c := c) (by omega) (by omega) (by omega)
  have s1 := rsums_any ([a, b, c] ++ L) (fun x hx => by rcases List.mem_append.1 hx with h | h; exact hw3 x h; exact hw x h) (by simp; omega)
  have b2 := extW_bd 0 ([a, b, c] ++ L) (by omega)
  have s2 := rshort_any _ b2
  have s1 : CallOK Try.prog 97 [.sl 0 0 1 ([a, b, c] ++ L).length none] [(0, .ro 1 ([a, b, c] ++ L).length (rowG encU ([a, b, c] ++ L)))] (U32 (extW 0 ([a, b, c] ++ L))) [] := s1
  have s1 : CallOK Try.prog 97 [.sl 0 0 1 (2 + 1 + L.length) none] [(0, .ro 1 (2 + 1 + L.length) (catR 3 (rowsOf [U a, U b, U c] 1) (rowG encU L)))] (U32 (extW 0 ([a, b, c] ++ L))) [] := by
    rw [show ([a, b, c] ++ L).length = 2 + 1 + L.length by simp; omega] at s1
    refine s1.sim fun id => ?_
    simp only [find]
    split
    · exact ⟨⟨rfl, rfl, fun q hq => cat3 a b c L q hq⟩, ⟨rfl, rfl, fun q hq => (cat3 a b c L q hq).symm⟩⟩
    · exact OSim.refl _
  unfold smW
  generalize extW 0 ([a, b, c] ++ L) = r at *
  refine CallOK.intro Try.call110 Try.func110 rfl rfl ⟨rfl, fun _ => rfl, trivial⟩ ?_
  refine Safe.ends mixed Try.func110 6 [⟨1100, []⟩, ⟨1200, []⟩, ⟨1300, [(1, .call [1211] (.val (Value.int IntKind.u32 r)) []), (2, .call [] (.val (Value.int IntKind.u16 (shortF r))) [])]⟩] (r := .val (Value.int IntKind.u16 (shortF r))) (hp := [(0, .ro 1 L.length (rowG encU L))]) (ob := [inK IntKind.u64 a, inK IntKind.u64 b, inK IntKind.u64 c, 0 + L.length ≤ L.length, 3 = 3, 3 + L.length ≤ 1099511627776, CallOK Try.prog 97 ([] ++ [.sl 1211 0 1 (2 + 1 + L.length) none] ++ []) [(1211, .vec 22 1 (2 + 1 + L.length) fun q => if q < 2 + 1 then rowsOf [U a, U b, U c] 1 q else rowG encU L (q - (2 + 1)))] (AV.val (Value.int IntKind.u32 r)) [], CallOK Try.prog 126 ([] ++ [AV.val (Value.int IntKind.u32 r)] ++ []) [] (AV.val (Value.int IntKind.u16 (shortF r))) []]) rfl (by kernel_rfl) ⟨(by simp only [inK]; omega), (by simp only [inK]; omega), (by simp only [inK]; omega), (by omega), (by omega), (by omega), (CallOK.simR (CallOK.ren (CallOK.own 22 0 (es := 1) (n := 2 + 1 + L.length) (row := catR 3 (rowsOf [U a, U b, U c] 1) (rowG encU L)) rfl rfl rfl s1) [(0, 1211)] [0] rfl rfl rfl rfl ⟨rfl, (fun q => by first | exact closed_cat (n := 3) (closed_rows rfl) (fun _ => rfl) q | (split <;> rfl)), trivial⟩ rfl ⟨rfl, (fun q => by first | exact closed_cat (n := 3) (closed_rows rfl) (fun _ => rfl) q | (split <;> rfl)), trivial⟩) (HpSim.cons rfl (OSim.nlV ((fun q => by first | exact closed_cat (n := 3) (closed_rows rfl) (fun _ => rfl) q | (split <;> rfl)))) HpSim.nil)), s2, trivial⟩ rfl ⟨ObLe.refl _, trivial⟩ ⟨rfl, fun _ => rfl, trivial⟩ rfl
end Go.Proofs.Ytbgbjgedjmhcaaa
namespace Go.Proofs.Ytbgbjgedjmhcaaa
open Go.RowKit
theorem wsP_wfX {X : List Int} (hw : Wf X) (R st : Nat) : ∀ i, Wf (wsP (lv X) R st i)
  | 0 => fun x hx => by cases hx
  | i + 1 => fun x hx => by
    rcases List.mem_append.1 hx with h | h
    · exact wsP_wfX hw R st i x h
    · rw [List.mem_singleton.1 h]
      exact hw.at _
theorem rwh_unfit (X : List Int) (R a b c d : Nat) (w : Int) (sp : CallOK Try.prog 83 [U w] [] (.agg [I a, I b, I c, U16 d]) []) (hX : X.length ≤ 1000) (hR : R + 2 = X.length) (h : ¬ fitsR R a b c) :
    CallOK Try.prog 84 [.sl 0 0 1 X.length none, U w] [(0, .ro 1 X.length (rowG encU X))] (.tup [S ⟨#[]⟩, B false]) [] := by
  have rg := ring_any X.length hX
  rw [show (X.length : Int) - 2 = (R : Int) by omega] at rg
  by_cases h1 : a = 0
  · have q1 : (a : Int) = 0 := by omega
    refine CallOK.intro Try.call84 Try.func84 rfl rfl ⟨rfl, fun _ => rfl, trivial⟩ ?_
    refine Safe.ends mixed Try.func84 12 [⟨1100, []⟩, ⟨1200, [(1, .call [] (.agg [I ↑a, I ↑b, I ↑c, .val (Value.int IntKind.u16 (↑d : Int))]) [])]⟩, ⟨1300, [(2, .call [] (I ↑R) [])]⟩, ⟨1400, [(2, .tt true)]⟩, ⟨1500, []⟩] (r := .tup [S (ByteArray.mk #[]), B false]) (hp := [(0, .ro 1 X.length (rowG encU X))]) (ob := [CallOK Try.prog 83 ([] ++ [U w] ++ []) [] (.agg [I ↑a, I ↑b, I ↑c, AV.val (Value.int IntKind.u16 (↑d : Int))]) [], CallOK Try.prog 109 ([] ++ [I ↑X.length] ++ []) [] (I ↑R) [], decide ((↑a : Int) = (0 : Int)) = true]) rfl (by kernel_rfl) ⟨sp, rg, (decide_eq_true q1), trivial⟩ rfl ⟨ObLe.refl _, trivial⟩ ⟨rfl, fun _ => rfl, trivial⟩ rfl
  have q1 : ¬ (a : Int) = 0 := by omega
  by_cases h2 : c = 0
  · have q2 : (c : Int) = 0 := by omega
    refine CallOK.intro Try.call84 Try.func84 rfl rfl ⟨rfl, fun _ => rfl, trivial⟩ ?_
    refine Safe.ends mixed Try.func84 12 [⟨1100, []⟩, ⟨1200, [(1, .call [] (.agg [I ↑a, I ↑b, I ↑c, .val (Value.int IntKind.u16 (↑d : Int))]) [])]⟩, ⟨1300, [(2, .call [] (I ↑R) [])]⟩, ⟨1400, [(2, .tt false), (6, .tt true)]⟩, ⟨1500, []⟩] (r := .tup [S (ByteArray.mk #[]), B false]) (hp := [(0, .ro 1 X.length (rowG encU X))]) (ob := [CallOK Try.prog 83 ([] ++ [U w] ++ []) [] (.agg [I ↑a, I ↑b, I ↑c, AV.val (Value.int IntKind.u16 (↑d : Int))]) [], CallOK Try.prog 109 ([] ++ [I ↑X.length] ++ []) [] (I ↑R) [], decide ((↑a : Int) = (0 : Int)) = false, decide ((↑c : Int) = (0 : Int)) = true]) rfl (by kernel_rfl) ⟨sp, rg, (decide_eq_false q1), (decide_eq_true q2), trivial⟩ rfl ⟨ObLe.refl _, trivial⟩ ⟨rfl, fun _ => rfl, trivial⟩ rfl
  have q2 : ¬ (c : Int) = 0 := by omega
  by_cases h3 : R ≤ b
  · have q3 : (b : Int) ≥ (R : Int) := by omega
    refine CallOK.intro Try.call84 Try.func84 rfl rfl ⟨rfl, fun _ => rfl, trivial⟩ ?_
    refine Safe.ends mixed Try.func84 12 [⟨1100, []⟩, ⟨1200, [(1, .call [] (.agg [I ↑a, I ↑b, I ↑c, .val (Value.int IntKind.u16 (↑d : Int))]) [])]⟩, ⟨1300, [(2, .call [] (I ↑R) [])]⟩, ⟨1400, [(2, .tt false), (6, .tt false), (12, .tt true)]⟩, ⟨1500, []⟩] (r := .tup [S (ByteArray.mk #[]), B false]) (hp := [(0, .ro 1 X.length (rowG encU X))]) (ob := [CallOK Try.prog 83 ([] ++ [U w] ++ []) [] (.agg [I ↑a, I ↑b, I ↑c, AV.val (Value.int IntKind.u16 (↑d : Int))]) [], CallOK Try.prog 109 ([] ++ [I ↑X.length] ++ []) [] (I ↑R) [], decide ((↑a : Int) = (0 : Int)) = false, decide ((↑c : Int) = (0 : Int)) = false, decide ((↑b : Int) ≥ (↑R : Int)) = true]) rfl (by kernel_rfl) ⟨sp, rg, (decide_eq_false q1), (decide_eq_false q2), (decide_eq_true q3), trivial⟩ rfl ⟨ObLe.refl _, trivial⟩ ⟨rfl, fun _ => rfl, trivial⟩ rfl
  have q3 : ¬ (b : Int) ≥ (R : Int) := by omega
  have q4 : (c : Int) > (R : Int) := by
    unfold fitsR at h
    omega
  refine CallOK.intro Try.call84 Try.func84 rfl rfl ⟨rfl, fun _ => rfl, trivial⟩ ?_
  refine Safe.ends mixed Try.func84 12 [⟨1100, []⟩, ⟨1200, [(1, .call [] (.agg [I ↑a, I ↑b, I ↑c, .val (Value.int IntKind.u16 (↑d : Int))]) [])]⟩, ⟨1300, [(2, .call [] (I ↑R) [])]⟩, ⟨1400, [(2, .tt false), (6, .tt false), (12, .tt false), (18, .tt true)]⟩, ⟨1500, []⟩] (r := .tup [S (ByteArray.mk #[]), B false]) (hp := [(0, .ro 1 X.length (rowG encU X))]) (ob := [CallOK Try.prog 83 ([] ++ [U w] ++ []) [] (.agg [I ↑a, I ↑b, I ↑c, AV.val (Value.int IntKind.u16 (↑d : Int))]) [], CallOK Try.prog 109 ([] ++ [I ↑X.length] ++ []) [] (I ↑R) [], decide ((↑a : Int) = (0 : Int)) = false, decide ((↑c : Int) = (0 : Int)) = false, decide ((↑b : Int) ≥ (↑R : Int)) = false, decide ((↑c : Int) > (↑R : Int)) = true]) rfl (by kernel_rfl) ⟨sp, rg, (decide_eq_false q1), (decide_eq_false q2), (decide_eq_false q3), (decide_eq_true q4), trivial⟩ rfl ⟨ObLe.refl _, trivial⟩ ⟨rfl, fun _ => rfl, trivial⟩ rfl
theorem rwh_ok (X : List Int) (R a b c d : Nat) (w : Int) (sp : CallOK Try.prog 83 [U w] [] (.agg [I a, I b, I c, U16 d]) []) (hX : X.length ≤ 1000) (hR : R + 2 = X.length) (hw : Wf X) (ha : a ≤ 1048575) (h : fitsR R a b c)
    (n : Nat) (h1 : fromOK (wsP (lv X) R b c) n) (h2 : pads (wsP (lv X) R b c) n (nB n)) :
    CallOK Try.prog 84 [.sl 0 0 1 X.length none, U w] [(0, .ro 1 X.length (rowG encU X))] (.tup [S (fromT (wsP (lv X) R b c) n), B (decide ((d : Int) = smW a b c (wsP (lv X) R b c)))]) [] := by
  have rg := ring_any X.length hX
  rw [show (X.length : Int) - 2 = (R : Int) by omega] at rg
  obtain ⟨f1, f2, f3, f4⟩ := h
  have hl := wsP_len (lv X) R b c
  have hwf := wsP_wfX hw R b c
  have ft := rft_ok _ n hwf h1 h2
  have so := rsumP_any a b c d _ (by omega) (by omega) (by omega) hwf (by omega)
  have rw' := rwordsP_any X R b c hX hR (by omega) (by omega) ⟨by omega, by omega⟩ hw
  have q1 : ¬ (a : Int) = 0 := by omega
  have q2 : ¬ (c : Int) = 0 := by omega
  have q3 : ¬ (b : Int) ≥ (R : Int) := by omega
  have q4 : ¬ (c : Int) > (R : Int) := by omega
  clear h1 h2
  generalize wsP (lv X) R b c = L at *
  subst hl
  refine CallOK.intro Try.call84 Try.func84 rfl rfl ⟨rfl, fun _ => rfl, trivial⟩ ?_
  refine Safe.ends mixed Try.func84 17 [⟨1100, []⟩, ⟨1200, [(1, .call [] (.agg [I ↑a, I ↑b, I ↑L.length, .val (Value.int IntKind.u16 (↑d : Int))]) [])]⟩, ⟨1300, [(2, .call [] (I ↑R) [])]⟩, ⟨1400, [(2, .tt false), (6, .tt false), (12, .tt false), (18, .tt false)]⟩, ⟨1500, [(5, .call [0] (.sl 1575 0 1 L.length none) [(1575, some (.vec 22 1 L.length (fun q => renL [(0, 0), (10, 1575)] (rowG encU L q))))])]⟩, ⟨1600, [(1, .call [1575] (.tup [S (fromT L n), I 0]) [])]⟩, ⟨1700, [(8, .call [1575] (.val (Value.int IntKind.u16 (smW (↑a : Int) (↑b : Int) (↑L.length : Int) L))) [])]⟩] (r := .tup [S (fromT L n), B (decide ((↑d : Int) = smW (↑a : Int) (↑b : Int) (↑L.length : Int) L))]) (hp := [(0, .ro 1 X.length (rowG encU X))]) (ob := [CallOK Try.prog 83 ([] ++ [U w] ++ []) [] (.agg [I ↑a, I ↑b, I ↑L.length, AV.val (Value.int IntKind.u16 (↑d : Int))]) [], CallOK Try.prog 109 ([] ++ [I ↑X.length] ++ []) [] (I ↑R) [], decide ((↑a : Int) = (0 : Int)) = false, decide ((↑L.length : Int) = (0 : Int)) = false, decide ((↑b : Int) ≥ (↑R : Int)) = false, decide ((↑L.length : Int) > (↑R : Int)) = false, CallOK Try.prog 111 ([] ++ [.sl 0 0 1 X.length none, I ↑b, I ↑L.length] ++ []) [(0, .ro 1 X.length (rowG encU X))] (.sl 1575 0 1 L.length none) [(1575, some (.vec 22 1 L.length fun q => renL [(0, 0), (10, 1575)] (rowG encU L q)))], CallOK Try.prog 112 ([] ++ [.sl 1575 0 1 L.length none] ++ []) [(1575, .vec 22 1 L.length fun q => renL [(0, 0), (10, 1575)] (rowG encU L q))] (.tup [AV.val (Value.string (fromT L n)), I 0]) [], CallOK Try.prog 110 ([] ++ [.agg [I ↑a, I ↑b, I ↑L.length, AV.val (Value.int IntKind.u16 (↑d : Int))], .sl 1575 0 1 L.length none] ++ []) [(1575, .vec 22 1 L.length fun q => renL [(0, 0), (10, 1575)] (rowG encU L q))] (AV.val (Value.int IntKind.u16 (smW (↑a : Int) (↑b : Int) (↑L.length : Int) L))) []]) rfl (by kernel_rfl) ⟨sp, rg, (decide_eq_false q1), (decide_eq_false q2), (decide_eq_false q3), (decide_eq_false q4), (CallOK.ren rw' [(0, 0), (10, 1575)] [0, 10] rfl rfl rfl rfl ⟨rfl, fun _ => rfl, trivial⟩ rfl ⟨rfl, fun _ => rfl, rfl, fun _ => rfl, trivial⟩), (CallOK.ren (CallOK.own 22 0 (es := 1) (n := L.length) (row := rowG encU L) rfl rfl rfl ft) [(0, 1575)] [0] rfl rfl rfl rfl ⟨rfl, fun _ => rfl, trivial⟩ rfl ⟨rfl, fun _ => rfl, trivial⟩), (CallOK.ren (CallOK.own 22 0 (es := 1) (n := L.length) (row := rowG encU L) rfl rfl rfl so) [(0, 1575)] [0] rfl rfl rfl rfl ⟨rfl, fun _ => rfl, trivial⟩ rfl ⟨rfl, fun _ => rfl, trivial⟩), trivial⟩ rfl ⟨ObLe.refl _, trivial⟩ ⟨rfl, fun _ => rfl, trivial⟩ rfl
  all_goals skip
theorem rwh_bad (X : List Int) (R a b c d : Nat) (w : Int) (sp : CallOK Try.prog 83 [U w] [] (.agg [I a, I b, I c, U16 d]) []) (hX : X.length ≤ 1000) (hR : R + 2 = X.length) (hw : Wf X) (ha : a ≤ 1048575) (h : fitsR R a b c)
    (hn : ∀ n, ¬ (fromOK (wsP (lv X) R b c) n ∧ pads (wsP (lv X) R b c) n (nB n))) :
    CallOK Try.prog 84 [.sl 0 0 1 X.length none, U w] [(0, .ro 1 X.length (rowG encU X))] (.tup [S ⟨#[]⟩, B false]) [] := by
  have rg := ring_any X.length hX
  rw [show (X.length : Int) - 2 = (R : Int) by omega] at rg
  obtain ⟨f1, f2, f3, f4⟩ := h
  have hl := wsP_len (lv X) R b c
  have hwf := wsP_wfX hw R b c
  have ft : CallOK Try.prog 112 [.sl 0 0 1 (wsP (lv X) R b c).length none] [(0, .ro 1 (wsP (lv X) R b c).length (rowG encU (wsP (lv X) R b c)))] (.tup [S ⟨#[]⟩, I 2]) [] := by
    by_cases h2 : ∃ n, fromOK (wsP (lv X) R b c) n
    · obtain ⟨n, h2⟩ := h2
      exact rft_pad _ n hwf h2 fun h3 => hn n ⟨h2, h3⟩
    · exact rft_bad _ hwf (by omega) fun n h3 => h2 ⟨n, h3⟩
  have rw' := rwordsP_any X R b c hX hR (by omega) (by omega) ⟨by omega, by omega⟩ hw
  have q1 : ¬ (a : Int) = 0 := by omega
  have q2 : ¬ (c : Int) = 0 := by omega
  have q3 : ¬ (b : Int) ≥ (R : Int) := by omega
  have q4 : ¬ (c : Int) > (R : Int) := by omega
  clear hn
  generalize wsP (lv X) R b c = L at *
  subst hl
  refine CallOK.intro Try.call84 Try.func84 rfl rfl ⟨rfl, fun _ => rfl, trivial⟩ ?_
  refine Safe.ends mixed Try.func84 17 [⟨1100, []⟩, ⟨1200, [(1, .call [] (.agg [I ↑a, I ↑b, I ↑L.length, .val (Value.int IntKind.u16 (↑d : Int))]) [])]⟩, ⟨1300, [(2, .call [] (I ↑R) [])]⟩, ⟨1400, [(2, .tt false), (6, .tt false), (12, .tt false), (18, .tt false)]⟩, ⟨1500, [(5, .call [0] (.sl 1575 0 1 L.length none) [(1575, some (.vec 22 1 L.length (fun q => renL [(0, 0), (10, 1575)] (rowG encU L q))))])]⟩, ⟨1600, [(1, .call [1575] (.tup [S (ByteArray.mk #[]), I 2]) [])]⟩, ⟨1700, []⟩] (r := .tup [S (ByteArray.mk #[]), B false]) (hp := [(0, .ro 1 X.length (rowG encU X))]) (ob := [CallOK Try.prog 83 ([] ++ [U w] ++ []) [] (.agg [I ↑a, I ↑b, I ↑L.length, AV.val (Value.int IntKind.u16 (↑d : Int))]) [], CallOK Try.prog 109 ([] ++ [I ↑X.length] ++ []) [] (I ↑R) [], decide ((↑a : Int) = (0 : Int)) = false, decide ((↑L.length : Int) = (0 : Int)) = false, decide ((↑b : Int) ≥ (↑R : Int)) = false, decide ((↑L.length : Int) > (↑R : Int)) = false, CallOK Try.prog 111 ([] ++ [.sl 0 0 1 X.length none, I ↑b, I ↑L.length] ++ []) [(0, .ro 1 X.length (rowG encU X))] (.sl 1575 0 1 L.length none) [(1575, some (.vec 22 1 L.length fun q => renL [(0, 0), (10, 1575)] (rowG encU L q)))], CallOK Try.prog 112 ([] ++ [.sl 1575 0 1 L.length none] ++ []) [(1575, .vec 22 1 L.length fun q => renL [(0, 0), (10, 1575)] (rowG encU L q))] (.tup [AV.val (Value.string (ByteArray.mk #[])), I 2]) []]) rfl (by kernel_rfl) ⟨sp, rg, (decide_eq_false q1), (decide_eq_false q2), (decide_eq_false q3), (decide_eq_false q4), (CallOK.ren rw' [(0, 0), (10, 1575)] [0, 10] rfl rfl rfl rfl ⟨rfl, fun _ => rfl, trivial⟩ rfl ⟨rfl, fun _ => rfl, rfl, fun _ => rfl, trivial⟩), (CallOK.ren (CallOK.own 22 0 (es := 1) (n := L.length) (row := rowG encU L) rfl rfl rfl ft) [(0, 1575)] [0] rfl rfl rfl rfl ⟨rfl, fun _ => rfl, trivial⟩ rfl ⟨rfl, fun _ => rfl, trivial⟩), trivial⟩ rfl ⟨ObLe.refl _, trivial⟩ ⟨rfl, fun _ => rfl, trivial⟩ rfl
  all_goals skip
end Go.Proofs.Ytbgbjgedjmhcaaa
namespace Go.Proofs.Ytbgbjgedjmhcaaa
open Go.RowKit
theorem splitN (w : Int) (hw : 0 ≤ w ∧ w ≤ 18446744073709551615) : CallOK Try.prog 83 [U w] [] (.agg [I (n0 w), I (n1 w), I (n2 w), U16 (n3 w)]) [] := by
  have := rsplit_any w hw
  obtain ⟨⟨e0, _⟩, ⟨e1, _⟩, ⟨e2, _⟩, ⟨e3, _⟩⟩ := n_eq w
  rw [e0, e1, e2, e3] at this
  exact this
theorem rwhole_yes (X : List Int) (R : Nat) (w : Int) (hX : X.length ≤ 1000) (hR : R + 2 = X.length) (hw : Wf X) (hb : 0 ≤ w ∧ w ≤ 18446744073709551615) (t : ByteArray) (h : Wh (lv X) R w t) :
    CallOK Try.prog 84 [.sl 0 0 1 X.length none, U w] [(0, .ro 1 X.length (rowG encU X))] (.tup [S t, B true]) [] := by
  obtain ⟨h1, h2, h3, h4, h5⟩ := h
  have := rwh_ok X R _ _ _ _ w (splitN w hb) hX hR hw (n_eq w).1.2 h1 t.size h2 h3
  rw [← h5, decide_eq_true h4.symm] at this
  exact this
theorem rwhole_no (X : List Int) (R : Nat) (w : Int) (hX : X.length ≤ 1000) (hR : R + 2 = X.length) (hw : Wf X) (hb : 0 ≤ w ∧ w ≤ 18446744073709551615) (h : ∀ t, ¬ Wh (lv X) R w t) :
    ∃ s, CallOK Try.prog 84 [.sl 0 0 1 X.length none, U w] [(0, .ro 1 X.length (rowG encU X))] (.tup [S s, B false]) [] := by
  by_cases h1 : fitsR R (n0 w) (n1 w) (n2 w)
  · by_cases h2 : ∃ n, fromOK (wsP (lv X) R (n1 w) (n2 w)) n ∧ pads (wsP (lv X) R (n1 w) (n2 w)) n (nB n)
    · obtain ⟨n, h2, h3⟩ := h2
      have := rwh_ok X R _ _ _ _ w (splitN w hb) hX hR hw (n_eq w).1.2 h1 n h2 h3
      rw [decide_eq_false fun h4 => h (fromT (wsP (lv X) R (n1 w) (n2 w)) n) ⟨h1, by rw [fromT_size]; exact h2, by rw [fromT_size]; exact h3, h4.symm, by rw [fromT_size]⟩] at this
      exact ⟨_, this⟩
    · exact ⟨_, rwh_bad X R _ _ _ _ w (splitN w hb) hX hR hw (n_eq w).1.2 h1 fun n hn => h2 ⟨n, hn⟩⟩
  · exact ⟨_, rwh_unfit X R _ _ _ _ w (splitN w hb) hX hR h1⟩
abbrev nilS : AV := .val (.slice none 0 0)
theorem rprep_sum (X : List Int) (R : Nat) (sq : Int) (t : ByteArray) (hX : 4 ≤ X.length ∧ X.length ≤ 1000) (hR : R + 2 = X.length) (hw : Wf X) (hq : 1 ≤ sq ∧ sq ≤ 1048575) (ht : t.size ≤ 8192) (h0 : ¬ X.getD 0 default = 0) (h : ∀ t, ¬ Wh (lv X) R (X.getD 0 default) t) : CallOK Try.prog 80 [.sl 0 0 1 X.length none, I sq, S t] [(0, .ro 1 X.length (rowG encU X))] (.tup [nilS, I 11]) [] := by
  have h1 : ¬ (X.length : Int) < 4 := by omega
  have h2 : ¬ sq < 1 := by omega
  have h3 : ¬ sq > 1048575 := by omega
  have tx := rtext_ok t ht
  obtain ⟨s, wh⟩ := rwhole_no X R _ hX.2 hR hw (hw.at 0) h
  refine CallOK.intro Try.call80 Try.func80 rfl rfl ⟨rfl, fun _ => rfl, trivial⟩ ?_
  refine Safe.ends mixed Try.func80 33 [⟨1100, []⟩, ⟨1200, [(2, .tt false)]⟩, ⟨1300, [(1, .tt false), (4, .tt false)]⟩, ⟨1400, [(1, .call [] (.tup [.sl 1455 0 1 ((textW t).length) none, I 0]) [(1455, some (.vec 22 1 ((textW t).length) (fun q => renL [(10, 1455)] (rowG encU (textW t) q))))])]⟩, ⟨1500, []⟩, ⟨1600, []⟩, ⟨1700, [(3, .tt true)]⟩, ⟨1800, [(4, .call [0] (.tup [S s, B false]) [])]⟩, ⟨1900, []⟩, ⟨2000, []⟩] (r := .tup [.val (Value.slice none 0 0), I 11]) (hp := [(0, .ro 1 X.length (rowG encU X))]) (ob := [decide ((↑X.length : Int) < (4 : Int)) = false, decide (sq < (1 : Int)) = false, decide (sq > (1048575 : Int)) = false, CallOK Try.prog 108 ([] ++ [AV.val (Value.string t)] ++ []) [] (.tup [.sl 1455 0 1 (textW t).length none, I 0]) [(1455, some (.vec 22 1 (textW t).length fun q => renL [(10, 1455)] (rowG encU (textW t) q)))], (0 : Int) ≤ (0 : Int) ∧ (0 : Int) < (↑X.length : Int), 0 < X.length, (decide ¬X.getD 0 default = (0 : Int)) = true, (0 : Int) ≤ (0 : Int) ∧ (0 : Int) < (↑X.length : Int), 0 < X.length, CallOK Try.prog 84 ([] ++ [.sl 0 0 1 X.length none, U (X.getD 0 default)] ++ []) [(0, .ro 1 X.length (rowG encU X))] (.tup [AV.val (Value.string s), B false]) []]) rfl (by kernel_rfl) ⟨(decide_eq_false h1), (decide_eq_false h2), (decide_eq_false h3), (CallOK.ren tx [(10, 1455)] [10] rfl rfl rfl rfl trivial rfl ⟨rfl, fun _ => rfl, trivial⟩), (by omega), (by omega), (decide_eq_true h0), (by omega), (by omega), wh, trivial⟩ rfl ⟨ObLe.refl _, trivial⟩ ⟨rfl, fun _ => rfl, trivial⟩ rfl
theorem rprep_space0 (X : List Int) (R : Nat) (sq : Int) (t : ByteArray) (hX : 4 ≤ X.length ∧ X.length ≤ 1000) (hR : R + 2 = X.length) (hq : 1 ≤ sq ∧ sq ≤ 1048575) (ht : t.size ≤ 8192) (h0 : X.getD 0 default = 0) (hs : R < ln t.size) : CallOK Try.prog 80 [.sl 0 0 1 X.length none, I sq, S t] [(0, .ro 1 X.length (rowG encU X))] (.tup [nilS, I 14]) [] := by
  have h1 : ¬ (X.length : Int) < 4 := by omega
  have h2 : ¬ sq < 1 := by omega
  have h3 : ¬ sq > 1048575 := by omega
  have tx := rtext_ok t ht
  have rg := ring_any X.length hX.2
  rw [show (X.length : Int) - 2 = (R : Int) by omega] at rg
  have hl := textW_len t
  have hb := ln_bd t.size
  have hgt : ((textW t).length : Int) + 0 > (R : Int) := by omega
  refine CallOK.intro Try.call80 Try.func80 rfl rfl ⟨rfl, fun _ => rfl, trivial⟩ ?_
  refine Safe.ends mixed Try.func80 34 [⟨1100, []⟩, ⟨1200, [(2, .tt false)]⟩, ⟨1300, [(1, .tt false), (4, .tt false)]⟩, ⟨1400, [(1, .call [] (.tup [.sl 1455 0 1 ((textW t).length) none, I 0]) [(1455, some (.vec 22 1 ((textW t).length) (fun q => renL [(10, 1455)] (rowG encU (textW t) q))))])]⟩, ⟨1500, []⟩, ⟨1600, []⟩, ⟨1700, [(3, .tt false)]⟩, ⟨1800, [(2, .call [] (I ↑R) [])]⟩, ⟨1900, [(6, .tt true)]⟩, ⟨2000, []⟩] (r := .tup [.val (Value.slice none 0 0), I 14]) (hp := [(0, .ro 1 X.length (rowG encU X))]) (ob := [decide ((↑X.length : Int) < (4 : Int)) = false, decide (sq < (1 : Int)) = false, decide (sq > (1048575 : Int)) = false, CallOK Try.prog 108 ([] ++ [AV.val (Value.string t)] ++ []) [] (.tup [.sl 1455 0 1 (textW t).length none, I 0]) [(1455, some (.vec 22 1 (textW t).length fun q => renL [(10, 1455)] (rowG encU (textW t) q)))], (0 : Int) ≤ (0 : Int) ∧ (0 : Int) < (↑X.length : Int), 0 < X.length, (decide ¬X.getD 0 default = (0 : Int)) = false, CallOK Try.prog 109 ([] ++ [I ↑X.length] ++ []) [] (I ↑R) [], inK IntKind.i64 ((↑(textW t).length : Int) + (0 : Int)), decide ((↑(textW t).length : Int) + (0 : Int) > (↑R : Int)) = true]) rfl (by kernel_rfl) ⟨(decide_eq_false h1), (decide_eq_false h2), (decide_eq_false h3), (CallOK.ren tx [(10, 1455)] [10] rfl rfl rfl rfl trivial rfl ⟨rfl, fun _ => rfl, trivial⟩), (by omega), (by omega), (decide_eq_false (fun hn => hn h0)), rg, (by simp only [inK]; omega), (decide_eq_true hgt), trivial⟩ rfl ⟨ObLe.refl _, trivial⟩ ⟨rfl, fun _ => rfl, trivial⟩ rfl
theorem rprep_space1 (X : List Int) (R : Nat) (sq : Int) (t t0 : ByteArray) (hX : 4 ≤ X.length ∧ X.length ≤ 1000) (hR : R + 2 = X.length) (hw : Wf X) (hq : 1 ≤ sq ∧ sq ≤ 1048575) (ht : t.size ≤ 8192) (h0 : ¬ X.getD 0 default = 0) (h : Wh (lv X) R (X.getD 0 default) t0) (hs : R < ln t.size + n2 (X.getD 0 default)) : CallOK Try.prog 80 [.sl 0 0 1 X.length none, I sq, S t] [(0, .ro 1 X.length (rowG encU X))] (.tup [nilS, I 14]) [] := by
  have h1 : ¬ (X.length : Int) < 4 := by omega
  have h2 : ¬ sq < 1 := by omega
  have h3 : ¬ sq > 1048575 := by omega
  have tx := rtext_ok t ht
  have rg := ring_any X.length hX.2
  rw [show (X.length : Int) - 2 = (R : Int) by omega] at rg
  have wh := rwhole_yes X R _ hX.2 hR hw (hw.at 0) t0 h
  have sp := splitN _ (hw.at 0)
  have bd := n_eq (X.getD 0 default)
  have hl := textW_len t
  have hb := ln_bd t.size
  have hgt : ((textW t).length : Int) + (n2 (X.getD 0 default) : Int) > (R : Int) := by omega
  refine CallOK.intro Try.call80 Try.func80 rfl rfl ⟨rfl, fun _ => rfl, trivial⟩ ?_
  refine Safe.ends mixed Try.func80 41 [⟨1100, []⟩, ⟨1200, [(2, .tt false)]⟩, ⟨1300, [(1, .tt false), (4, .tt false)]⟩, ⟨1400, [(1, .call [] (.tup [.sl 1455 0 1 ((textW t).length) none, I 0]) [(1455, some (.vec 22 1 ((textW t).length) (fun q => renL [(10, 1455)] (rowG encU (textW t) q))))])]⟩, ⟨1500, []⟩, ⟨1600, []⟩, ⟨1700, [(3, .tt true)]⟩, ⟨1800, [(4, .call [0] (.tup [S t0, B true]) [])]⟩, ⟨1900, []⟩, ⟨2000, [(3, .call [] (.agg [I ((↑(n0 (X.getD 0 default)) : Int)), I ((↑(n1 (X.getD 0 default)) : Int)), I ((↑(n2 (X.getD 0 default)) : Int)), .val (Value.int IntKind.u16 (↑(n3 (X.getD 0 default)) : Int))]) [])]⟩, ⟨2100, [(2, .call [] (I ↑R) [])]⟩, ⟨2200, [(6, .tt true)]⟩, ⟨2300, []⟩] (r := .tup [.val (Value.slice none 0 0), I 14]) (hp := [(0, .ro 1 X.length (rowG encU X))]) (ob := [decide ((↑X.length : Int) < (4 : Int)) = false, decide (sq < (1 : Int)) = false, decide (sq > (1048575 : Int)) = false, CallOK Try.prog 108 ([] ++ [AV.val (Value.string t)] ++ []) [] (.tup [.sl 1455 0 1 (textW t).length none, I 0]) [(1455, some (.vec 22 1 (textW t).length fun q => renL [(10, 1455)] (rowG encU (textW t) q)))], (0 : Int) ≤ (0 : Int) ∧ (0 : Int) < (↑X.length : Int), 0 < X.length, (decide ¬X.getD 0 default = (0 : Int)) = true, (0 : Int) ≤ (0 : Int) ∧ (0 : Int) < (↑X.length : Int), 0 < X.length, CallOK Try.prog 84 ([] ++ [.sl 0 0 1 X.length none, U (X.getD 0 default)] ++ []) [(0, .ro 1 X.length (rowG encU X))] (.tup [AV.val (Value.string t0), B true]) [], (0 : Int) ≤ (0 : Int) ∧ (0 : Int) < (↑X.length : Int), 0 < X.length, CallOK Try.prog 83 ([] ++ [U (X.getD 0 default)] ++ []) [] (.agg [I (↑(n0 (X.getD 0 default)) : Int), I (↑(n1 (X.getD 0 default)) : Int), I (↑(n2 (X.getD 0 default)) : Int), AV.val (Value.int IntKind.u16 (↑(n3 (X.getD 0 default)) : Int))]) [], CallOK Try.prog 109 ([] ++ [I ↑X.length] ++ []) [] (I ↑R) [], inK IntKind.i64 ((↑(textW t).length : Int) + (↑(n2 (X.getD 0 default)) : Int)), decide ((↑(textW t).length : Int) + (↑(n2 (X.getD 0 default)) : Int) > (↑R : Int)) = true]) rfl (by kernel_rfl) ⟨(decide_eq_false h1), (decide_eq_false h2), (decide_eq_false h3), (CallOK.ren tx [(10, 1455)] [10] rfl rfl rfl rfl trivial rfl ⟨rfl, fun _ => rfl, trivial⟩), (by omega), (by omega), (decide_eq_true h0), (by omega), (by omega), wh, (by omega), (by omega), sp, rg, (by simp only [inK]; omega), (decide_eq_true hgt), trivial⟩ rfl ⟨ObLe.refl _, trivial⟩ ⟨rfl, fun _ => rfl, trivial⟩ rfl
end Go.Proofs.Ytbgbjgedjmhcaaa
namespace Go.Proofs.Ytbgbjgedjmhcaaa
open Go.RowKit
def toL (N : Nat) (v : Nat → Int) : List Int := (List.range N).map v
theorem toL_len (N : Nat) (v : Nat → Int) : (toL N v).length = N := by simp [toL]
theorem toL_lv (X : List Int) : toL X.length (lv X) = X := by
  refine List.ext_getElem (toL_len _ _) fun q h1 h2 => ?_
  simp only [toL, List.getElem_map, List.getElem_range, lv]
  rw [List.getD_eq_getElem?_getD, List.getElem?_eq_getElem h2]
  rfl
theorem toL_set (N : Nat) (v : Nat → Int) (p : Nat) (x : Int) : (toL N v).set p x = toL N (updV v p x) := by
  refine List.ext_getElem (by simp [toL]) fun q h1 h2 => ?_
  simp only [toL, List.getElem_set, List.getElem_map, List.getElem_range, updV]
  by_cases e : p = q
  · subst e; simp
  · rw [if_neg e, if_neg (fun h => e h.symm)]
theorem wsN_succ (v : Nat → Int) (L : List Int) (R st n : Nat) : ovA v (wsN L R st (n + 1)) = updV (ovA v (wsN L R st n)) (plc R st n) (L.getD n default) := by
  have e : wsN L R st (n + 1) = wsN L R st n ++ [some ((plc R st n : Int), L.getD n default)] := by simp [wsN, List.range_succ]
  rw [e, ovA_app]
  show updV (ovA v (wsN L R st n)) (plc R st n : Int).toNat (L.getD n default) = _
  rw [Int.toNat_natCast]
theorem or3 (a b c d : Int) (h : Fit4 a b c d) : bitsV .or .u64 (bitsV .or .u64 (bitsV .or .u64 a (b * 1048576)) (c * 68719476736)) (d * 281474976710656) = pk4 a b c d := by
  obtain ⟨h0, h1, h2, h3⟩ := h
  obtain ⟨a', rfl⟩ : ∃ x : Nat, a = (x : Int) := ⟨a.toNat, by omega⟩
  obtain ⟨b', rfl⟩ : ∃ x : Nat, b = (x : Int) := ⟨b.toNat, by omega⟩
  obtain ⟨c', rfl⟩ : ∃ x : Nat, c = (x : Int) := ⟨c.toNat, by omega⟩
  obtain ⟨d', rfl⟩ : ∃ x : Nat, d = (x : Int) := ⟨d.toNat, by omega⟩
  have e1 : a' ||| b' * 1048576 = a' + 1048576 * b' := by
    have := or_shift a' b' 20 (by omega)
    rw [Nat.shiftLeft_eq] at this
    exact this
  have e2 : (a' + 1048576 * b') ||| c' * 68719476736 = a' + 1048576 * b' + 68719476736 * c' := by
    have := or_shift (a' + 1048576 * b') c' 36 (by omega)
    rw [Nat.shiftLeft_eq] at this
    exact this
  have e3 : (a' + 1048576 * b' + 68719476736 * c') ||| d' * 281474976710656 = a' + 1048576 * b' + 68719476736 * c' + 281474976710656 * d' := by
    have := or_shift (a' + 1048576 * b' + 68719476736 * c') d' 48 (by omega)
    rw [Nat.shiftLeft_eq] at this
    exact this
  have c1 : ((b' : Int) * 1048576) = ((b' * 1048576 : Nat) : Int) := by omega
  have c2 : ((c' : Int) * 68719476736) = ((c' * 68719476736 : Nat) : Int) := by omega
  have c3 : ((d' : Int) * 281474976710656) = ((d' * 281474976710656 : Nat) : Int) := by omega
  rw [c1, or_nat _ _ (by omega) (by omega), e1, c2, or_nat _ _ (by omega) (by omega), e2, c3, or_nat _ _ (by omega) (by omega), e3]
  unfold pk4
  omega
abbrev rpO (X L : List Int) (R st i : Nat) (sq : Int) : Hp := [(0, .ro 1 X.length (rowG encU X)), (20, .vec 22 1 L.length (rowG encU L)), (21, .vec 22 1 X.length (rowG encU (toL X.length (ovA (lv X) (wsN L R st i))))), (22, .blk 143 [I sq, I st, I L.length, .val (.int .u16 0)])]
theorem rpl (X L : List Int) (R st : Nat) (sq : Int) (hX : 4 ≤ X.length ∧ X.length ≤ 1000) (hR : R + 2 = X.length) (hw : Wf X) (hL : Wf L) (hl : L.length ≤ R) (hq : 1 ≤ sq ∧ sq ≤ 1048575) (hst : st < R) :
    Safe Try.prog 80 [(0, .ro 1 X.length (rowG encU X))] (.tup [.sl 10 0 1 X.length none, I 0]) [(10, some (.vec 22 1 X.length (rowG encU (toL X.length (prV (lv X) L R st sq)))))] (loopAt Try.f80 0) ⟨slotsOf 117 [(8, .sl 20 0 1 L.length none), (13, I R), (14, .sl 21 0 1 X.length none), (15, .ptr 22 0 0 0), (16, I (0 : Nat))], rpO X L R st 0 sq⟩ [0, 20, 21, 22] := by
  refine Safe.withLoop (loopAt Try.f80 0) [0, 20, 21, 22] 117 (fun i : Nat => [(8, .sl 20 0 1 L.length none), (13, I R), (14, .sl 21 0 1 X.length none), (15, .ptr 22 0 0 0), (16, I i)]) (fun i => rpO X L R st i sq) (fun i => i ≤ L.length) (fun i => L.length - i) ?_ ?_
  · intro i hi ih
    have hlen := toL_len X.length (ovA (lv X) (wsN L R st i))
    by_cases hlt : i < L.length
    · have h2 : (i : Int) < (L.length : Int) := by omega
      have ep : ((2 : Int) + ((st : Int) + (i : Int)) % (R : Int)) = ((plc R st i : Nat) : Int) := plc_int R st i
      have hb := plc_bd R st i (by omega)
      have hmod : 0 ≤ ((st : Int) + (i : Int)) % (R : Int) ∧ ((st : Int) + (i : Int)) % (R : Int) < (R : Int) := ⟨Int.emod_nonneg _ (by omega), Int.emod_lt_of_pos _ (by omega)⟩
      have w8 := hL.at i
      have hset : ObLe (.vec 22 1 X.length (setRow (rowG encU (toL X.length (ovA (lv X) (wsN L R st i)))) (plc R st i) [U (L.getD i default)])) (.vec 22 1 X.length (rowG encU (toL X.length (ovA (lv X) (wsN L R st (i + 1)))))) := by
        rw [wsN_succ, ← toL_set]
        exact ob_setN _ _ _ hlen.symm rfl
      refine Safe.goto mixed 11 [⟨1100, [(3, .tt true)]⟩, ⟨1200, [(7, .is (I ((↑(plc R st i) : Int))))]⟩, ⟨1300, []⟩] [8, 13, 14, 15, 16] [0, 20, 21, 22] (todo' := loopAt Try.f80 0) (sl := slotsOf 117 [(8, .sl 20 0 1 L.length none), (13, I ↑R), (14, .sl 21 0 1 X.length none), (15, .ptr 22 0 0 0), (16, I ((↑i : Int) + (1 : Int)))]) (hp := [(0, .ro 1 X.length (rowG encU X)), (20, .vec 22 1 L.length (rowG encU L)), (21, .vec 22 1 X.length (setRow (rowG encU (toL X.length (ovA (lv X) (wsN L R st i)))) (plc R st i) [U (L.getD i default)])), (22, .blk 143 [I sq, I ↑st, I ↑L.length, .val (Value.int IntKind.u16 (0 : Int))])]) (ob := [decide ((↑i : Int) < (↑L.length : Int)) = true, inK IntKind.i64 ((↑st : Int) + (↑i : Int)), (0 : Int) ≤ (↑st : Int) + (↑i : Int) ∧ (0 : Int) < (↑R : Int), inK IntKind.i64 ((2 : Int) + ((↑st : Int) + (↑i : Int)) % (↑R : Int)), I ((2 : Int) + ((↑st : Int) + (↑i : Int)) % (↑R : Int)) = I (↑(plc R st i) : Int), (0 : Int) ≤ (↑i : Int) ∧ (↑i : Int) < (↑L.length : Int), i < L.length, (0 : Int) ≤ (↑(plc R st i) : Int) ∧ (↑(plc R st i) : Int) < (↑X.length : Int), plc R st i < X.length, inK IntKind.i64 ((↑i : Int) + (1 : Int))]) rfl rfl (by kernel_rfl) ⟨(decide_eq_true h2), (by simp only [inK]; first | omega | exact congrArg (fun z => I z) ep), (by first | omega | exact congrArg (fun z => I z) ep), (by simp only [inK]; first | omega | exact congrArg (fun z => I z) ep), (by first | omega | exact congrArg (fun z => I z) ep), (by first | omega | exact congrArg (fun z => I z) ep), (by first | omega | exact congrArg (fun z => I z) ep), (by first | omega | exact congrArg (fun z => I z) ep), (by first | omega | exact congrArg (fun z => I z) ep), (by simp only [inK]; first | omega | exact congrArg (fun z => I z) ep), trivial⟩ rfl ⟨rfl, fun _ => rfl, rfl, fun _ => rfl, rfl, closed_set (fun _ => rfl) rfl, rfl, rfl, trivial⟩ ?_
      · exact Safe.leH (ih (i + 1) (by omega) (by omega)) rfl (SlLe.refl _) ⟨ObLe.refl _, ObLe.refl _, hset, ObLe.refl _, trivial⟩ rfl ⟨rfl, fun _ => rfl, rfl, fun _ => rfl, rfl, fun _ => rfl, rfl, rfl, trivial⟩
    · have hn2 : ¬ (i : Int) < (L.length : Int) := by omega
      obtain rfl : i = L.length := by omega
      have su := rsumP_any sq st L.length 0 L (by omega) (by omega) (by omega) hL (by omega)
      have sb := smW_bd sq st L.length L
      have hor := or3 sq st L.length (smW sq st L.length L) ⟨by omega, by omega, by omega, by omega⟩
      have bo1 := or64 sq ((st : Int) * 1048576)
      have bo2 := or64 (bitsV .or .u64 sq ((st : Int) * 1048576)) ((L.length : Int) * 68719476736)
      have bo3 := or64 (bitsV .or .u64 (bitsV .or .u64 sq ((st : Int) * 1048576)) ((L.length : Int) * 68719476736)) (smW sq st L.length L * 281474976710656)
      obtain ⟨sm, hsm⟩ : ∃ sm, smW sq st L.length L = sm := ⟨_, rfl⟩
      rw [hsm] at su sb hor bo3
      have hset : ObLe (.vec 22 1 X.length (setRow (rowG encU (toL X.length (ovA (lv X) (wsN L R st L.length)))) 1 [U (pk4 sq st L.length sm)])) (.vec 22 1 X.length (rowG encU (toL X.length (prV (lv X) L R st sq)))) := by
        have e : toL X.length (prV (lv X) L R st sq) = (toL X.length (ovA (lv X) (wsN L R st L.length))).set 1 (pk4 sq st L.length sm) := by
          rw [toL_set]
          unfold prV prW
          rw [hsm]
          rfl
        rw [e]
        exact ob_setN _ _ _ hlen.symm rfl
      rw [← hor] at hset
      refine Safe.gotoE mixed 9 [⟨1100, [(3, .tt false)]⟩, ⟨1200, [(16, .call [20] (.val (Value.int IntKind.u16 sm)) [])]⟩, ⟨1300, []⟩] [6, 7] [0, 21] (sl := slotsOf 117 [(6, .sl 21 0 1 X.length none), (7, I 0)]) (hp := [(0, .ro 1 X.length (rowG encU X)), (21, .vec 22 1 X.length (setRow (rowG encU (toL X.length (ovA (lv X) (wsN L R st L.length)))) 1 [U (bitsV BinOp.or IntKind.u64 (bitsV BinOp.or IntKind.u64 (bitsV BinOp.or IntKind.u64 sq ((↑st : Int) * (1048576 : Int))) ((↑L.length : Int) * (68719476736 : Int))) (sm * (281474976710656 : Int)))]))]) (ob := [decide ((↑L.length : Int) < (↑L.length : Int)) = false, inK IntKind.u64 sq, inK IntKind.u64 (↑st : Int), (0 : Int) ≤ (20 : Int) ∧ (20 : Int) ≤ (↑IntKind.u64.bits : Int), inK IntKind.u64 ((↑st : Int) * (1048576 : Int)), inK IntKind.u64 (bitsV BinOp.or IntKind.u64 sq ((↑st : Int) * (1048576 : Int))), inK IntKind.u64 (↑L.length : Int), (0 : Int) ≤ (36 : Int) ∧ (36 : Int) ≤ (↑IntKind.u64.bits : Int), inK IntKind.u64 ((↑L.length : Int) * (68719476736 : Int)), inK IntKind.u64 (bitsV BinOp.or IntKind.u64 (bitsV BinOp.or IntKind.u64 sq ((↑st : Int) * (1048576 : Int))) ((↑L.length : Int) * (68719476736 : Int))), CallOK Try.prog 110 ([] ++ [.agg [I sq, I ↑st, I ↑L.length, AV.val (Value.int IntKind.u16 (0 : Int))], .sl 20 0 1 L.length none] ++ []) [(20, .vec 22 1 L.length (rowG encU L))] (AV.val (Value.int IntKind.u16 sm)) [], inK IntKind.u64 sm, (0 : Int) ≤ (48 : Int) ∧ (48 : Int) ≤ (↑IntKind.u64.bits : Int), inK IntKind.u64 (sm * (281474976710656 : Int)), inK IntKind.u64 (bitsV BinOp.or IntKind.u64 (bitsV BinOp.or IntKind.u64 (bitsV BinOp.or IntKind.u64 sq ((↑st : Int) * (1048576 : Int))) ((↑L.length : Int) * (68719476736 : Int))) (sm * (281474976710656 : Int))), (0 : Int) ≤ (1 : Int) ∧ (1 : Int) < (↑X.length : Int), 1 < X.length]) rfl rfl (by kernel_rfl) ⟨(decide_eq_false hn2), (by simp only [inK]; omega), (by simp only [inK]; omega), (by first | decide | (simp only [Go.IntKind.bits]; omega)), (by simp only [inK]; omega), (by simp only [inK]; omega), (by simp only [inK]; omega), (by first | decide | (simp only [Go.IntKind.bits]; omega)), (by simp only [inK]; omega), (by simp only [inK]; omega), (CallOK.ren (CallOK.own 22 0 (es := 1) (n := L.length) (row := rowG encU L) rfl rfl rfl su) [(0, 20)] [0] rfl rfl rfl rfl ⟨rfl, fun _ => rfl, trivial⟩ rfl ⟨rfl, fun _ => rfl, trivial⟩), (by simp only [inK]; omega), (by first | decide | (simp only [Go.IntKind.bits]; omega)), (by simp only [inK]; omega), (by simp only [inK]; omega), (by omega), (by omega), trivial⟩ rfl ⟨rfl, fun _ => rfl, rfl, closed_set (fun _ => rfl) rfl, trivial⟩ fun td htd => ?_
      refine Safe.ren [(21, 10)] rfl rfl rfl rfl ⟨rfl, fun _ => rfl, rfl, closed_set (fun _ => rfl) rfl, trivial⟩ ?_
      refine Safe.endsT Try.func80 htd (r := .tup [.sl 10 0 1 X.length none, I 0]) (hp := [(0, .ro 1 X.length (fun q => renL [(21, 10)] (rowG encU X q))), (10, .vec 22 1 X.length (fun q => renL [(21, 10)] (setRow (rowG encU (toL X.length (ovA (lv X) (wsN L R st L.length)))) 1 [U (bitsV BinOp.or IntKind.u64 (bitsV BinOp.or IntKind.u64 (bitsV BinOp.or IntKind.u64 sq ((↑st : Int) * (1048576 : Int))) ((↑L.length : Int) * (68719476736 : Int))) (sm * (281474976710656 : Int)))] q)))]) (ob := []) rfl (by kernel_rfl) trivial rfl ⟨⟨rfl, rfl, fun _ _ => rfl⟩, ?_, trivial⟩ ⟨rfl, fun _ => rfl, rfl, fun _ => rfl, trivial⟩ rfl
      · obtain ⟨_, _, _, h4⟩ := hset
        refine ⟨rfl, rfl, rfl, fun q hq => Eq.trans ?_ (h4 q hq)⟩
        by_cases e : q = 1
        · subst e; rfl
        · simp only [setRow, if_neg e]; rfl
  · intro H
    exact H 0 (Nat.zero_le _)
theorem rprep_ok0 (X : List Int) (R : Nat) (sq : Int) (t : ByteArray) (hX : 4 ≤ X.length ∧ X.length ≤ 1000) (hR : R + 2 = X.length) (hw : Wf X) (hq : 1 ≤ sq ∧ sq ≤ 1048575) (ht : t.size ≤ 8192) (h0 : X.getD 0 default = 0) (hs : ln t.size ≤ R) : CallOK Try.prog 80 [.sl 0 0 1 X.length none, I sq, S t] [(0, .ro 1 X.length (rowG encU X))] (.tup [.sl 10 0 1 X.length none, I 0]) [(10, some (.vec 22 1 X.length (rowG encU (toL X.length (prV (lv X) (textW t) R 0 sq)))))] := by
  have h1 : ¬ (X.length : Int) < 4 := by omega
  have h2 : ¬ sq < 1 := by omega
  have h3 : ¬ sq > 1048575 := by omega
  have tx := rtext_ok t ht
  have rg := ring_any X.length hX.2
  rw [show (X.length : Int) - 2 = (R : Int) by omega] at rg
  have hl := textW_len t
  have hb := ln_bd t.size
  have hgt : ¬ ((textW t).length : Int) + 0 > (R : Int) := by omega
  have lp := rpl X (textW t) R 0 sq hX hR hw (wfT t ht) (by omega) hq (by omega)
  have ez : ((0 : Int) + 0) % (R : Int) = ((0 : Nat) : Int) := by simp
  rw [rpO, show ovA (lv X) (wsN (textW t) R 0 0) = lv X from rfl, toL_lv] at lp
  generalize toL X.length (prV (lv X) (textW t) R 0 sq) = Y at *
  refine CallOK.intro Try.call80 Try.func80 rfl rfl ⟨rfl, fun _ => rfl, trivial⟩ ?_
  refine Safe.goto mixed 42 [⟨1100, []⟩, ⟨1200, [(2, .tt false)]⟩, ⟨1300, [(1, .tt false), (4, .tt false)]⟩, ⟨1400, [(1, .call [] (.tup [.sl 1455 0 1 ((textW t).length) none, I 0]) [(1455, some (.vec 22 1 ((textW t).length) (fun q => renL [(10, 1455)] (rowG encU (textW t) q))))])]⟩, ⟨1500, []⟩, ⟨1600, []⟩, ⟨1700, [(3, .tt false)]⟩, ⟨1800, [(2, .call [] (I ↑R) [])]⟩, ⟨1900, [(6, .tt false)]⟩, ⟨2000, []⟩, ⟨2100, []⟩, ⟨2200, []⟩] [8, 13, 14, 15, 16] [0, 1455, 2001, 2111] (todo' := loopAt Try.f80 0) (sl := slotsOf 117 [(8, .sl 1455 0 1 ((textW t).length) none), (13, I ↑R), (14, .sl 2001 0 1 X.length none), (15, .ptr 2111 0 0 0), (16, I 0)]) (hp := [(0, .ro 1 X.length (rowG encU X)), (1455, .vec 22 1 ((textW t).length) (fun q => renL [(10, 1455)] (rowG encU (textW t) q))), (2001, .vec 22 1 X.length (rowG encU X)), (2111, .blk 143 [I sq, I (((0 : Int) + (0 : Int)) % (↑R : Int)), I ((↑(textW t).length : Int)), .val (Value.int IntKind.u16 (0 : Int))])]) (ob := [decide ((↑X.length : Int) < (4 : Int)) = false, decide (sq < (1 : Int)) = false, decide (sq > (1048575 : Int)) = false, CallOK Try.prog 108 ([] ++ [AV.val (Value.string t)] ++ []) [] (.tup [.sl 1455 0 1 (textW t).length none, I 0]) [(1455, some (.vec 22 1 (textW t).length fun q => renL [(10, 1455)] (rowG encU (textW t) q)))], (0 : Int) ≤ (0 : Int) ∧ (0 : Int) < (↑X.length : Int), 0 < X.length, (decide ¬X.getD 0 default = (0 : Int)) = false, CallOK Try.prog 109 ([] ++ [I ↑X.length] ++ []) [] (I ↑R) [], inK IntKind.i64 ((↑(textW t).length : Int) + (0 : Int)), decide ((↑(textW t).length : Int) + (0 : Int) > (↑R : Int)) = false, 0 + X.length ≤ X.length, X.length ≤ 1099511627776, inK IntKind.i64 ((0 : Int) + (0 : Int)), (0 : Int) ≤ (0 : Int) + (0 : Int) ∧ (0 : Int) < (↑R : Int)]) rfl rfl (by kernel_rfl) ⟨(decide_eq_false h1), (decide_eq_false h2), (decide_eq_false h3), (CallOK.ren tx [(10, 1455)] [10] rfl rfl rfl rfl trivial rfl ⟨rfl, fun _ => rfl, trivial⟩), (by omega), (by omega), (decide_eq_false (fun hn => hn h0)), rg, (by simp only [inK]; omega), (decide_eq_false hgt), (by omega), (by omega), (by simp only [inK]; omega), (by omega), trivial⟩ rfl ⟨rfl, fun _ => rfl, rfl, closed_renN (fun _ => rfl), rfl, fun _ => rfl, rfl, rfl, trivial⟩ ?_
  refine Safe.ren [(1455, 20), (2001, 21), (2111, 22)] rfl rfl rfl rfl ⟨rfl, fun _ => rfl, rfl, closed_renN (fun _ => rfl), rfl, fun _ => rfl, rfl, rfl, trivial⟩ ?_
  · rw [ez]
    exact Safe.leH lp rfl (SlLe.refl _) ⟨ObLe.refl _, ⟨rfl, rfl, rfl, fun _ _ => rfl⟩, ObLe.refl _, ObLe.refl _, trivial⟩ rfl ⟨rfl, fun _ => rfl, rfl, fun _ => rfl, rfl, fun _ => rfl, rfl, rfl, trivial⟩
theorem rprep_ok1 (X : List Int) (R : Nat) (sq : Int) (t t0 : ByteArray) (hX : 4 ≤ X.length ∧ X.length ≤ 1000) (hR : R + 2 = X.length) (hw : Wf X) (hq : 1 ≤ sq ∧ sq ≤ 1048575) (ht : t.size ≤ 8192) (h0 : ¬ X.getD 0 default = 0) (h : Wh (lv X) R (X.getD 0 default) t0) (hs : ln t.size + n2 (X.getD 0 default) ≤ R) : CallOK Try.prog 80 [.sl 0 0 1 X.length none, I sq, S t] [(0, .ro 1 X.length (rowG encU X))] (.tup [.sl 10 0 1 X.length none, I 0]) [(10, some (.vec 22 1 X.length (rowG encU (toL X.length (prV (lv X) (textW t) R ((n1 (X.getD 0 default) + n2 (X.getD 0 default)) % R) sq)))))] := by
  have h1 : ¬ (X.length : Int) < 4 := by omega
  have h2 : ¬ sq < 1 := by omega
  have h3 : ¬ sq > 1048575 := by omega
  have tx := rtext_ok t ht
  have rg := ring_any X.length hX.2
  rw [show (X.length : Int) - 2 = (R : Int) by omega] at rg
  have wh := rwhole_yes X R _ hX.2 hR hw (hw.at 0) t0 h
  have sp := splitN _ (hw.at 0)
  have bd := n_eq (X.getD 0 default)
  have hl := textW_len t
  have hb := ln_bd t.size
  have hgt : ¬ ((textW t).length : Int) + (n2 (X.getD 0 default) : Int) > (R : Int) := by omega
  have hst : (n1 (X.getD 0 default) + n2 (X.getD 0 default)) % R < R := Nat.mod_lt _ (by omega)
  have lp := rpl X (textW t) R ((n1 (X.getD 0 default) + n2 (X.getD 0 default)) % R) sq hX hR hw (wfT t ht) (by omega) hq hst
  have ez : ((n1 (X.getD 0 default) : Int) + (n2 (X.getD 0 default) : Int)) % (R : Int) = (((n1 (X.getD 0 default) + n2 (X.getD 0 default)) % R : Nat) : Int) := by push_cast; rfl
  rw [rpO, show ovA (lv X) (wsN (textW t) R ((n1 (X.getD 0 default) + n2 (X.getD 0 default)) % R) 0) = lv X from rfl, toL_lv] at lp
  generalize toL X.length (prV (lv X) (textW t) R ((n1 (X.getD 0 default) + n2 (X.getD 0 default)) % R) sq) = Y at *
  have bm := Int.emod_nonneg ((n1 (X.getD 0 default) : Int) + (n2 (X.getD 0 default) : Int)) (show (R : Int) ≠ 0 by omega)
  clear hw h hst
  refine CallOK.intro Try.call80 Try.func80 rfl rfl ⟨rfl, fun _ => rfl, trivial⟩ ?_
  refine Safe.goto mixed 49 [⟨1100, []⟩, ⟨1200, [(2, .tt false)]⟩, ⟨1300, [(1, .tt false), (4, .tt false)]⟩, ⟨1400, [(1, .call [] (.tup [.sl 1455 0 1 ((textW t).length) none, I 0]) [(1455, some (.vec 22 1 ((textW t).length) (fun q => renL [(10, 1455)] (rowG encU (textW t) q))))])]⟩, ⟨1500, []⟩, ⟨1600, []⟩, ⟨1700, [(3, .tt true)]⟩, ⟨1800, [(4, .call [0] (.tup [S t0, B true]) [])]⟩, ⟨1900, []⟩, ⟨2000, [(3, .call [] (.agg [I ((↑(n0 (X.getD 0 default)) : Int)), I ((↑(n1 (X.getD 0 default)) : Int)), I ((↑(n2 (X.getD 0 default)) : Int)), .val (Value.int IntKind.u16 (↑(n3 (X.getD 0 default)) : Int))]) [])]⟩, ⟨2100, [(2, .call [] (I ↑R) [])]⟩, ⟨2200, [(6, .tt false)]⟩, ⟨2300, []⟩, ⟨2400, []⟩, ⟨2500, []⟩] [8, 13, 14, 15, 16] [0, 1455, 2301, 2411] (todo' := loopAt Try.f80 0) (sl := slotsOf 117 [(8, .sl 1455 0 1 ((textW t).length) none), (13, I ↑R), (14, .sl 2301 0 1 X.length none), (15, .ptr 2411 0 0 0), (16, I 0)]) (hp := [(0, .ro 1 X.length (rowG encU X)), (1455, .vec 22 1 ((textW t).length) (fun q => renL [(10, 1455)] (rowG encU (textW t) q))), (2301, .vec 22 1 X.length (rowG encU X)), (2411, .blk 143 [I sq, I (((↑(n1 (X.getD 0 default)) : Int) + (↑(n2 (X.getD 0 default)) : Int)) % (↑R : Int)), I ((↑(textW t).length : Int)), .val (Value.int IntKind.u16 (0 : Int))])]) (ob := [decide ((↑X.length : Int) < (4 : Int)) = false, decide (sq < (1 : Int)) = false, decide (sq > (1048575 : Int)) = false, CallOK Try.prog 108 ([] ++ [AV.val (Value.string t)] ++ []) [] (.tup [.sl 1455 0 1 (textW t).length none, I 0]) [(1455, some (.vec 22 1 (textW t).length fun q => renL [(10, 1455)] (rowG encU (textW t) q)))], (0 : Int) ≤ (0 : Int) ∧ (0 : Int) < (↑X.length : Int), 0 < X.length, (decide ¬X.getD 0 default = (0 : Int)) = true, (0 : Int) ≤ (0 : Int) ∧ (0 : Int) < (↑X.length : Int), 0 < X.length, CallOK Try.prog 84 ([] ++ [.sl 0 0 1 X.length none, U (X.getD 0 default)] ++ []) [(0, .ro 1 X.length (rowG encU X))] (.tup [AV.val (Value.string t0), B true]) [], (0 : Int) ≤ (0 : Int) ∧ (0 : Int) < (↑X.length : Int), 0 < X.length, CallOK Try.prog 83 ([] ++ [U (X.getD 0 default)] ++ []) [] (.agg [I (↑(n0 (X.getD 0 default)) : Int), I (↑(n1 (X.getD 0 default)) : Int), I (↑(n2 (X.getD 0 default)) : Int), AV.val (Value.int IntKind.u16 (↑(n3 (X.getD 0 default)) : Int))]) [], CallOK Try.prog 109 ([] ++ [I ↑X.length] ++ []) [] (I ↑R) [], inK IntKind.i64 ((↑(textW t).length : Int) + (↑(n2 (X.getD 0 default)) : Int)), decide ((↑(textW t).length : Int) + (↑(n2 (X.getD 0 default)) : Int) > (↑R : Int)) = false, 0 + X.length ≤ X.length, X.length ≤ 1099511627776, inK IntKind.i64 ((↑(n1 (X.getD 0 default)) : Int) + (↑(n2 (X.getD 0 default)) : Int)), (0 : Int) ≤ (↑(n1 (X.getD 0 default)) : Int) + (↑(n2 (X.getD 0 default)) : Int) ∧ (0 : Int) < (↑R : Int)]) rfl rfl (by kernel_rfl) ⟨(decide_eq_false h1), (decide_eq_false h2), (decide_eq_false h3), (CallOK.ren tx [(10, 1455)] [10] rfl rfl rfl rfl trivial rfl ⟨rfl, fun _ => rfl, trivial⟩), (by omega), (by omega), (decide_eq_true h0), (by omega), (by omega), wh, (by omega), (by omega), sp, rg, (by simp only [inK]; omega), (decide_eq_false hgt), (by omega), (by omega), (by simp only [inK]; omega), (by omega), trivial⟩ rfl ⟨rfl, fun _ => rfl, rfl, closed_renN (fun _ => rfl), rfl, fun _ => rfl, rfl, rfl, trivial⟩ ?_
  refine Safe.ren [(1455, 20), (2301, 21), (2411, 22)] rfl rfl rfl rfl ⟨rfl, fun _ => rfl, rfl, closed_renN (fun _ => rfl), rfl, fun _ => rfl, rfl, rfl, trivial⟩ ?_
  · rw [ez]
    exact Safe.leH lp rfl (SlLe.refl _) ⟨ObLe.refl _, ⟨rfl, rfl, rfl, fun _ _ => rfl⟩, ObLe.refl _, ObLe.refl _, trivial⟩ rfl ⟨rfl, fun _ => rfl, rfl, fun _ => rfl, rfl, fun _ => rfl, rfl, rfl, trivial⟩
end Go.Proofs.Ytbgbjgedjmhcaaa
namespace Go.Proofs.Ytbgbjgedjmhcaaa
open Go.RowKit
def rawV (z : List Int) (m p : Nat) : Int := if p < m then z.getD p default else 0
def rawA (m p : Nat) : Nat := if p < m then p + 1 else p
def nV (z : List Int) (m p : Nat) (n : Int) : Int := if n < 1 then 0 else rawV z m p % n
def nA (m p : Nat) (n : Int) : Nat := if n < 1 then p else rawA m p
theorem tmod_facts (x n : Int) (h : 0 < n) : -n < x.tmod n ∧ x.tmod n < n ∧ (x.tmod n < 0 → x.tmod n + n = x % n) ∧ (0 ≤ x.tmod n → x.tmod n = x % n) := by
  have h1 := Int.emod_nonneg x (show n ≠ 0 by omega)
  have h2 := Int.emod_lt_of_pos x h
  rw [Int.tmod_eq_emod]
  split
  · omega
  · rename_i hh
    have h3 : x % n ≠ 0 := fun e => hh (.inr (Int.dvd_of_emod_eq_zero e))
    omega
theorem raw1_any (z : List Int) (m p : Nat) (hm : m ≤ 1000) (hz : m ≤ z.length) (hp : p ≤ m) : CallOK Try.prog 81 [.ptr 0 0 0 0] [(0, .blk 139 [.sl 1 0 1 m none, I p]), (1, .ro 1 z.length (rowG encI z))] (I (rawV z m p)) [(0, some (.blk 139 [.sl 1 0 1 m none, I (rawA m p)]))] := by
  refine CallOK.intro Try.call81 Try.func81 rfl rfl ⟨rfl, rfl, rfl, fun _ => rfl, trivial⟩ ?_
  refine (Classical.em ((↑p : Int) ≥ (↑m : Int))).elim (fun hc1 => ?ga0) (fun hc1 => ?gb0)
  case' gb0 =>
    refine Safe.ends mixed Try.func81 11 [⟨1100, []⟩, ⟨1200, [(9, .tt false)]⟩, ⟨1300, []⟩, ⟨1400, []⟩] (r := I (z.getD ((↑p : Int) + (1 : Int) - (1 : Int)).toNat default)) (hp := [(0, .blk 139 [.sl 1 0 1 m none, I ((↑p : Int) + (1 : Int))]), (1, .ro 1 z.length (rowG encI z))]) (ob := [decide ((↑p : Int) ≥ (↑m : Int)) = false, inK IntKind.i64 ((↑p : Int) + (1 : Int)), inK IntKind.i64 ((↑p : Int) + (1 : Int) - (1 : Int)), (0 : Int) ≤ (↑p : Int) + (1 : Int) - (1 : Int) ∧ (↑p : Int) + (1 : Int) - (1 : Int) < (↑m : Int), ((↑p : Int) + (1 : Int) - (1 : Int)).toNat < z.length]) rfl (by kernel_rfl) ⟨(decide_eq_false hc1), (by simp only [inK]; omega), (by simp only [inK]; omega), (by omega), (by omega), trivial⟩ ?_ ⟨?_, ObLe.refl _, trivial⟩ ⟨rfl, rfl, rfl, fun _ => rfl, trivial⟩ rfl
  case' ga0 =>
    refine Safe.ends mixed Try.func81 8 [⟨1100, []⟩, ⟨1200, [(9, .tt true)]⟩, ⟨1300, []⟩] (r := I 0) (hp := [(0, .blk 139 [.sl 1 0 1 m none, I ↑p]), (1, .ro 1 z.length (rowG encI z))]) (ob := [decide ((↑p : Int) ≥ (↑m : Int)) = true]) rfl (by kernel_rfl) ⟨(decide_eq_true hc1), trivial⟩ ?_ ⟨?_, ObLe.refl _, trivial⟩ ⟨rfl, rfl, rfl, fun _ => rfl, trivial⟩ rfl
  · show I _ = I _
    rw [rawV, if_neg (by omega)]
  · rw [rawA, if_neg (by omega)]; exact ObLe.refl _
  · show I _ = I _
    rw [rawV, if_pos (by omega), show ((p : Int) + 1 - 1).toNat = p by omega]
  · rw [rawA, if_pos (by omega)]; exact ObLe.refl _
theorem n_any (z : List Int) (m p : Nat) (n : Int) (hm : m ≤ 1000) (hz : m ≤ z.length) (hp : p ≤ m) (hn : n ≤ 2000000) : CallOK Try.prog 46 [.ptr 0 0 0 0, I n] [(0, .blk 139 [.sl 1 0 1 m none, I p]), (1, .ro 1 z.length (rowG encI z))] (I (nV z m p n)) [(0, some (.blk 139 [.sl 1 0 1 m none, I (nA m p n)]))] := by
  refine CallOK.intro Try.call46 Try.func46 rfl rfl ⟨rfl, rfl, rfl, fun _ => rfl, trivial⟩ ?_
  have h1 : ¬ n < 1 → _ := fun h => tmod_facts (rawV z m p) n (by omega)
  have h2 : ¬ n < 1 → nV z m p n = rawV z m p % n ∧ nA m p n = rawA m p := fun h => ⟨if_neg h, if_neg h⟩
  have h3 : n < 1 → nV z m p n = 0 ∧ nA m p n = p := fun h => ⟨if_pos h, if_pos h⟩
  refine (Classical.em (n < (1 : Int))).elim (fun hc1 => ?ga1) (fun hc1 => ?gb1)
  case' gb1 =>
    refine (Classical.em ((rawV z m p).tmod n < (0 : Int))).elim (fun hc2 => ?ga2) (fun hc2 => ?gb2)
    case' gb2 =>
      refine Safe.ends mixed Try.func46 16 [⟨1100, []⟩, ⟨1200, [(1, .tt false)]⟩, ⟨1300, [(1, .call [0, 1] (I (rawV z m p)) [(0, some (.blk 139 [.sl 1 0 1 m none, I ((↑(rawA m p) : Int))]))]), (3, .wrap)]⟩, ⟨1400, [(1, .tt false)]⟩, ⟨1500, []⟩] (r := I ((rawV z m p).tmod n)) (hp := [(0, .blk 139 [.sl 1 0 1 m none, I ((↑(rawA m p) : Int))]), (1, .ro 1 z.length (rowG encI z))]) (ob := [decide (n < (1 : Int)) = false, CallOK Try.prog 81 ([] ++ [.ptr 0 0 0 0] ++ []) [(0, .blk 139 [.sl 1 0 1 m none, I ↑p]), (1, .ro 1 z.length (rowG encI z))] (I (rawV z m p)) [(0, some (.blk 139 [.sl 1 0 1 m none, I (↑(rawA m p) : Int)]))], n ≠ (0 : Int), decide ((rawV z m p).tmod n < (0 : Int)) = false]) rfl (by kernel_rfl) ⟨(decide_eq_false hc1), (raw1_any z m p (by omega) (by omega) (by omega)), (by omega), (decide_eq_false hc2), trivial⟩ ?_ ⟨?_, ObLe.refl _, trivial⟩ ⟨rfl, rfl, rfl, fun _ => rfl, trivial⟩ rfl
    case' ga2 =>
      refine Safe.ends mixed Try.func46 16 [⟨1100, []⟩, ⟨1200, [(1, .tt false)]⟩, ⟨1300, [(1, .call [0, 1] (I (rawV z m p)) [(0, some (.blk 139 [.sl 1 0 1 m none, I ((↑(rawA m p) : Int))]))]), (3, .wrap)]⟩, ⟨1400, [(1, .tt true)]⟩, ⟨1500, []⟩, ⟨1600, []⟩] (r := I ((rawV z m p).tmod n + n)) (hp := [(0, .blk 139 [.sl 1 0 1 m none, I ((↑(rawA m p) : Int))]), (1, .ro 1 z.length (rowG encI z))]) (ob := [decide (n < (1 : Int)) = false, CallOK Try.prog 81 ([] ++ [.ptr 0 0 0 0] ++ []) [(0, .blk 139 [.sl 1 0 1 m none, I ↑p]), (1, .ro 1 z.length (rowG encI z))] (I (rawV z m p)) [(0, some (.blk 139 [.sl 1 0 1 m none, I (↑(rawA m p) : Int)]))], n ≠ (0 : Int), decide ((rawV z m p).tmod n < (0 : Int)) = true, inK IntKind.i64 ((rawV z m p).tmod n + n)]) rfl (by kernel_rfl) ⟨(decide_eq_false hc1), (raw1_any z m p (by omega) (by omega) (by omega)), (by omega), (decide_eq_true hc2), (by simp only [inK]; omega), trivial⟩ ?_ ⟨?_, ObLe.refl _, trivial⟩ ⟨rfl, rfl, rfl, fun _ => rfl, trivial⟩ rfl
  case' ga1 =>
    refine Safe.ends mixed Try.func46 8 [⟨1100, []⟩, ⟨1200, [(1, .tt true)]⟩, ⟨1300, []⟩] (r := I 0) (hp := [(0, .blk 139 [.sl 1 0 1 m none, I ↑p]), (1, .ro 1 z.length (rowG encI z))]) (ob := [decide (n < (1 : Int)) = true]) rfl (by kernel_rfl) ⟨(decide_eq_true hc1), trivial⟩ ?_ ⟨?_, ObLe.refl _, trivial⟩ ⟨rfl, rfl, rfl, fun _ => rfl, trivial⟩ rfl
  · rw [(h3 hc1).1]; rfl
  · rw [(h3 hc1).2]; exact ObLe.refl _
  · rw [(h2 hc1).1, ← (h1 hc1).2.2.1 hc2]; rfl
  · rw [(h2 hc1).2]; exact ObLe.refl _
  · rw [(h2 hc1).1, ← (h1 hc1).2.2.2 (by omega)]; rfl
  · rw [(h2 hc1).2]; exact ObLe.refl _
theorem nV_bd (z : List Int) (m p : Nat) (n : Int) (h : 1 ≤ n) : 0 ≤ nV z m p n ∧ nV z m p n < n := by
  rw [nV, if_neg (by omega)]
  exact ⟨Int.emod_nonneg _ (by omega), Int.emod_lt_of_pos _ (by omega)⟩
theorem nA_bd (m p : Nat) (n : Int) (h : p ≤ m) : p ≤ nA m p n ∧ nA m p n ≤ m := by
  unfold nA rawA
  split
  · omega
  · split <;> omega
theorem range_any (z : List Int) (m p : Nat) (lo hi : Int) (hm : m ≤ 1000) (hz : m ≤ z.length) (hp : p ≤ m) (hl : -1000 ≤ lo ∧ lo ≤ 100000) (hh : lo ≤ hi ∧ hi ≤ 100000) : CallOK Try.prog 44 [.ptr 0 0 0 0, I lo, I hi] [(0, .blk 139 [.sl 1 0 1 m none, I p]), (1, .ro 1 z.length (rowG encI z))] (I (lo + nV z m p (hi - lo + 1))) [(0, some (.blk 139 [.sl 1 0 1 m none, I (nA m p (hi - lo + 1))]))] := by
  refine CallOK.intro Try.call44 Try.func44 rfl rfl ⟨rfl, rfl, rfl, fun _ => rfl, trivial⟩ ?_
  have h1 := nV_bd z m p (hi - lo + 1) (by omega)
  refine Safe.ends mixed Try.func44 4 [⟨1100, []⟩, ⟨1200, [(6, .call [0, 1] (I (nV z m p (hi - lo + (1 : Int)))) [(0, some (.blk 139 [.sl 1 0 1 m none, I ((↑(nA m p (hi - lo + (1 : Int))) : Int))]))])]⟩] (r := I (lo + nV z m p (hi - lo + (1 : Int)))) (hp := [(0, .blk 139 [.sl 1 0 1 m none, I ((↑(nA m p (hi - lo + (1 : Int))) : Int))]), (1, .ro 1 z.length (rowG encI z))]) (ob := [inK IntKind.i64 (hi - lo), inK IntKind.i64 (hi - lo + (1 : Int)), CallOK Try.prog 46 ([] ++ [.ptr 0 0 0 0, I (hi - lo + (1 : Int))] ++ []) [(0, .blk 139 [.sl 1 0 1 m none, I ↑p]), (1, .ro 1 z.length (rowG encI z))] (I (nV z m p (hi - lo + (1 : Int)))) [(0, some (.blk 139 [.sl 1 0 1 m none, I (↑(nA m p (hi - lo + (1 : Int))) : Int)]))], inK IntKind.i64 (lo + nV z m p (hi - lo + (1 : Int)))]) rfl (by kernel_rfl) ⟨(by simp only [inK]; omega), (by simp only [inK]; omega), (n_any z m p (hi - lo + (1 : Int)) (by omega) (by omega) (by omega) (by omega)), (by simp only [inK]; omega), trivial⟩ rfl ⟨ObLe.refl _, ObLe.refl _, trivial⟩ ⟨rfl, rfl, rfl, fun _ => rfl, trivial⟩ rfl
theorem new_any (z : List Int) (hz : z.length ≤ 9223372036854775807) : CallOK Try.prog 42 [.sl 1 0 1 z.length none] [(1, .ro 1 z.length (rowG encI z))] (.ptr 10 0 0 0) [(10, some (.blk 139 [.sl 1 0 1 (min 1000 z.length) none, I 0]))] := by
  refine CallOK.intro Try.call42 Try.func42 rfl rfl ⟨rfl, fun _ => rfl, trivial⟩ ?_
  refine (Classical.em ((↑z.length : Int) > (1000 : Int))).elim (fun hc1 => ?ga3) (fun hc1 => ?gb3)
  case' gb3 =>
    refine Safe.gotoE mixed 9 [⟨1100, []⟩, ⟨1200, [(2, .tt false)]⟩, ⟨1300, []⟩] [2] [1, 1302] (sl := slotsOf 11 [(2, .ptr 1302 0 0 0)]) (hp := [(1, .ro 1 z.length (rowG encI z)), (1302, .blk 139 [.sl 1 0 1 z.length none, I 0])]) (ob := [decide ((↑z.length : Int) > (1000 : Int)) = false]) rfl rfl (by kernel_rfl) ⟨(decide_eq_false hc1), trivial⟩ rfl ⟨rfl, fun _ => rfl, rfl, rfl, trivial⟩ fun td htd => ?_
    refine Safe.ren [(1302, 10)] rfl rfl rfl rfl ⟨rfl, fun _ => rfl, rfl, rfl, trivial⟩ ?_
    refine Safe.endsT Try.func42 htd (r := .ptr 10 0 0 0) (hp := [(1, .ro 1 z.length (fun q => renL [(1302, 10)] (rowG encI z q))), (10, .blk 139 [.sl 1 0 1 z.length none, I 0])]) (ob := []) rfl (by kernel_rfl) trivial rfl ⟨⟨rfl, rfl, fun _ _ => rfl⟩, ?_, trivial⟩ ⟨rfl, fun _ => rfl, rfl, rfl, trivial⟩ rfl
  case' ga3 =>
    refine Safe.gotoE mixed 9 [⟨1100, []⟩, ⟨1200, [(2, .tt true)]⟩, ⟨1300, []⟩, ⟨1400, []⟩] [2] [1, 1402] (sl := slotsOf 11 [(2, .ptr 1402 0 0 0)]) (hp := [(1, .ro 1 z.length (rowG encI z)), (1402, .blk 139 [.sl 1 0 1 1000 none, I 0])]) (ob := [decide ((↑z.length : Int) > (1000 : Int)) = true, (0 : Int) ≤ (1000 : Int) ∧ (1000 : Int) ≤ (↑z.length : Int)]) rfl rfl (by kernel_rfl) ⟨(decide_eq_true hc1), (by omega), trivial⟩ rfl ⟨rfl, fun _ => rfl, rfl, rfl, trivial⟩ fun td htd => ?_
    refine Safe.ren [(1402, 10)] rfl rfl rfl rfl ⟨rfl, fun _ => rfl, rfl, rfl, trivial⟩ ?_
    refine Safe.endsT Try.func42 htd (r := .ptr 10 0 0 0) (hp := [(1, .ro 1 z.length (fun q => renL [(1402, 10)] (rowG encI z q))), (10, .blk 139 [.sl 1 0 1 1000 none, I 0])]) (ob := []) rfl (by kernel_rfl) trivial rfl ⟨⟨rfl, rfl, fun _ _ => rfl⟩, ?_, trivial⟩ ⟨rfl, fun _ => rfl, rfl, rfl, trivial⟩ rfl
  · rw [show min 1000 z.length = 1000 by omega]; exact ObLe.refl _
  · rw [show min 1000 z.length = z.length by omega]; exact ObLe.refl _
end Go.Proofs.Ytbgbjgedjmhcaaa
namespace Go.Proofs.Ytbgbjgedjmhcaaa
open Go.RowKit
open OldD (Dk chk3 chk4 rdV wrE wrK flK reK)
abbrev spn10 (N : Nat) : AV := .ifc 170 (.agg [.ptr 10 0 0 0, I 0, I 0, I N])
theorem areaz (n : Nat) (hn : 1 ≤ n ∧ n ≤ 1000) : CallOK Try.prog 48 [.sl 1 0 1 n none] [(1, .vec 22 1 n (fun _ => List.map AV.val (Value.cells (.int .u64 0)).toList))] (.tup [.ptr 10 0 0 0, spn10 n]) [(10, some (.box (dbox 0 (dkN [List.replicate n 0]))))] := by
  have ld := ldz n hn
  have q0 := dk1_q (List.replicate n 0)
  rw [List.length_replicate] at q0
  generalize dkN [List.replicate n 0] = k0 at ld q0 ⊢
  have sp := spans1 0 k0 n q0.g hn
  clear q0
  refine CallOK.intro Try.call48 Try.func48 rfl rfl ⟨rfl, fun _ => rfl, trivial⟩ ?_
  refine Safe.gotoE mixed 18 [⟨1100, []⟩, ⟨1200, [(2, .call [1201, 1] (.ptr 1260 0 0 0) [(1260, some (.box (dbox 0 k0)))])]⟩, ⟨1300, []⟩, ⟨1400, [(1, .call [1260] (.sl 1455 0 1 1 none) [(1260, some (.box (dbox 0 k0))), (1455, some (.vec 43 1 1 (rowsOf [.ifc 170 (.agg [.ptr 1260 0 0 0, I 0, I 0, I ↑n])] 1)))])]⟩, ⟨1500, []⟩, ⟨1600, []⟩] [2, 3] [1, 1260] (sl := slotsOf 20 [(2, .ptr 1260 0 0 0), (3, .ifc 170 (.agg [.ptr 1260 0 0 0, I 0, I 0, I ↑n]))]) (hp := [(1, .vec 22 1 n (fun x => List.map AV.val (Value.int IntKind.u64 (0 : Int)).cells.toList)), (1260, .box (dbox 0 k0))]) (ob := [CallOK Try.prog 21 ([] ++ [.sl 1201 0 1 1 none] ++ []) [(1201, .vec 25 1 1 (rowsOf [.sl 1 0 1 n none] 1)), (1, .vec 22 1 n fun x => List.map AV.val (Value.int IntKind.u64 (0 : Int)).cells.toList)] (.ptr 1260 0 0 0) [(1260, some (.box (dbox 0 k0)))], CallOK Try.prog 22 ([] ++ [.ptr 1260 0 0 0] ++ []) [(1260, .box (dbox 0 k0))] (.sl 1455 0 1 1 none) [(1260, some (.box (dbox 0 k0))), (1455, some (.vec 43 1 1 (rowsOf [.ifc 170 (.agg [.ptr 1260 0 0 0, I 0, I 0, I ↑n])] 1)))], (0 : Int) ≤ (0 : Int) ∧ (0 : Int) < (↑(1 : Nat) : Int), 0 < 1]) rfl rfl (by kernel_rfl) ⟨(CallOK.simR (CallOK.ren (CallOK.own 25 1 (es := 1) (n := 1) (row := rowsOf [.sl 2 0 1 n none] 1) rfl rfl rfl ld) [(1, 1201), (2, 1), (10, 1260)] [1, 2, 10] rfl rfl rfl rfl ⟨rfl, closed_rows rfl, rfl, fun _ => rfl, trivial⟩ rfl ⟨rfl, closed_rows rfl, rfl, fun _ => rfl, rfl, trivial, trivial⟩) (HpSim.cons rfl (OSim.rowsV rfl) (HpSim.cons rfl (OSim.refl _) HpSim.nil))), (CallOK.simO (CallOK.ren sp [(0, 1260), (10, 1455)] [0, 10] rfl rfl rfl rfl ⟨rfl, trivial, trivial⟩ rfl ⟨rfl, trivial, rfl, closed_rows rfl, trivial⟩) (OutSim.cons (OSim.refl _) (OutSim.cons (OSim.rowsV rfl) OutSim.nil))), (by omega), (by omega), trivial⟩ rfl ⟨rfl, fun _ => rfl, rfl, trivial, trivial⟩ fun td htd => ?_
  refine Safe.ren [(1260, 10)] rfl rfl rfl rfl ⟨rfl, fun _ => rfl, rfl, trivial, trivial⟩ ?_
  refine Safe.endsT Try.func48 htd (r := .tup [.ptr 10 0 0 0, .ifc 170 (.agg [.ptr 10 0 0 0, I 0, I 0, I ↑n])]) (hp := [(1, .vec 22 1 n (fun q => renL [(1260, 10)] (List.map AV.val (Value.int IntKind.u64 (0 : Int)).cells.toList))), (10, .box (dbox 0 k0))]) (ob := []) rfl (by kernel_rfl) trivial rfl ⟨⟨rfl, rfl, rfl, fun _ _ => rfl⟩, ObLe.refl _, trivial⟩ ⟨rfl, fun _ => rfl, rfl, trivial, trivial⟩ rfl
theorem q_zero (n : Nat) : Q1 (dkN [List.replicate n 0]) n 0 (fun _ => 0) (fun _ => 0) 0 (fun _ => False) := by
  have q0 := dk1_q (List.replicate n 0)
  rw [List.length_replicate] at q0
  have e : ∀ t, (List.replicate n (0 : Int)).getD t default = 0 := fun t => by
    rw [List.getD_eq_getElem?_getD, List.getElem?_replicate]
    split <;> rfl
  exact ⟨q0.g, q0.dn, q0.fu, fun t ht => (q0.nv t ht).trans (e t), fun t ht => (q0.dv t ht).trans (e t), q0.ft⟩
theorem vw_zero (N : Nat) : Vw (fun _ => 0) N := fun t _ => ⟨by show (0 : Int) ≤ 0; decide, by show (0 : Int) ≤ 18446744073709551615; decide⟩
theorem prep_q0 (m : Nat) {k : Dk} {N R c : Nat} {v : Nat → Int} (q : Q1 k N c v v 0 (fun _ => False)) (hc : c ≤ 60000) (hN : 4 ≤ N ∧ N ≤ 1000) (hR : R + 2 = N) (vw : Vw v N) {o : Option (Int × ByteArray)} (h : At v R 0 o) (sq : Int) (hq : 1 ≤ sq ∧ sq ≤ 1048575) (t : ByteArray) (ht : t.size ≤ 8192) (hs : lnR o + ln t.size ≤ R) :
    ∃ (k' : Dk) (v' : Nat → Int), CallOK Try.prog 53 [spn N, I sq, S t] [(0, .box (dbox m k))] (I 0) [(0, some (.box (dbox m k')))] ∧ Q1 k' N (c + 1001) v' v' 0 (fun _ => False) ∧ Vw v' N ∧ At v' R 0 o ∧ At v' R 1 (some (sq, t)) := by
  obtain ⟨k', e, ct, h⟩ := prep_q m q hc hN hR vw h sq hq t ht hs
  rcases h with ⟨rfl, v', f', q', vw', h0, h1, hf⟩ | ⟨hf, _⟩
  · rw [hf rfl] at q'
    exact ⟨k', v', ct, q', vw', h0, h1⟩
  · exact absurd rfl hf
theorem switch_q0 (m : Nat) {k : Dk} {N R c : Nat} {v : Nat → Int} (q : Q1 k N c v v 0 (fun _ => False)) (hc : c ≤ 70000) (hN : 4 ≤ N ∧ N ≤ 1000) (hR : R + 2 = N) (vw : Vw v N) {o : Option (Int × ByteArray)} (h : At v R 0 o) (x : Int × ByteArray) (hx : At v R 1 (some x)) :
    ∃ (k' : Dk) (v' : Nat → Int), CallOK Try.prog 54 [spn N] [(0, .box (dbox m k))] (I 0) [(0, some (.box (dbox m k')))] ∧ Q1 k' N (c + 1) v' v' 0 (fun _ => False) ∧ Vw v' N ∧ At v' R 0 (some x) ∧ At v' R 1 (some x) := by
  obtain ⟨k', e, ct, h⟩ := switch_q m q hc hN hR vw h x hx
  rcases h with ⟨rfl, v', f', q', vw', h0, h1, hf⟩ | ⟨hf, _⟩
  · rw [hf rfl] at q'
    exact ⟨k', v', ct, q', vw', h0, h1⟩
  · exact absurd rfl hf
def sText : ByteArray := ⟨#[115, 111, 109, 101, 32, 116, 101, 120, 116]⟩
theorem rawake_any : CallOK Try.prog 41 [] [] (B true) [] := by
  have ar := areaz 12 (by omega)
  have q0 := q_zero 12
  generalize dkN [List.replicate 12 0] = k0 at ar q0
  have vw0 := vw_zero 12
  have h0 : At (fun _ => (0 : Int)) 10 0 none := rfl
  obtain ⟨k1, v1, c1, q1, vw1, a1, b1⟩ := prep_q0 0 q0 (by omega) (by omega) (show 10 + 2 = 12 by omega) vw0 h0 5 (by omega) sText (by decide) (by decide)
  have r1 := read_q 0 q1 (by omega) (show 10 + 2 = 12 by omega) vw1 a1
  obtain ⟨k2, v2, c2, q2, vw2, a2, b2⟩ := switch_q0 0 q1 (by omega) (by omega) (show 10 + 2 = 12 by omega) vw1 a1 _ b1
  have r2 := read_q 0 q2 (by omega) (show 10 + 2 = 12 by omega) vw2 a2
  clear q0 q1 q2 vw0 vw1 vw2 a1 b1 a2 b2 h0
  refine CallOK.intro Try.call41 Try.func41 rfl rfl trivial ?_
  refine Safe.ends mixed Try.func41 17 [⟨100, []⟩, ⟨200, [(1, .call [200] (.tup [.ptr 255 0 0 0, .ifc 170 (.agg [.ptr 255 0 0 0, I 0, I 0, I ((↑(12 : Nat) : Int))])]) [(255, some (.box (dbox 0 k0)))])]⟩, ⟨300, [(4, .call [255] (I 0) [(255, some (.box (dbox 0 k1)))])]⟩, ⟨400, [(1, .call [255] (.tup [.agg [B false, I 0, S (ByteArray.mk #[])], I 12]) [(255, some (.box (dbox 0 k1)))])]⟩, ⟨500, [(1, .call [255] (I 0) [(255, some (.box (dbox 0 k2)))])]⟩, ⟨600, [(1, .call [255] (.tup [.agg [B true, I (((5 : Int), sText).fst), S (((5 : Int), sText).snd)], I 0]) [(255, some (.box (dbox 0 k2)))])]⟩, ⟨700, []⟩] (r := B true) (hp := []) (ob := [(0 : Int) ≤ (12 : Int) ∧ (12 : Int) ≤ (12 : Int) ∧ (12 : Int) ≤ (1099511627776 : Int), CallOK Try.prog 48 ([] ++ [.sl 200 0 1 12 none] ++ []) [(200, .vec 22 1 12 fun x => List.map AV.val (Value.int IntKind.u64 (0 : Int)).cells.toList)] (.tup [.ptr 255 0 0 0, .ifc 170 (.agg [.ptr 255 0 0 0, I 0, I 0, I (↑(12 : Nat) : Int)])]) [(255, some (.box (dbox 0 k0)))], CallOK Try.prog 53 ([] ++ [.ifc 170 (.agg [.ptr 255 0 0 0, I 0, I 0, I (↑(12 : Nat) : Int)]), ofV (Value.int IntKind.i64 (5 : Int)), ofV (Value.string (ByteArray.mk #[115, 111, 109, 101, 32, 116, 101, 120, 116]))] ++ []) [(255, .box (dbox 0 k0))] (I 0) [(255, some (.box (dbox 0 k1)))], CallOK Try.prog 50 ([] ++ [.ifc 170 (.agg [.ptr 255 0 0 0, I 0, I 0, I (↑(12 : Nat) : Int)])] ++ []) [(255, .box (dbox 0 k1))] (.tup [.agg [B false, I 0, AV.val (Value.string (ByteArray.mk #[]))], I 12]) [(255, some (.box (dbox 0 k1)))], CallOK Try.prog 54 ([] ++ [.ifc 170 (.agg [.ptr 255 0 0 0, I 0, I 0, I (↑(12 : Nat) : Int)])] ++ []) [(255, .box (dbox 0 k1))] (I 0) [(255, some (.box (dbox 0 k2)))], CallOK Try.prog 50 ([] ++ [.ifc 170 (.agg [.ptr 255 0 0 0, I 0, I 0, I (↑(12 : Nat) : Int)])] ++ []) [(255, .box (dbox 0 k2))] (.tup [.agg [B true, AV.val (Value.int IntKind.i64 ((5 : Int), sText).fst), AV.val (Value.string ((5 : Int), sText).snd)], I 0]) [(255, some (.box (dbox 0 k2)))]]) rfl (by kernel_rfl) ⟨(by omega), (CallOK.ren ar [(1, 200), (10, 255)] [1, 10] rfl rfl rfl rfl ⟨rfl, fun _ => rfl, trivial⟩ rfl ⟨rfl, fun _ => rfl, rfl, trivial, trivial⟩), (CallOK.ren c1 [(0, 255)] [0] rfl rfl rfl rfl ⟨rfl, trivial, trivial⟩ rfl ⟨rfl, trivial, trivial⟩), (CallOK.ren r1 [(0, 255)] [0] rfl rfl rfl rfl ⟨rfl, trivial, trivial⟩ rfl ⟨rfl, trivial, trivial⟩), (CallOK.ren c2 [(0, 255)] [0] rfl rfl rfl rfl ⟨rfl, trivial, trivial⟩ rfl ⟨rfl, trivial, trivial⟩), (CallOK.ren r2 [(0, 255)] [0] rfl rfl rfl rfl ⟨rfl, trivial, trivial⟩ rfl ⟨rfl, trivial, trivial⟩), trivial⟩ rfl trivial trivial rfl
end Go.Proofs.Ytbgbjgedjmhcaaa
namespace Go.Proofs.Ytbgbjgedjmhcaaa
open Go.RowKit
structure Tn where
  i : Nat
  k : OldD.Dk
  v : Nat → Int
  c : Nat
  o : Option (Int × ByteArray)
structure TnOK (N R n len : Nat) (s : Tn) : Prop where
  hi : s.i ≤ n
  q : Q1 s.k N s.c s.v s.v 0 (fun _ => False)
  hc : s.c ≤ 1002 * s.i
  vw : Vw s.v N
  at' : At s.v R 0 s.o
  ln : lnR s.o ≤ len
end Go.Proofs.Ytbgbjgedjmhcaaa
namespace Go.Proofs.Ytbgbjgedjmhcaaa
open Go.RowKit
open OldD (DA Dk Co fp Gr Row Fresh hid hd hs gu nk good ldK ge vu Ar un stF chk3 chk4 rdV wrE wrK flK)
def enc8 (z : Int) : List AV := [.val (.int .u8 z)]
theorem IsRow.factsB {W : World} {a : Option Addr} {len cap : Nat} {z : List Int} (h : IsRow .u8 W a len cap z) : len ≤ cap ∧ (z.take len).length = len ∧ len ≤ 9223372036854775807 ∧ ∀ x ∈ z.take len, 0 ≤ x ∧ x ≤ 255 := by
  rcases h with ⟨rfl, rfl, rfl, rfl⟩ | ⟨x, rfl, hl, hm, hz, hcell, hwz⟩
  · exact ⟨Nat.le_refl _, rfl, by omega, fun x hx => by simp at hx⟩
  · refine ⟨hl, ?_, ?_, fun n hn => ?_⟩
    · rw [List.length_take]; omega
    · unfold maxLen at hm; omega
    · have := hwz n (List.mem_of_mem_take hn)
      simp [Lit.wf, IntKind.min, IntKind.max, IntKind.signed, IntKind.bits] at this
      omega
theorem IsRow.roB {W : World} {a : Option Addr} {len cap : Nat} {z : List Int} {E : Env} {id : Nat} (h : IsRow .u8 W a len cap z) (hE : E id = some (inE a cap)) : Holds E W id (.ro 1 (z.take len).length (rowG enc8 (z.take len))) ∧ RV E (.sl id 0 1 (z.take len).length none) (.slice a len cap) := by
  obtain ⟨hlc, hlen, _, _⟩ := h.factsB
  rcases h with ⟨rfl, rfl, rfl, rfl⟩ | ⟨x, rfl, hl, hm, hz, hcell, hwz⟩
  · refine ⟨⟨none, 0, [], hE, rfl, .inl ⟨rfl, rfl, rfl⟩, (fun u hu => by cases hu), fun q hq => by simp at hq⟩, none, 0, hE, ?_⟩
    exact ⟨none, rfl, rfl, rfl⟩
  · rw [hlen]
    by_cases h0 : cap = 0
    · subst h0
      obtain rfl : len = 0 := by omega
      have hE' : E id = some (none, 0) := hE
      refine ⟨⟨none, 0, [], hE', rfl, .inl ⟨rfl, rfl, rfl⟩, (fun u hu => by cases hu), fun q hq => by omega⟩, none, 0, hE', ?_⟩
      exact ⟨_, rfl, rfl, rfl⟩
    · have hE' : E id = some (some x, cap) := by rw [hE, inE, if_neg h0]
      have hspot : x.spot = none := by
        have hc := hcell 0 (by omega)
        obtain ⟨b, off, spot⟩ := x
        simpa [Addr.add] using World.cell?_spot hc
      have hb : x.block < W.heap.size := by
        have hc := hcell 0 (by omega)
        rw [addr_plus, if_pos rfl] at hc
        exact block_lt_of_cell hc
      obtain ⟨b, off, spot⟩ := x
      dsimp only at hspot hb
      subst hspot
      have ht : ∀ q, q < len → (z.take len).getD q default = z.getD q 0 := fun q hq => by
        rw [List.getD_eq_getElem?_getD, List.getElem?_take, if_pos hq, List.getD_eq_getElem?_getD]
        rfl
      refine ⟨⟨some ⟨b, off, none⟩, cap, (z.take len).map (fun n => Value.int .u8 n), hE', by rw [List.length_map, hlen, Nat.mul_one], .inr ⟨_, rfl, hb, hl, fun j u hu => ?_⟩, fun u hu => ?_, fun q hq => ?_⟩, some ⟨b, off, none⟩, cap, hE', ⟨off, cap, rfl, hl, by omega, fun _ => by simp, by simp⟩⟩
      · rw [List.getElem?_map] at hu
        cases hz' : (z.take len)[j]? with
        | none => rw [hz'] at hu; simp at hu
        | some n =>
          rw [hz'] at hu
          simp only [Option.map_some, Option.some.injEq] at hu
          subst hu
          have hj : j < len := by
            have := (List.getElem?_eq_some_iff.1 hz').1
            omega
          have hc := hcell j (by omega)
          have e : z.getD j 0 = n := by rw [← ht j hj, List.getD_eq_getElem?_getD, hz']; rfl
          rw [e, addr_plus] at hc
          by_cases e0 : j = 0
          · subst e0; simpa using hc
          · rw [if_neg e0] at hc; exact hc
      · obtain ⟨n, _, rfl⟩ := List.mem_map.1 hu
        rfl
      · unfold cellsAt rowG enc8
        have hq' : q < (z.take len).length := by omega
        rw [Nat.mul_one, List.drop_eq_getElem_cons (by simpa using hq')]
        have : (z.take len).getD q default = (z.take len)[q] := by rw [List.getD_eq_getElem?_getD, List.getElem?_eq_getElem hq']; rfl
        rw [this]
        simp [RVs, RV]
end Go.Proofs.Ytbgbjgedjmhcaaa
namespace Go.Proofs.Ytbgbjgedjmhcaaa
open Go.RowKit Go.ChangeShapes Go.WideShapes
open OldD (Dk)
def encS (t : ByteArray) : List AV := [S t]
def kept : ByteArray := ⟨#[107, 101, 112, 116]⟩
structure Kp where
  i : Nat
  k : OldD.Dk
  v : Nat → Int
  c : Nat
  l : ByteArray
structure KpOK (n : Nat) (s : Kp) : Prop where
  hi : s.i ≤ n
  q : Q1 s.k 30 s.c s.v s.v 0 (fun _ => False)
  hc : s.c ≤ 1002 * (s.i + 2)
  vw : Vw s.v 30
  a0 : At s.v 28 0 (some (1, kept))
  a1 : At s.v 28 1 (some ((s.i : Int) + 1, s.l))
end Go.Proofs.Ytbgbjgedjmhcaaa
namespace Go.Proofs.Ytbgbjgedjmhcaaa
open Go.RowKit Go.ChangeShapes Go.WideShapes Go.ChangeAt
open OldD (DA Dk Co fp Gr Row Fresh hid hd hs gu nk good ldK ge vu Ar un stF chk3 chk4 rdV wrE wrK flK)
theorem image_c (m : Nat) (k : Dk) (d : Nat) (X : List Int) (hX : (gu k.U d).now = X) (hd : d < k.U.length) :
    CallOK Try.prog 26 [.ptr 0 0 0 0, I (d : Int)] [(0, .box (dbox m k))] (.tup [.sl 10 0 1 X.length none, I 0]) [(10, some (.vec 22 1 X.length (rowG encU X)))] := by
  subst hX
  refine ⟨Try.call26, fun E W cs hcs rh hn => ?_⟩
  simp only [RVs, RV, I] at hcs
  obtain ⟨y, l, rfl, ⟨a0, k0, e0, rfl⟩, y2, l2, rfl, rfl, rfl⟩ := hcs
  obtain ⟨A, co, kk, e1, e2, e3, e4, e5⟩ := dbox_open (rh.holds 0 _ rfl) (c := .pointer (some ⟨a0.block, a0.off + (0 * 0 + 0), none⟩)) (by simp only [RV]; exact ⟨a0, k0, e0, rfl⟩)
  rw [e1]
  refine (OldD.image_ok e3 d hd).mono ?_
  rintro e W' ⟨g, cg, rfl, hg, HH⟩
  obtain ⟨hr, hb⟩ := HH.out
  have hne := hn 10 (by simp [newIds, hasId, find, upd])
  have hxt := nw_set E 10 (some ⟨g, 0, none⟩, cg) hne
  have gb : W.grownBy W' none := ⟨hb.os, hb.tape, hb.output, hb.size, fun i hi _ => hb.block i hi⟩
  have hh : Holds (fun y => if y = 10 then some (some ⟨g, 0, none⟩, cg) else E y) W' 10 (.vec 22 1 (gu k.U d).now.length (rowG encU (gu k.U d).now)) := by
    refine ⟨some ⟨g, 0, none⟩, cg, vu (gu k.U d).now, by simp, hr, OldD.one_vu _, fun q hq => ?_⟩
    have hq2 : q < (vu (gu k.U d).now).length := by simpa [vu] using hq
    simp only [cellsAt, Nat.mul_one]
    rw [List.drop_eq_getElem_cons hq2, List.take_succ_cons, List.take_zero]
    simp only [rowG, encU, U, RVs, RV]
    refine ⟨_, _, rfl, ?_, rfl⟩
    simp [vu, List.getD_eq_getElem?_getD, List.getElem?_eq_getElem hq]
  obtain ⟨q1, q2⟩ := RH.change (h' := upd [(0, .box (dbox m k))] 10 (.vec 22 1 (gu k.U d).now.length (rowG encU (gu k.U d).now))) (row := none) rh hxt gb (fun b hb => by cases hb) (by rw [find_upd]; simp) (fun x hx y hy => by rw [find_upd, if_neg (fun e => hx e.symm)] at hy; exact hy) hh (fun b hb => .inr (by
    simp only [Foot, Ob.bx, FootB, blkOf, if_pos, Option.some.injEq] at hb
    omega))
  refine ⟨_, _, rfl, hxt, ?_, q1, q2⟩
  have hcap := OldD.own_cap hr
  simp only [RV, RVs, I]
  exact ⟨[.slice (some ⟨g, 0, none⟩) (gu k.U d).now.length cg, .int .i64 0], rfl, _, _, rfl, ⟨some ⟨g, 0, none⟩, cg, by simp, 0, cg, rfl, hcap.1, by omega, fun _ => by simp, by simp⟩, _, _, rfl, rfl, rfl⟩
theorem unfl_ok {W : World} {A : Nat} {c : Co} {k : Dk} (h : DA W A c k) :
    Calls Try.prog 27 #[.pointer (some ⟨A, 0, none⟩)] W fun e W' => e = .returned (.int .i64 (k.F.length : Int)) ∧ W' = W := by
  have c0 := h.c2
  clear h
  go_enter Try.func27, Try.ntmps27
  go_wp2_with fail
  go_ret
  exact ⟨rfl, rfl⟩
theorem unfl_c (m : Nat) (k : Dk) : CallOK Try.prog 27 [.ptr 0 0 0 0] [(0, .box (dbox m k))] (I (k.F.length : Int)) [(0, some (.box (dbox m k)))] :=
  dk_call (cargs := []) (cret := .int .i64 (k.F.length : Int)) Try.call27 (fun E cs h => by simpa [RVs, RV, I] using h) (fun E => by simp [RV, I]) fun W A c h hm =>
    (unfl_ok h).mono fun e W' ⟨he, hw⟩ => by subst hw; exact ⟨he, c, h, hm, Gr.refl _ _, Fresh.refl _ _ _⟩
end Go.Proofs.Ytbgbjgedjmhcaaa
namespace Go.Proofs.Ytbgbjgedjmhcaaa.OldD
open Go.ChangeShapes Go.WideShapes Go.ChangeAt Go.RowKit
set_option maxRecDepth 100000
def RoR (w : World) (x : Addr) (X : List Int) : Prop := x.block < w.heap.size ∧ ∀ j u, (vu X)[j]? = some u → w.cell? (x.add j) = some u
theorem add_block (x : Addr) (j : Nat) : (x.add j).block = x.block := by
  rw [addr_plus]
  split <;> rfl
theorem RoR.gr {w w' : World} {x : Addr} {X : List Int} {S : List Nat} (h : RoR w x X) (hg : Gr S w w') (hn : x.block ∉ S) : RoR w' x X :=
  ⟨Nat.lt_of_lt_of_le h.1 hg.size, fun j u hu => (hg.cell (p := x.add j) (by rw [add_block]; exact h.1) (by rw [add_block]; exact hn)).trans (h.2 j u hu)⟩
theorem Row.copyRo {w : World} {p cp cq : Nat} {x : Addr} {D N : List Int} (hD : Row w p cp D) (hN : RoR w x N) (hl : D.length = N.length) (h1 : 1 ≤ N.length) (ty : TypeId) :
    ∃ w', (Builtin.copy_ #[25, 25] ty #[.slice (some ⟨p, 0, none⟩) N.length cp, .slice (some x) N.length cq]).run Try.prog w = .ok (goInt N.length) w' ∧ Row w' p cp N ∧ Gr [p] w w' := by
  rcases hD.2 with ⟨h2, _⟩ | ⟨g, cap, cur, h2, hb, hg, hnc, hcm, hcs, htake⟩
  · simp at h2
  · simp only [Value.slice.injEq, Option.some.injEq, Addr.mk.injEq, and_true, true_and] at h2
    obtain ⟨rfl, rfl⟩ := h2
    have hvl := vu_len N
    have hrun := run_copy_row (P := Try.prog) w 25 25 ty 22 p 0 N.length cp x N.length cq cur 22 (vu N) Try.underlying25 (by kernel_rfl) hg (by rw [hvl]; simp) hN.2 (by rw [hvl, hcs]; omega) (one_vu N)
    rw [hvl] at hrun
    refine ⟨_, hrun, ⟨by rw [hvl]; omega, .inr ⟨p, cp, _, rfl, hb, setRow_heap _ _ _ _ _ _ hg, by omega, hcm, ?_, ?_⟩⟩, ?_⟩
    · simp [hvl]; omega
    · rw [List.toList_toArray, Nat.mul_one]
      rw [List.take_zero, List.nil_append, List.take_left' hvl]
    · exact ⟨rfl, rfl, rfl, by simp [World.setRow], fun k hk hn => setRow_other _ _ _ _ (by intro e; apply hn; rw [e]; simp)⟩
theorem load_ro {W : World} {A : Nat} {c : Co} {k : Dk} (h : DA W A c k) (n : Nat) (hn : n < k.U.length) (x : Addr) (cg : Nat) (X : List Int) (hX : RoR W x X) (hgn : x.block ∉ fp A c) (hl : X.length = (gu k.U n).now.length) (hF : k.F.length ≤ 2 ^ 32) (hmn : c.mn = 0) :
    Calls Try.prog 58 #[.pointer (some ⟨A, 0, none⟩), .int .i64 (n : Int), .slice (some x) X.length cg] W fun e W' => e = .returned (.int .i64 0) ∧ Hid (DA W' A c (ldK k n X) ∧ Gr (fp A c) W W') := by
  have hmx : Try.prog.follows .mixedOrders = true := by kernel_rfl
  have hb8 := h.b8
  have hbn := h.bn n hn
  have hb1 := (Below.refl W.heap.size W).alloc (Nat.le_refl _) (.cells #[.int .i64 (n : Int)] 3)
  have H1 := hid (h.below hb1)
  have HX1 := hid (hX.gr (Gr.of_below hb1 []) (by simp))
  have HG1 := hid (Gr.of_below hb1 (fp A c))
  have HD1 := hid (show (W.alloc (.cells #[.int .i64 (n : Int)] 3)).cell? ⟨W.heap.size, 0, none⟩ = some (.int .i64 (n : Int)) by go_simp)
  have HS1 := hid (show W.heap.size < (W.alloc (.cells #[.int .i64 (n : Int)] 3)).heap.size by simp)
  have HNF := hid (show W.heap.size ∉ fp A c from fun hx => Nat.lt_irrefl _ (h.fp_lt _ hx))
  have HGN := hid hgn
  have HN := hid hn
  have HLX := hid hl
  have HFF := hid hF
  have HMN := hid hmn
  have hx1 : 1 ≤ X.length ∧ X.length ≤ 65536 := by omega
  have hlb : ((X.length : Int) != ((gu k.U n).now.length : Int)) = false := by rw [hl]; simp
  have HLB := hid hlb
  clear h hX hgn hl hF hb1 hmn hlb hbn
  go_enter Try.func58, Try.ntmps58
  go_wp2_with fail
  generalize W.alloc (.cells #[.int .i64 (n : Int)] 3) = w1 at *
  refine (has_ok H1.out (n : Int)).mono ?_
  rintro e w1 ⟨rfl, rfl⟩
  rw [hd_iff.2 ⟨n, rfl, HN.out⟩]
  obtain ⟨ub, hub, hul, c1, c2, -, -⟩ := H1.out.unit HN.out
  have c0 := H1.out.c0
  rw [hub] at c0
  have d0 := HD1.out
  have hlb := HLB.out
  have hbu := H1.out.bn n HN.out
  go_wp2_with fail
  go_quiet (fail)
  clear hlb
  have H2 := H1.out.below (W' := w1.drewN nq) (bdn _ _ _)
  have HX2 := HX1.out.gr (Gr.of_below (bdn w1.heap.size w1 nq) []) (by simp)
  have HG2 := HG1.out.trans (Gr.of_below (bdn w1.heap.size w1 nq) (fp A c))
  have d2 : (w1.drewN nq).cell? ⟨W.heap.size, 0, none⟩ = some (.int .i64 (n : Int)) := d0
  have s2 : W.heap.size < (w1.drewN nq).heap.size := HS1.out
  generalize hw2 : w1.drewN nq = w2 at *
  clear hw2 H1 HX1 HG1 HD1 HS1 d0 c0 c1 c2 hub hbu
  obtain ⟨ub, hub, hul, c1, c2, -, -⟩ := H2.unit HN.out
  have c0 := H2.c0
  rw [hub] at c0
  have hbn2 := H2.bn n HN.out
  go_wp2_with fail
  have e1 := HLX.out
  obtain ⟨w4, hrun, hR4, hg4⟩ := (Row.gr (H2.rn n HN.out) (Gr.of_below (Below.refl w2.heap.size w2).drew []) (by simp)).copyRo (cq := cg) (RoR.gr HX2 (Gr.of_below (Below.refl w2.heap.size w2).drew []) (by simp)) e1.symm hx1.1 3
  rw [e1] at hrun
  go_still_tail 9, (by kernel_rfl)
  repeat still_step
  change wpList _ _ _ _ _ w2.drew
  have H3 := H2.below (W' := w2.drew) (Below.refl _ _).drew
  have HX3 := HX2.gr (Gr.of_below (Below.refl w2.heap.size w2).drew []) (by simp)
  have HG3 := HG2.trans (Gr.of_below (Below.refl w2.heap.size w2).drew (fp A c))
  have d3 : w2.drew.cell? ⟨W.heap.size, 0, none⟩ = some (.int .i64 (n : Int)) := d2
  have s3 : W.heap.size < w2.drew.heap.size := s2
  have hfn : (gb c.bs n).n ∈ fp A c := fp_n (by rw [H3.lb]; exact HN.out)
  have H4 := hid (show DA w4 A c (nowK k n X) from H3.rowN HN.out hg4 hR4 e1)
  have HG4 := hid (HG3.trans (hg4.mono (T := fp A c) (fun x hx => by obtain rfl := List.mem_singleton.1 hx; exact hfn)))
  have HX4 := hid (HX3.gr hg4 (by rw [List.mem_singleton]; intro e; exact HGN.out (e ▸ hfn)))
  have HD4 := hid (box_kept d3 s3 (hg4.mono (T := fp A c) (fun x hx => by obtain rfl := List.mem_singleton.1 hx; exact hfn)) HNF.out)
  have HS4 := hid (Nat.lt_of_lt_of_le s3 hg4.size)
  have HE := hid (ldK_eq HN.out X)
  have HL4 := hid (show (gu (nowK k n X).U n).now.length = (gu k.U n).now.length by rw [gu_nowK HN.out]; exact e1)
  have HN4 := hid (show n < (nowK k n X).U.length by rw [len_nowK]; exact HN.out)
  have HF4 := hid (show (nowK k n X).F.length ≤ 2 ^ 32 from HFF.out)
  have HB4 := hid (show (nowK k n X).bad = k.bad from rfl)
  clear H2 HX2 HG2 d2 s2 H3 HX3 HG3 d3 s3 hfn hR4 hg4 hub c0 c1 c2 hul
  generalize nowK k n X = k4 at *
  obtain ⟨ub, hub, hul, c1, c2, -, -⟩ := H4.out.unit HN4.out
  have c0 := H4.out.c0
  rw [hub] at c0
  have hbn4 := H4.out.bn n HN4.out
  have hb84 := H4.out.b8
  have hul4 : n < k4.U.length := HN4.out
  have d4 := HD4.out
  rw [HL4.out] at c2 hbn4
  go_wp2_with fail
  clear hrun
  obtain ⟨w5, hrun, hR5, hg5⟩ := (Row.gr (H4.out.rd n HN4.out) (Gr.of_below (Below.refl w4.heap.size w4).drew []) (by simp)).copyRo (cq := cg) (RoR.gr HX4.out (Gr.of_below (Below.refl w4.heap.size w4).drew []) (by simp)) ((H4.out.ld n HN4.out).trans (HL4.out.trans e1.symm)) hx1.1 3
  rw [e1] at hrun
  go_still_tail 9, (by kernel_rfl)
  repeat still_step
  change wpList _ _ _ _ _ w4.drew
  have H5 := H4.out.below (W' := w4.drew) (Below.refl _ _).drew
  have HG5 := HG4.out.trans (Gr.of_below (Below.refl w4.heap.size w4).drew (fp A c))
  have d5 : w4.drew.cell? ⟨W.heap.size, 0, none⟩ = some (.int .i64 (n : Int)) := d4
  have s5 : W.heap.size < w4.drew.heap.size := HS4.out
  have hfd : (gb c.bs n).d ∈ fp A c := fp_d (by rw [H5.lb]; exact HN4.out)
  have H6 := hid (show DA w5 A c (durK k4 n X) from H5.rowD HN4.out hg5 hR5 (e1.trans HL4.out.symm))
  have HG6 := hid (HG5.trans (hg5.mono (T := fp A c) (fun x hx => by obtain rfl := List.mem_singleton.1 hx; exact hfd)))
  have HD6 := hid (box_kept d5 s5 (hg5.mono (T := fp A c) (fun x hx => by obtain rfl := List.mem_singleton.1 hx; exact hfd)) HNF.out)
  have HS6 := hid (Nat.lt_of_lt_of_le s5 hg5.size)
  have HN6 := hid (show n < (durK k4 n X).U.length by rw [len_durK]; exact HN4.out)
  have HF6 := hid (show (durK k4 n X).F.length ≤ 2 ^ 32 from HF4.out)
  clear H4 HX4 HG4 HD4 HS4 HL4 HN4 HF4 H5 HG5 d5 s5 d4 hfd hR5 hg5 hub c0 c1 c2 hul hbn4 hb84 hul4
  generalize durK k4 n X = k6 at *
  have d6 := HD6.out
  go_wp2_with fail
  refine (settle_ok H6.out n HN6.out HF6.out 99 false (fun args w => enters_of Try.func99 (by kernel_rfl) rfl args w) surv61).mono ?_
  rintro e w7 ⟨rfl, HS⟩
  rw [HE.out] at HS
  have H7 := hid HS.out.1
  have HG7 := hid (HG6.out.trans HS.out.2)
  have HD7 := hid (box_kept d6 HS6.out HS.out.2 HNF.out)
  clear HS H6 HG6 HD6 HS6 HN6 HF6 HE d6
  have d7 := HD7.out
  have c0 := H7.out.c1
  have HM7 := hid (show BM w7 c.mb 0 (ldK k n X).bad by rw [← HMN.out]; exact H7.out.mp)
  go_wp2_with fail
  refine (delf_ok HM7.out _).mono ?_
  rintro e w8 ⟨rfl, hb8⟩
  have H8 := hid (H7.out.below hb8)
  have HG8 := hid (HG7.out.trans (Gr.of_below hb8 (fp A c)))
  clear H7 HG7 HM7 d7 c0 hb8 HD7
  go_wp2_with fail
  go_ret
  exact ⟨rfl, hid ⟨H8.out, HG8.out⟩⟩
end Go.Proofs.Ytbgbjgedjmhcaaa.OldD
namespace Go.Proofs.Ytbgbjgedjmhcaaa
open OldD (RoR DA Dk Co fp Gr Row Fresh hid hd hs gu nk good ldK ge vu Ar un stF chk3 chk4 rdV wrE wrK flK)
theorem ro_row {E : Env} {W : World} {id : Nat} {X : List Int} {c : Value} (h1 : 1 ≤ X.length) (hh : Holds E W id (.ro 1 X.length (rowG encU X))) (hc : RV E (.sl id 0 1 X.length none) c) :
    ∃ x cg, c = .slice (some x) X.length cg ∧ RoR W x X ∧ Foot E W id (.ro 1 X.length (rowG encU X)) x.block := by
  obtain ⟨a, cap, rfl, h⟩ := row_of hh hc
  rcases h with h0 | ⟨b, off, rfl, hb, hcell⟩
  · omega
  refine ⟨⟨b, off, none⟩, cap, rfl, ⟨hb, fun j u hu => ?_⟩, ?_⟩
  · have hj : j < X.length := by
      have := (List.getElem?_eq_some_iff.1 hu).1
      simpa [vu] using this
    obtain ⟨v, g1, g2⟩ := hcell j hj
    simp only [rowG, encU, U, RVs, RV] at g1
    obtain ⟨y, l, e1, rfl, rfl⟩ := g1
    simp only [List.cons.injEq, and_true] at e1
    have ea : (⟨b, off, none⟩ : Addr).add j = ⟨b, off + j, none⟩ := by
      rw [addr_plus]
      split
      · rename_i h; subst h; rfl
      · rfl
    rw [ea, g2, e1, ← hu]
    simp [vu, List.getD_eq_getElem?_getD, List.getElem?_eq_getElem hj]
  · obtain ⟨b1, k, xs, g1, _⟩ := hh
    simp only [RV] at hc
    obtain ⟨b2, k2, h6, h7⟩ := hc
    rw [g1] at h6
    simp only [Option.some.injEq, Prod.mk.injEq] at h6
    obtain ⟨rfl, rfl⟩ := h6
    cases b1 with
    | none =>
      obtain ⟨b', _, e, _⟩ := h7
      omega
    | some a =>
      obtain ⟨o, m, e, _⟩ := h7
      simp only [Value.slice.injEq, Option.some.injEq, Addr.mk.injEq] at e
      simp [Foot, Ob.bx, FootB, blkOf, g1, e.1.1]
theorem load_cr (k : Dk) (n : Nat) (X : List Int) (hn : n < k.U.length) (hl : X.length = (gu k.U n).now.length) (h1 : 1 ≤ X.length) (hF : k.F.length ≤ 2 ^ 32) :
    CallOK Try.prog 58 [.ptr 0 0 0 0, I (n : Int), .sl 1 0 1 X.length none] [(0, .box (dbox 0 k)), (1, .ro 1 X.length (rowG encU X))] (I 0) [(0, some (.box (dbox 0 (ldK k n X))))] := by
  refine ⟨Try.call58, fun E W cs hcs rh _ => ?_⟩
  simp only [RVs, RV, I] at hcs
  obtain ⟨y, l, rfl, ⟨a0, k0, e0, rfl⟩, y2, l2, rfl, rfl, y3, l3, rfl, hs3, rfl⟩ := hcs
  obtain ⟨A, co, kk, e1, e2, e3, e4, e5⟩ := dbox_open (rh.holds 0 _ rfl) (c := .pointer (some ⟨a0.block, a0.off + (0 * 0 + 0), none⟩)) (by simp only [RV]; exact ⟨a0, k0, e0, rfl⟩)
  obtain ⟨x, cg, rfl, hr, hfg⟩ := ro_row h1 (rh.holds 1 _ rfl) (by simp only [RV]; exact hs3)
  rw [e1]
  refine (OldD.load_ro e3 n hn x cg X hr (fun hm => rh.apart 0 1 _ _ rfl rfl (by decide) rfl x.block ((e5 x.block).2 hm) hfg) hl hF (by omega)).mono ?_
  rintro e W' ⟨rfl, HH⟩
  obtain ⟨q1, q2⟩ := box_step (m' := 0) rh rfl e2 e5 HH.out.1 e4 HH.out.2 (Fresh.refl _ _ _)
  exact ⟨_, E, rfl, Ext.refl E, by simp [RV, I], q1, q2⟩
theorem loadedN1r (X : List Int) (hx : 1 ≤ X.length ∧ X.length ≤ 1000) :
    CallOK Try.prog 21 [.sl 1 0 1 1 none] [(1, .ro 1 1 (rowsOf [.sl 2 0 1 X.length none] 1)), (2, .ro 1 X.length (rowG encU X))] (.ptr 10 0 0 0) [(10, some (.box (dbox 0 (dkN [X]))))] := by
  refine CallOK.intro Try.call21 Try.func21 rfl rfl ⟨rfl, fun q => closed_rows rfl q, rfl, fun _ => rfl, trivial⟩ ?_
  obtain ⟨k0, hk0⟩ : ∃ k, k = nk [(X.length : Int)] := ⟨_, rfl⟩
  obtain ⟨k1, hk1⟩ : ∃ k, k = ldK k0 0 X := ⟨_, rfl⟩
  have l0 := load_cr k0 0 X (by simp [hk0, nk, ldK]) (by simp [hk0, nk, gu, un, ldK]) hx.1 (by simp [hk0, nk, ldK, stF])
  rw [← hk1] at l0
  have nc := newc1 (X.length : Int) (by omega)
  rw [← hk0] at nc
  have e : dkN [X] = k1 := by rw [hk1, hk0]; rfl
  rw [e]
  clear e hk1 hk0
  refine Safe.gotoE mixed 58 [⟨1100, []⟩, ⟨1200, []⟩, ⟨1300, []⟩, ⟨1400, []⟩, ⟨1500, []⟩, ⟨1600, []⟩, ⟨1700, []⟩, ⟨1800, [(1, .call [1507] (.tup [.ptr 1855 0 0 0, I 0]) [(1855, some (.box (dbox 0 k0)))])]⟩, ⟨1900, []⟩, ⟨2000, []⟩, ⟨2100, []⟩, ⟨2200, [(6, .call [1855, 2] (I 0) [(1855, some (.box (dbox 0 k1)))])]⟩, ⟨2300, []⟩, ⟨2400, []⟩, ⟨2500, []⟩] [2] [1, 2, 1855] (sl := slotsOf 48 [(2, .ptr 1855 0 0 0)]) (hp := [(1, .ro 1 1 (rowsOf [.sl 2 0 1 X.length none] 1)), (2, .ro 1 X.length (rowG encU X)), (1855, .box (dbox 0 k1))]) (ob := [(0 : Int) ≤ (0 : Int) ∧ (0 : Int) < (↑(1 : Nat) : Int), 0 < 1, 0 + 1 ≤ 1, 1 ≤ 1099511627776, inK IntKind.i64 ((0 : Int) + (1 : Int)), CallOK Try.prog 57 ([] ++ [.sl 1507 0 1 1 none] ++ []) [(1507, .vec 3 1 1 (rowsOf [I ↑X.length] 1))] (.tup [.ptr 1855 0 0 0, I 0]) [(1855, some (.box (dbox 0 k0)))], (0 : Int) ≤ (0 : Int) ∧ (0 : Int) < (↑(1 : Nat) : Int), 0 < 1, CallOK Try.prog 58 ([] ++ [.ptr 1855 0 0 0, I 0, .sl 2 0 1 X.length none] ++ []) [(1855, .box (dbox 0 k0)), (2, .ro 1 X.length (rowG encU X))] (I 0) [(1855, some (.box (dbox 0 k1)))], inK IntKind.i64 ((0 : Int) + (1 : Int))]) rfl rfl (by kernel_rfl) ⟨(by first | omega | assumption), (by first | omega | assumption), (by first | omega | assumption), (by first | omega | assumption), (by simp only [inK]; first | omega | assumption), (CallOK.simR (CallOK.ren (CallOK.own 3 1 (es := 1) (n := 1) (row := rowsOf [I ↑X.length] 1) rfl rfl rfl nc) [(1, 1507), (10, 1855)] [1, 10] rfl rfl rfl rfl ⟨rfl, closed_rows rfl, trivial⟩ rfl ⟨rfl, closed_rows rfl, rfl, trivial, trivial⟩) (HpSim.cons rfl (OSim.rowsV rfl) HpSim.nil)), (by first | omega | assumption), (by first | omega | assumption), (CallOK.ren l0 [(0, 1855), (1, 2)] [0, 1] rfl rfl rfl rfl ⟨rfl, trivial, rfl, fun _ => rfl, trivial⟩ rfl ⟨rfl, trivial, rfl, fun _ => rfl, trivial⟩), (by simp only [inK]; first | omega | assumption), trivial⟩ rfl ⟨rfl, closed_rows rfl, rfl, fun _ => rfl, rfl, trivial, trivial⟩ fun td htd => ?_
  refine Safe.ren [(1855, 10)] rfl rfl rfl rfl ⟨rfl, closed_rows rfl, rfl, fun _ => rfl, rfl, trivial, trivial⟩ ?_
  refine Safe.endsT Try.func21 htd (r := .ptr 10 0 0 0) (hp := [(1, .ro 1 1 (fun q => renL [(1855, 10)] (rowsOf [.sl 2 0 1 X.length none] 1 q))), (2, .ro 1 X.length (fun q => renL [(1855, 10)] (rowG encU X q))), (10, .box (dbox 0 k1))]) (ob := []) rfl (by kernel_rfl) trivial rfl ⟨⟨rfl, rfl, fun _ _ => by first | rfl | exact renL_rowsOf _ _ _ _⟩, ⟨rfl, rfl, fun _ _ => rfl⟩, ObLe.refl _, trivial⟩ ⟨rfl, closed_rows rfl, rfl, fun _ => rfl, rfl, trivial, trivial⟩ rfl
  all_goals exact ObLe.refl _
end Go.Proofs.Ytbgbjgedjmhcaaa
namespace Go.Proofs.Ytbgbjgedjmhcaaa
open Go.RowKit
open OldD (TK TS RoU Sc Gr Row own_gr own_lt ck sf up upto pFail pFlush ck_at lt_mul ge hid)
structure SK (W : World) (b n : Nat) (G : Nat → Nat × Nat) (f : Nat → Sc) : Prop where
  row : ∃ cr, W.ownsRow 0 179 3 (.slice (some ⟨b, 0, none⟩) n cr) n (ck 3 n (sf G f))
  inn : ∀ i, i < n → Row W (G i).1 (G i).2 (f i).S
  sep : ∀ i, i < n → (G i).1 ≠ b
  lim : n ≤ 1000
theorem SK.heq {W W' : World} {b n : Nat} {G : Nat → Nat × Nat} {f : Nat → Sc} (e : W'.heap = W.heap) (h : SK W b n G f) : SK W' b n G f :=
  ⟨by obtain ⟨cr, h1⟩ := h.row; exact ⟨cr, own_heq e h1⟩, fun i hi => own_heq e (h.inn i hi), h.sep, h.lim⟩
theorem SK.gr {W W' : World} {b n : Nat} {G : Nat → Nat × Nat} {f : Nat → Sc} {S : List Nat} (h : SK W b n G f) (hg : Gr S W W') (h2 : b ∉ S) (h3 : ∀ i, i < n → (G i).1 ∉ S) : SK W' b n G f :=
  ⟨by obtain ⟨cr, h1⟩ := h.row; exact ⟨cr, own_gr h1 hg (fun g hg => by cases hg; exact h2)⟩, fun i hi => (h.inn i hi).gr hg (h3 i hi), h.sep, h.lim⟩
theorem SK.lt {W : World} {b n : Nat} {G : Nat → Nat × Nat} {f : Nat → Sc} (h : SK W b n G f) : b < W.heap.size := by obtain ⟨cr, h1⟩ := h.row; exact own_lt h1
theorem SK.uniq {W : World} {b n : Nat} {G G' : Nat → Nat × Nat} {f f' : Nat → Sc} (h : SK W b n G f) (h' : SK W b n G' f') (i : Nat) (hi : i < n) : (G' i).1 = (G i).1 := by
  obtain ⟨c1, h1⟩ := h.row
  obtain ⟨c2, h2⟩ := h'.row
  have e1 : W.cell? ⟨b, i * 3 + 0, none⟩ = _ := (World.ownsRow.cellAt h1 _ (lt_mul (j := 0) hi (by omega))).trans (ck_at (j := 0) _ hi (by omega))
  have e2 : W.cell? ⟨b, i * 3 + 0, none⟩ = _ := (World.ownsRow.cellAt h2 _ (lt_mul (j := 0) hi (by omega))).trans (ck_at (j := 0) _ hi (by omega))
  rw [e1] at e2
  simp [sf] at e2
  exact e2.1.symm
end Go.Proofs.Ytbgbjgedjmhcaaa
namespace Go.Proofs.Ytbgbjgedjmhcaaa
open Go.RowKit
open OldD (TK TS RoU Sc Gr Row KB DA Dk fp Fresh reK own_gr own_lt ck sf up upto pFail pFlush ck_at lt_mul ge hid)
theorem own_rowG {E : Env} {W : World} {id ty n : Nat} {row : Nat → List AV} {c : Value} (h1 : 1 ≤ n) (hh : Holds E W id (.vec ty 1 n row)) (hc : RV E (.sl id 0 1 n none) c) :
    ∃ g cg, c = .slice (some ⟨g, 0, none⟩) n cg ∧ g < W.heap.size ∧ Foot E W id (.vec ty 1 n row) g ∧ ∀ j, j < n → ∃ v, RVs E (row j) [v] ∧ W.cell? ⟨g, j, none⟩ = some v := by
  obtain ⟨b, k, xs, g1, g2, g3, g4⟩ := hh
  simp only [RV] at hc
  obtain ⟨b2, k2, h6, h7⟩ := hc
  rw [g1] at h6
  simp only [Option.some.injEq, Prod.mk.injEq] at h6
  obtain ⟨rfl, rfl⟩ := h6
  obtain ⟨g, rfl⟩ := OldD.own_pos g2 (by omega)
  obtain ⟨o, m, rfl, h8, h9, h10, h11⟩ := h7
  have : m = k := by simpa using h11
  subst this
  have ho : o = 0 := by have := h10 (by omega); simpa using this
  subst ho
  refine ⟨g, m, rfl, OldD.own_lt g2, by simp [Foot, Ob.bx, FootB, blkOf, g1], fun j hj => ?_⟩
  have hl : xs.length = n := by have := g2.1; omega
  have hj2 : j < xs.length := by omega
  refine ⟨xs[j], ?_, ?_⟩
  · have := g4 j hj
    simp only [cellsAt, Nat.mul_one] at this
    rwa [List.drop_eq_getElem_cons hj2, List.take_succ_cons, List.take_zero] at this
  · rw [World.ownsRow.cellAt g2 j (by omega)]
    exact List.getElem?_eq_getElem hj2
def encB (b : Bool) : List AV := [B b]
theorem restart_c (m : Nat) (k : Dk) (L : List Bool) (h1 : 1 ≤ L.length) (h2 : L.length ≤ 1000) (hF : k.F.length ≤ 2 ^ 32) :
    CallOK Try.prog 31 [.ptr 0 0 0 0, .sl 1 0 1 L.length none] [(0, .box (dbox m k)), (1, .vec 4 1 L.length (rowG encB L))] (.tup []) [(0, some (.box (dbox m (reK k (fun i => L.getD i false)))))] := by
  refine ⟨Try.call31, fun E W cs hcs rh _ => ?_⟩
  simp only [RVs, RV] at hcs
  obtain ⟨y, l, rfl, ⟨a0, k0, e0, rfl⟩, y3, l3, rfl, hs3, rfl⟩ := hcs
  obtain ⟨A, co, kk, e1, e2, e3, e4, e5⟩ := dbox_open (rh.holds 0 _ rfl) (c := .pointer (some ⟨a0.block, a0.off + (0 * 0 + 0), none⟩)) (by simp only [RV]; exact ⟨a0, k0, e0, rfl⟩)
  obtain ⟨g, cg, rfl, hg, hfg, hcell⟩ := own_rowG h1 (rh.holds 1 _ rfl) (by simp only [RV]; exact hs3)
  rw [e1]
  have hK : KB W (fp A co) (some ⟨g, 0, none⟩) L.length (fun i => L.getD i false) := ⟨.inr ⟨g, rfl, hg, fun hm => rh.apart 0 1 _ _ rfl rfl (by decide) rfl g ((e5 g).2 hm) hfg, fun i hi => by
      obtain ⟨v, v1, v2⟩ := hcell i hi
      simp only [rowG, encB, B, RVs, RV] at v1
      obtain ⟨y, l, e6, rfl, rfl⟩ := v1
      simp only [List.cons.injEq, and_true] at e6
      rw [v2, e6]
      simp [List.getD_eq_getElem?_getD, List.getElem?_eq_getElem hi]⟩, fun i hi => by simp [List.getD_eq_getElem?_getD, List.getElem?_eq_none hi]⟩
  refine (OldD.restart_ok e3 (some ⟨g, 0, none⟩) L.length cg _ hK (by omega) hF).mono ?_
  rintro e W' ⟨rfl, HH⟩
  obtain ⟨q1, q2⟩ := box_step (m' := m) rh rfl e2 e5 HH.out.1 e4 HH.out.2 (fun x hx => by
    rcases OldD.fp_cases hx with rfl | rfl | hb | hb | ⟨i, hi, hb⟩
    · exact .inl OldD.fp_A
    · exact .inl OldD.fp_m
    · exact .inl (OldD.fp_u hb)
    · cases hb
    · rcases hb with rfl | rfl
      · exact .inl (OldD.fp_n hi)
      · exact .inl (OldD.fp_d hi))
  exact ⟨_, E, rfl, Ext.refl E, by simp [RV, RVs], q1, q2⟩
end Go.Proofs.Ytbgbjgedjmhcaaa
namespace Go.Proofs.Ytbgbjgedjmhcaaa
open Go.RowKit
def kpB (w : Int) (i : Nat) : Bool := decide (bitsV .and .u64 (w / 2 ^ ((i : Int) % 64).toNat) 1 = 1)
def kpL (w : Int) (i : Nat) : List Bool := (List.range i).map (kpB w)
theorem kpL_len (w : Int) (i : Nat) : (kpL w i).length = i := by simp [kpL]
end Go.Proofs.Ytbgbjgedjmhcaaa
namespace Go.Proofs.Ytbgbjgedjmhcaaa
open Go.RowKit
open OldD (Dk Un gu chk3 reK)
structure Way (k0 : Dk) (F w e : Int) (lab : Bool) (Op : Int → Dk → Dk → Prop) : Prop where
  way : ∃ k2 : Dk, Op e { k0 with fuse := max F 0 } k2 ∧ k2.F.length ≤ 2 ^ 32 ∧ ∃ c, Gk (reK k2 (fun i => (kpL w 192).getD i false)) 1 (fun _ => 20) c ∧
    CallOK Try.prog 23 [.ifc 170 (.agg [.ptr 0 0 0 0, I 0, I 0, I 20])] [(0, .box (dbox 0 (reK k2 (fun i => (kpL w 192).getD i false))))]
      (match lab with | true => .tup [.agg [U 9, I 20, I 8, I 12, U 3], I 0] | false => .tup [noL, I 2]) [(0, some (.box (dbox 0 (reK k2 (fun i => (kpL w 192).getD i false)))))]
theorem kp192 (w : Int) : (kpL w 192).length = 192 := kpL_len w 192
theorem rs192 (k : Dk) (w : Int) (hF : k.F.length ≤ 2 ^ 32) : CallOK Try.prog 31 [.ptr 0 0 0 0, .sl 1 0 1 192 none] [(0, .box (dbox 0 k)), (1, .vec 4 1 192 (rowG encB (kpL w 192)))] (.tup []) [(0, some (.box (dbox 0 (reK k (fun i => (kpL w 192).getD i false)))))] := by
  have := restart_c 0 k (kpL w 192) (by rw [kp192]; omega) (by rw [kp192]; omega) hF
  rw [kp192] at this
  exact this
end Go.Proofs.Ytbgbjgedjmhcaaa
namespace Go.Proofs.Ytbgbjgedjmhcaaa
open Go.RowKit
open OldD (Dk reK)
theorem wordS_any (z : List Int) (m p : Nat) (T : List ByteArray) (hm : m ≤ 1000) (hz : m ≤ z.length) (hp : p ≤ m) (hT : 1 ≤ T.length ∧ T.length ≤ 1000) : CallOK Try.prog 47 [.ptr 0 0 0 0, .sl 2 0 1 T.length none] [(0, .blk 139 [.sl 1 0 1 m none, I p]), (1, .ro 1 z.length (rowG encI z)), (2, .ro 1 T.length (rowG encS T))] (S (T.getD (nV z m p T.length).toNat default)) [(0, some (.blk 139 [.sl 1 0 1 m none, I (nA m p T.length)]))] := by
  refine CallOK.intro Try.call47 Try.func47 rfl rfl ⟨rfl, rfl, rfl, fun _ => rfl, rfl, fun _ => rfl, trivial⟩ ?_
  have h1 := nV_bd z m p T.length (by omega)
  have nn := n_any z m p (T.length : Int) hm hz hp (by omega)
  have e8 : rowG encS T (nV z m p T.length).toNat = [S (T.getD (nV z m p T.length).toNat default)] := rfl
  refine Safe.ends mixed Try.func47 4 [⟨1100, []⟩, ⟨1200, [(4, .call [0, 1] (I (nV z m p (↑T.length : Int))) [(0, some (.blk 139 [.sl 1 0 1 m none, I ((↑(nA m p (↑T.length : Int)) : Int))]))])]⟩] (r := S (T.getD (nV z m p (↑T.length : Int)).toNat default)) (hp := [(0, .blk 139 [.sl 1 0 1 m none, I ((↑(nA m p (↑T.length : Int)) : Int))]), (1, .ro 1 z.length (rowG encI z)), (2, .ro 1 T.length (rowG encS T))]) (ob := [CallOK Try.prog 46 ([] ++ [.ptr 0 0 0 0, I ↑T.length] ++ []) [(0, .blk 139 [.sl 1 0 1 m none, I ↑p]), (1, .ro 1 z.length (rowG encI z))] (I (nV z m p (↑T.length : Int))) [(0, some (.blk 139 [.sl 1 0 1 m none, I (↑(nA m p (↑T.length : Int)) : Int)]))], (0 : Int) ≤ nV z m p (↑T.length : Int) ∧ nV z m p (↑T.length : Int) < (↑T.length : Int), (nV z m p (↑T.length : Int)).toNat < T.length]) rfl (by kernel_rfl) ⟨nn, (by omega), (by omega), trivial⟩ rfl ⟨ObLe.refl _, ObLe.refl _, ObLe.refl _, trivial⟩ ⟨rfl, rfl, rfl, fun _ => rfl, rfl, fun _ => rfl, trivial⟩ rfl
structure Cr where
  i : Nat
  k : Dk
  v : Nat → Int
  c : Nat
  o : Option (Int × ByteArray)
  p : Nat
structure CrOK (N R m : Nat) (s : Cr) : Prop where
  hi : 1 ≤ s.i ∧ s.i ≤ 9
  q : ∃ f, Q1 s.k N s.c s.v s.v f (fun _ => False)
  hc : s.c ≤ 1002 * s.i
  vw : Vw s.v N
  a0 : At s.v R 0 s.o
  so : 2 ≤ s.i → s.o ≠ none
  hp : s.p ≤ m
theorem Dn.rs {k : Dk} {N c : Nat} {os : List (Option (Int × ByteArray))} (h : Dn k N c os) (w : Int) :
    ∃ k3 o', o' ∈ os ∧ CallOK Try.prog 31 [.ptr 0 0 0 0, .sl 1 0 1 192 none] [(0, .box (dbox 0 k)), (1, .vec 4 1 192 (rowG encB (kpL w 192)))] (.tup []) [(0, some (.box (dbox 0 k3)))] ∧ CallOK Try.prog 50 [spn N] [(0, .box (dbox 0 k3))] (rdR o') [(0, some (.box (dbox 0 k3)))] := by
  obtain ⟨g, dn, o', ho, rd⟩ := h.2 (fun i => (kpL w 192).getD i false)
  exact ⟨_, o', ho, rs192 k w h.1, rd 0⟩
end Go.Proofs.Ytbgbjgedjmhcaaa
namespace Go.Proofs.Ytbgbjgedjmhcaaa
open Go.RowKit
theorem toL_wf {N : Nat} {v : Nat → Int} (h : Vw v N) : Wf (toL N v) := fun x hx => by
  obtain ⟨t, ht, rfl⟩ := List.mem_map.1 hx
  exact h t (List.mem_range.1 ht)
theorem lv_vw {X : List Int} (hw : Wf X) : Vw (lv X) X.length := fun t _ => hw.at t
theorem rprep_any (X : List Int) (sq : Int) (t : ByteArray) (hX : 4 ≤ X.length ∧ X.length ≤ 1000) (hw : Wf X) (hq : 1 ≤ sq ∧ sq ≤ 1048575) (ht : t.size ≤ 8192) :
    (∃ e : Int, e ≠ 0 ∧ CallOK Try.prog 80 [.sl 0 0 1 X.length none, I sq, S t] [(0, .ro 1 X.length (rowG encU X))] (.tup [nilS, I e]) []) ∨
    ∃ Y : List Int, Wf Y ∧ Y.length = X.length ∧ CallOK Try.prog 80 [.sl 0 0 1 X.length none, I sq, S t] [(0, .ro 1 X.length (rowG encU X))] (.tup [.sl 10 0 1 X.length none, I 0]) [(10, some (.vec 22 1 X.length (rowG encU Y)))] := by
  obtain ⟨R, hR⟩ : ∃ R, R + 2 = X.length := ⟨X.length - 2, by omega⟩
  have hl := textW_len t
  have hb := ln_bd t.size
  by_cases h0 : X.getD 0 default = 0
  · by_cases hs : ln t.size ≤ R
    · exact .inr ⟨_, toL_wf ((lv_vw hw).prV (wfT t ht) (by omega) (by omega) hq), toL_len _ _, rprep_ok0 X R sq t hX hR hw hq ht h0 hs⟩
    · exact .inl ⟨14, by decide, rprep_space0 X R sq t hX hR hq ht h0 (by omega)⟩
  · by_cases hh : ∃ t0, Wh (lv X) R (X.getD 0 default) t0
    · obtain ⟨t0, h⟩ := hh
      by_cases hs : ln t.size + n2 (X.getD 0 default) ≤ R
      · have hst : (n1 (X.getD 0 default) + n2 (X.getD 0 default)) % R < R := Nat.mod_lt _ (by omega)
        exact .inr ⟨_, toL_wf ((lv_vw hw).prV (wfT t ht) (by omega) (by omega) hq), toL_len _ _, rprep_ok1 X R sq t t0 hX hR hw hq ht h0 h hs⟩
      · exact .inl ⟨14, by decide, rprep_space1 X R sq t t0 hX hR hw hq ht h0 h (by omega)⟩
    · exact .inl ⟨11, by decide, rprep_sum X R sq t hX hR hw hq ht h0 fun t0 h => hh ⟨t0, h⟩⟩
def bts : List ByteArray := [⟨#[]⟩, ⟨#[97]⟩, ⟨#[101, 105, 103, 104, 116, 32, 98, 121]⟩, ⟨#[115, 111, 109, 101, 32, 108, 111, 110, 103, 101, 114, 32, 116, 101, 120, 116, 32, 111, 102, 32, 116, 104, 101, 32, 103, 114, 111, 117, 112]⟩, ⟨#[118, 103, 32, 123, 32, 115, 101, 113, 32, 61, 32, 49, 32, 125]⟩]
theorem bts_size (i : Nat) : (bts.getD i default).size ≤ 29 := by
  match i with
  | 0 | 1 | 2 | 3 | 4 => decide
  | i + 5 => exact (by decide : (default : ByteArray).size ≤ 29)
abbrev btA : List AV := [S ⟨#[]⟩, S ⟨#[97]⟩, S ⟨#[101, 105, 103, 104, 116, 32, 98, 121]⟩, S ⟨#[115, 111, 109, 101, 32, 108, 111, 110, 103, 101, 114, 32, 116, 101, 120, 116, 32, 111, 102, 32, 116, 104, 101, 32, 103, 114, 111, 117, 112]⟩, S ⟨#[118, 103, 32, 123, 32, 115, 101, 113, 32, 61, 32, 49, 32, 125]⟩]
theorem wordB (z : List Int) (m p : Nat) (hm : m ≤ 1000) (hz : m ≤ z.length) (hp : p ≤ m) : CallOK Try.prog 47 [.ptr 0 0 0 0, .sl 2 0 1 5 none] [(0, .blk 139 [.sl 1 0 1 m none, I p]), (1, .ro 1 z.length (rowG encI z)), (2, .ro 1 5 (rowsOf btA 1))] (S (bts.getD (nV z m p 5).toNat default)) [(0, some (.blk 139 [.sl 1 0 1 m none, I (nA m p 5)]))] := by
  have w := wordS_any z m p bts hm hz hp (by decide)
  rw [show bts.length = 5 from rfl, show ((5 : Nat) : Int) = 5 from rfl] at w
  have hr : ∀ q, q < 5 → rowG encS bts q = rowsOf btA 1 q := fun q hq => by
    match q, hq with
    | 0, _ | 1, _ | 2, _ | 3, _ | 4, _ => rfl
    | q + 5, h => omega
  refine w.sim fun id => ?_
  simp only [find]
  split
  · exact OSim.refl _
  · split
    · exact OSim.refl _
    · split
      · exact ⟨⟨rfl, rfl, fun q hq => hr q hq⟩, ⟨rfl, rfl, fun q hq => (hr q hq).symm⟩⟩
      · exact OSim.refl _
theorem xor64 (x y : Int) : 0 ≤ bitsV .xor .u64 x y ∧ bitsV .xor .u64 x y ≤ 18446744073709551615 := by
  show 0 ≤ (((BitVec.ofInt 64 x ^^^ BitVec.ofInt 64 y).toNat : Nat) : Int) ∧ (((BitVec.ofInt 64 x ^^^ BitVec.ofInt 64 y).toNat : Nat) : Int) ≤ 18446744073709551615
  have := (BitVec.ofInt 64 x ^^^ BitVec.ofInt 64 y).isLt
  omega
theorem p64 (s : Nat) (h : s < 64) : 0 ≤ (2 : Int) ^ s ∧ (2 : Int) ^ s ≤ 9223372036854775808 := by
  have h1 : 2 ^ s ≤ 2 ^ 63 := Nat.pow_le_pow_right (by omega) (by omega)
  have e : (2 : Int) ^ s = ((2 ^ s : Nat) : Int) := by push_cast; rfl
  rw [e]
  generalize (2 : Nat) ^ s = n at h1 ⊢
  omega
theorem wrap64 (x : Int) : 0 ≤ IntKind.u64.wrap x ∧ IntKind.u64.wrap x ≤ 18446744073709551615 := by
  simp [IntKind.wrap, IntKind.signed, IntKind.bits]
  omega
theorem row_put {ty N i : Nat} {σ : List (Nat × Nat)} (Y : List Int) (hY : Y.length = N) (v : Int) : ObLe (.vec ty 1 N (fun q => renL σ (setRow (rowG encU Y) i [U v] q))) (.vec ty 1 N (rowG encU (Y.set i v))) := by
  obtain ⟨_, _, _, h4⟩ := ob_setN (ty := ty) (i := i) Y v [U v] hY.symm rfl
  refine ⟨rfl, rfl, rfl, fun q hq => Eq.trans ?_ (h4 q hq)⟩
  by_cases e : q = i
  · subst e; simp only [setRow, if_true]; rfl
  · simp only [setRow, if_neg e]; rfl
abbrev blS (z : List Int) (m p sz i : Nat) (Y : List Int) : St := ⟨slotsOf 67 [(0, .ptr 0 0 0 0), (1, I sz), (5, .sl 20 0 1 sz none), (6, .sl 21 0 1 5 none), (7, I (i : Int))], [(0, .blk 139 [.sl 1 0 1 m none, I p]), (1, .ro 1 z.length (rowG encI z)), (20, .vec 22 1 sz (rowG encU Y)), (21, .vec 9 1 5 (rowsOf btA 1))]⟩
abbrev blG (z : List Int) (m p0 sz : Nat) (Y' : List Int) (p' : Nat) (s : St) : Prop :=
  Safe Try.prog 43 [(0, .blk 139 [.sl 1 0 1 m none, I p0]), (1, .ro 1 z.length (rowG encI z))] (.sl 10 0 1 sz none) [(0, some (.blk 139 [.sl 1 0 1 m none, I p'])), (10, some (.vec 22 1 sz (rowG encU Y')))] (loopAt Try.f43 0) s [0, 1, 20, 21]
theorem bl_err (z : List Int) (m p0 p p1 p2 sz i : Nat) (Y Y' : List Int) (p' : Nat) (sq : Int) (t : ByteArray) (e : Int) (he : e ≠ 0) (hi : i ≤ 10) (hm : m ≤ 1000) (hs : 4 ≤ sz ∧ sz ≤ 1000) (hsq : 0 ≤ sq ∧ sq < 1048575)
    (nn : CallOK Try.prog 46 [.ptr 0 0 0 0, I 1048575] [(0, .blk 139 [.sl 1 0 1 m none, I p]), (1, .ro 1 z.length (rowG encI z))] (I sq) [(0, some (.blk 139 [.sl 1 0 1 m none, I p1]))])
    (wd : CallOK Try.prog 47 [.ptr 0 0 0 0, .sl 2 0 1 5 none] [(0, .blk 139 [.sl 1 0 1 m none, I p1]), (1, .ro 1 z.length (rowG encI z)), (2, .ro 1 5 (rowsOf btA 1))] (S t) [(0, some (.blk 139 [.sl 1 0 1 m none, I p2]))])
    (pr : CallOK Try.prog 80 [.sl 0 0 1 sz none, I (1 + sq), S t] [(0, .ro 1 sz (rowG encU Y))] (.tup [nilS, I e]) [])
    (ih : blG z m p0 sz Y' p' (blS z m p2 sz i Y)) : blG z m p0 sz Y' p' (blS z m p sz (i + 1) Y) := by
  have h1 : ((i : Int) + 1) > 0 := by omega
  have ei : ((i + 1 : Nat) : Int) = (i : Int) + 1 := by omega
  have e2 : (i : Int) + 1 - 1 = (i : Int) := by omega
  have he' : ¬ e = 0 := he
  unfold blG blS
  rw [ei]
  refine Safe.goto mixed 16 [⟨1100, [(1, .tt true)]⟩, ⟨1200, [(2, .call [0, 1] (I sq) [(0, some (.blk 139 [.sl 1 0 1 m none, I ↑p1]))]), (6, .call [0, 1, 21] (S t) [(0, some (.blk 139 [.sl 1 0 1 m none, I ↑p2]))]), (7, .call [20] (.tup [.val (Value.slice none 0 0), I e]) [])]⟩, ⟨1300, [(1, .tt false)]⟩, ⟨1400, []⟩] [0, 1, 5, 6, 7] [0, 1, 20, 21] (todo' := loopAt Try.f43 0) (sl := slotsOf 67 [(0, .ptr 0 0 0 0), (1, I ↑sz), (5, .sl 20 0 1 sz none), (6, .sl 21 0 1 5 none), (7, I ((↑i : Int) + (1 : Int) - (1 : Int)))]) (hp := [(0, .blk 139 [.sl 1 0 1 m none, I ↑p2]), (1, .ro 1 z.length (rowG encI z)), (20, .vec 22 1 sz (rowG encU Y)), (21, .vec 9 1 5 (rowsOf [AV.val (Value.string (ByteArray.mk #[])), AV.val (Value.string (ByteArray.mk #[97])), AV.val (Value.string (ByteArray.mk #[101, 105, 103, 104, 116, 32, 98, 121])), AV.val (Value.string (ByteArray.mk #[115, 111, 109, 101, 32, 108, 111, 110, 103, 101, 114, 32, 116, 101, 120, 116, 32, 111, 102, 32, 116, 104, 101, 32, 103, 114, 111, 117, 112])), AV.val (Value.string (ByteArray.mk #[118, 103, 32, 123, 32, 115, 101, 113, 32, 61, 32, 49, 32, 125]))] 1))]) (ob := [decide ((↑i : Int) + (1 : Int) > (0 : Int)) = true, CallOK Try.prog 46 ([] ++ [.ptr 0 0 0 0, ofV (Value.int IntKind.i64 (1048575 : Int))] ++ []) [(0, .blk 139 [.sl 1 0 1 m none, I ↑p]), (1, .ro 1 z.length (rowG encI z))] (I sq) [(0, some (.blk 139 [.sl 1 0 1 m none, I ↑p1]))], inK IntKind.i64 ((1 : Int) + sq), CallOK Try.prog 47 ([] ++ [.ptr 0 0 0 0, .sl 21 0 1 5 none] ++ []) [(0, .blk 139 [.sl 1 0 1 m none, I ↑p1]), (1, .ro 1 z.length (rowG encI z)), (21, .vec 9 1 5 (rowsOf [AV.val (Value.string (ByteArray.mk #[])), AV.val (Value.string (ByteArray.mk #[97])), AV.val (Value.string (ByteArray.mk #[101, 105, 103, 104, 116, 32, 98, 121])), AV.val (Value.string (ByteArray.mk #[115, 111, 109, 101, 32, 108, 111, 110, 103, 101, 114, 32, 116, 101, 120, 116, 32, 111, 102, 32, 116, 104, 101, 32, 103, 114, 111, 117, 112])), AV.val (Value.string (ByteArray.mk #[118, 103, 32, 123, 32, 115, 101, 113, 32, 61, 32, 49, 32, 125]))] 1))] (AV.val (Value.string t)) [(0, some (.blk 139 [.sl 1 0 1 m none, I ↑p2]))], CallOK Try.prog 80 ([] ++ [.sl 20 0 1 sz none, I ((1 : Int) + sq), AV.val (Value.string t)] ++ []) [(20, .vec 22 1 sz (rowG encU Y))] (.tup [AV.val (Value.slice none 0 0), I e]) [], decide (e = (0 : Int)) = false, inK IntKind.i64 ((↑i : Int) + (1 : Int) - (1 : Int))]) rfl rfl (by kernel_rfl) ⟨(decide_eq_true h1), nn, (by simp only [inK]; omega), (CallOK.simR (CallOK.ren (CallOK.own 9 2 (es := 1) (n := 5) (row := rowsOf btA 1) rfl rfl rfl wd) [(0, 0), (2, 21), (1, 1)] [0, 2, 1] rfl rfl rfl rfl ⟨rfl, rfl, rfl, fun _ => rfl, rfl, closed_rows rfl, trivial⟩ rfl ⟨rfl, rfl, rfl, fun _ => rfl, rfl, closed_rows rfl, trivial⟩) (HpSim.cons rfl (OSim.refl _) (HpSim.cons rfl (OSim.refl _) (HpSim.cons rfl (OSim.rowsV rfl) HpSim.nil)))), (CallOK.ren (CallOK.own 22 0 (es := 1) (n := sz) (row := rowG encU Y) rfl rfl rfl pr) [(0, 20)] [0] rfl rfl rfl rfl ⟨rfl, fun _ => rfl, trivial⟩ rfl ⟨rfl, fun _ => rfl, trivial⟩), (decide_eq_false he'), (by simp only [inK]; omega), trivial⟩ rfl ⟨rfl, rfl, rfl, fun _ => rfl, rfl, fun _ => rfl, rfl, closed_rows rfl, trivial⟩ ?_
  all_goals (rw [e2]; exact ih)
theorem bl_ok0 (z : List Int) (m p0 p p1 p2 sz i : Nat) (Y Y' : List Int) (p' : Nat) (sq : Int) (t : ByteArray) (Y1 : List Int) (p3 : Nat) (hi : i ≤ 10) (hm : m ≤ 1000) (hs : 4 ≤ sz ∧ sz ≤ 1000) (hsq : 0 ≤ sq ∧ sq < 1048575)
    (nn : CallOK Try.prog 46 [.ptr 0 0 0 0, I 1048575] [(0, .blk 139 [.sl 1 0 1 m none, I p]), (1, .ro 1 z.length (rowG encI z))] (I sq) [(0, some (.blk 139 [.sl 1 0 1 m none, I p1]))])
    (wd : CallOK Try.prog 47 [.ptr 0 0 0 0, .sl 2 0 1 5 none] [(0, .blk 139 [.sl 1 0 1 m none, I p1]), (1, .ro 1 z.length (rowG encI z)), (2, .ro 1 5 (rowsOf btA 1))] (S t) [(0, some (.blk 139 [.sl 1 0 1 m none, I p2]))])
    (pr : CallOK Try.prog 80 [.sl 0 0 1 sz none, I (1 + sq), S t] [(0, .ro 1 sz (rowG encU Y))] (.tup [.sl 10 0 1 sz none, I 0]) [(10, some (.vec 22 1 sz (rowG encU Y1)))])
    (n4 : CallOK Try.prog 46 [.ptr 0 0 0 0, I 4] [(0, .blk 139 [.sl 1 0 1 m none, I p2]), (1, .ro 1 z.length (rowG encI z))] (I 0) [(0, some (.blk 139 [.sl 1 0 1 m none, I p3]))])
    (ih : blG z m p0 sz Y' p' (blS z m p3 sz i Y1)) : blG z m p0 sz Y' p' (blS z m p sz (i + 1) Y) := by
  have h1 : ((i : Int) + 1) > 0 := by omega
  have ei : ((i + 1 : Nat) : Int) = (i : Int) + 1 := by omega
  have e2 : (i : Int) + 1 - 1 = (i : Int) := by omega
  unfold blG blS
  rw [ei]
  refine Safe.goto mixed 21 [⟨1100, [(1, .tt true)]⟩, ⟨1200, [(2, .call [0, 1] (I sq) [(0, some (.blk 139 [.sl 1 0 1 m none, I ↑p1]))]), (6, .call [0, 1, 21] (S t) [(0, some (.blk 139 [.sl 1 0 1 m none, I ↑p2]))]), (7, .call [20] (.tup [.sl 1285 0 1 sz none, I 0]) [(1285, some (.vec 22 1 sz (fun q => renL [(0, 20), (10, 1285)] (rowG encU Y1 q))))])]⟩, ⟨1300, []⟩, ⟨1400, []⟩, ⟨1500, [(1, .call [0, 1] (I 0) [(0, some (.blk 139 [.sl 1 0 1 m none, I ↑p3]))])]⟩, ⟨1600, []⟩] [0, 1, 5, 6, 7] [0, 1, 1285, 21] (todo' := loopAt Try.f43 0) (sl := slotsOf 67 [(0, .ptr 0 0 0 0), (1, I ↑sz), (5, .sl 1285 0 1 sz none), (6, .sl 21 0 1 5 none), (7, I ((↑i : Int) + (1 : Int) - (1 : Int)))]) (hp := [(0, .blk 139 [.sl 1 0 1 m none, I ↑p3]), (1, .ro 1 z.length (rowG encI z)), (1285, .vec 22 1 sz (fun q => renL [(0, 20), (10, 1285)] (rowG encU Y1 q))), (21, .vec 9 1 5 (rowsOf [AV.val (Value.string (ByteArray.mk #[])), AV.val (Value.string (ByteArray.mk #[97])), AV.val (Value.string (ByteArray.mk #[101, 105, 103, 104, 116, 32, 98, 121])), AV.val (Value.string (ByteArray.mk #[115, 111, 109, 101, 32, 108, 111, 110, 103, 101, 114, 32, 116, 101, 120, 116, 32, 111, 102, 32, 116, 104, 101, 32, 103, 114, 111, 117, 112])), AV.val (Value.string (ByteArray.mk #[118, 103, 32, 123, 32, 115, 101, 113, 32, 61, 32, 49, 32, 125]))] 1))]) (ob := [decide ((↑i : Int) + (1 : Int) > (0 : Int)) = true, CallOK Try.prog 46 ([] ++ [.ptr 0 0 0 0, ofV (Value.int IntKind.i64 (1048575 : Int))] ++ []) [(0, .blk 139 [.sl 1 0 1 m none, I ↑p]), (1, .ro 1 z.length (rowG encI z))] (I sq) [(0, some (.blk 139 [.sl 1 0 1 m none, I ↑p1]))], inK IntKind.i64 ((1 : Int) + sq), CallOK Try.prog 47 ([] ++ [.ptr 0 0 0 0, .sl 21 0 1 5 none] ++ []) [(0, .blk 139 [.sl 1 0 1 m none, I ↑p1]), (1, .ro 1 z.length (rowG encI z)), (21, .vec 9 1 5 (rowsOf [AV.val (Value.string (ByteArray.mk #[])), AV.val (Value.string (ByteArray.mk #[97])), AV.val (Value.string (ByteArray.mk #[101, 105, 103, 104, 116, 32, 98, 121])), AV.val (Value.string (ByteArray.mk #[115, 111, 109, 101, 32, 108, 111, 110, 103, 101, 114, 32, 116, 101, 120, 116, 32, 111, 102, 32, 116, 104, 101, 32, 103, 114, 111, 117, 112])), AV.val (Value.string (ByteArray.mk #[118, 103, 32, 123, 32, 115, 101, 113, 32, 61, 32, 49, 32, 125]))] 1))] (AV.val (Value.string t)) [(0, some (.blk 139 [.sl 1 0 1 m none, I ↑p2]))], CallOK Try.prog 80 ([] ++ [.sl 20 0 1 sz none, I ((1 : Int) + sq), AV.val (Value.string t)] ++ []) [(20, .vec 22 1 sz (rowG encU Y))] (.tup [.sl 1285 0 1 sz none, I 0]) [(1285, some (.vec 22 1 sz fun q => renL [(0, 20), (10, 1285)] (rowG encU Y1 q)))], CallOK Try.prog 46 ([] ++ [.ptr 0 0 0 0, ofV (Value.int IntKind.i64 (4 : Int))] ++ []) [(0, .blk 139 [.sl 1 0 1 m none, I ↑p2]), (1, .ro 1 z.length (rowG encI z))] (I 0) [(0, some (.blk 139 [.sl 1 0 1 m none, I ↑p3]))], inK IntKind.i64 ((↑i : Int) + (1 : Int) - (1 : Int))]) rfl rfl (by kernel_rfl) ⟨(decide_eq_true h1), nn, (by simp only [inK]; omega), (CallOK.simR (CallOK.ren (CallOK.own 9 2 (es := 1) (n := 5) (row := rowsOf btA 1) rfl rfl rfl wd) [(0, 0), (2, 21), (1, 1)] [0, 2, 1] rfl rfl rfl rfl ⟨rfl, rfl, rfl, fun _ => rfl, rfl, closed_rows rfl, trivial⟩ rfl ⟨rfl, rfl, rfl, fun _ => rfl, rfl, closed_rows rfl, trivial⟩) (HpSim.cons rfl (OSim.refl _) (HpSim.cons rfl (OSim.refl _) (HpSim.cons rfl (OSim.rowsV rfl) HpSim.nil)))), (CallOK.ren (CallOK.own 22 0 (es := 1) (n := sz) (row := rowG encU Y) rfl rfl rfl pr) [(0, 20), (10, 1285)] [0, 10] rfl rfl rfl rfl ⟨rfl, fun _ => rfl, trivial⟩ rfl ⟨rfl, fun _ => rfl, rfl, fun _ => rfl, trivial⟩), n4, (by simp only [inK]; omega), trivial⟩ rfl ⟨rfl, rfl, rfl, fun _ => rfl, rfl, closed_renN (fun _ => rfl), rfl, closed_rows rfl, trivial⟩ ?_
  refine Safe.ren [(1285, 20)] rfl rfl rfl rfl ⟨rfl, rfl, rfl, fun _ => rfl, rfl, closed_renN (fun _ => rfl), rfl, closed_rows rfl, trivial⟩ ?_
  · rw [e2]
    exact Safe.leH ih rfl (SlLe.refl _) ⟨ObLe.refl _, ObLe.refl _, ⟨rfl, rfl, rfl, fun _ _ => rfl⟩, ⟨rfl, rfl, rfl, fun q hq => (renL_rowsOf _ _ _ _).trans rfl⟩, trivial⟩ rfl ⟨rfl, rfl, rfl, fun _ => rfl, rfl, fun _ => rfl, rfl, closed_rows rfl, trivial⟩
theorem bl_ok1 (z : List Int) (m p0 p p1 p2 sz i : Nat) (Y Y' : List Int) (p' : Nat) (sq : Int) (t : ByteArray) (Y1 : List Int) (p3 : Nat) (hw1 : Wf Y1) (hY1 : Y1.length = sz) (x : Int) (hx : 1 ≤ x) (hi : i ≤ 10) (hm : m ≤ 1000) (hs : 4 ≤ sz ∧ sz ≤ 1000) (hsq : 0 ≤ sq ∧ sq < 1048575)
    (nn : CallOK Try.prog 46 [.ptr 0 0 0 0, I 1048575] [(0, .blk 139 [.sl 1 0 1 m none, I p]), (1, .ro 1 z.length (rowG encI z))] (I sq) [(0, some (.blk 139 [.sl 1 0 1 m none, I p1]))])
    (wd : CallOK Try.prog 47 [.ptr 0 0 0 0, .sl 2 0 1 5 none] [(0, .blk 139 [.sl 1 0 1 m none, I p1]), (1, .ro 1 z.length (rowG encI z)), (2, .ro 1 5 (rowsOf btA 1))] (S t) [(0, some (.blk 139 [.sl 1 0 1 m none, I p2]))])
    (pr : CallOK Try.prog 80 [.sl 0 0 1 sz none, I (1 + sq), S t] [(0, .ro 1 sz (rowG encU Y))] (.tup [.sl 10 0 1 sz none, I 0]) [(10, some (.vec 22 1 sz (rowG encU Y1)))])
    (n4 : CallOK Try.prog 46 [.ptr 0 0 0 0, I 4] [(0, .blk 139 [.sl 1 0 1 m none, I p2]), (1, .ro 1 z.length (rowG encI z))] (I x) [(0, some (.blk 139 [.sl 1 0 1 m none, I p3]))])
    (ih : blG z m p0 sz Y' p' (blS z m p3 sz i (Y1.set 0 (Y1.getD 1 default)))) : blG z m p0 sz Y' p' (blS z m p sz (i + 1) Y) := by
  have h1 : ((i : Int) + 1) > 0 := by omega
  have ei : ((i + 1 : Nat) : Int) = (i : Int) + 1 := by omega
  have e2 : (i : Int) + 1 - 1 = (i : Int) := by omega
  have w8 := hw1.at 1
  have hx0 : x > 0 := by omega
  have hset : ObLe (.vec 22 1 sz (setRow (rowG encU Y1) 0 [U (Y1.getD 1 default)])) (.vec 22 1 sz (rowG encU (Y1.set 0 (Y1.getD 1 default)))) := ob_setN _ _ _ hY1.symm rfl
  unfold blG blS
  rw [ei]
  refine Safe.goto mixed 21 [⟨1100, [(1, .tt true)]⟩, ⟨1200, [(2, .call [0, 1] (I sq) [(0, some (.blk 139 [.sl 1 0 1 m none, I ↑p1]))]), (6, .call [0, 1, 21] (S t) [(0, some (.blk 139 [.sl 1 0 1 m none, I ↑p2]))]), (7, .call [20] (.tup [.sl 1285 0 1 sz none, I 0]) [(1285, some (.vec 22 1 sz (fun q => renL [(0, 20), (10, 1285)] (rowG encU Y1 q))))])]⟩, ⟨1300, []⟩, ⟨1400, []⟩, ⟨1500, [(1, .call [0, 1] (I x) [(0, some (.blk 139 [.sl 1 0 1 m none, I ↑p3]))]), (2, .tt true)]⟩, ⟨1600, []⟩, ⟨1700, []⟩] [0, 1, 5, 6, 7] [0, 1, 1285, 21] (todo' := loopAt Try.f43 0) (sl := slotsOf 67 [(0, .ptr 0 0 0 0), (1, I ↑sz), (5, .sl 1285 0 1 sz none), (6, .sl 21 0 1 5 none), (7, I ((↑i : Int) + (1 : Int) - (1 : Int)))]) (hp := [(0, .blk 139 [.sl 1 0 1 m none, I ↑p3]), (1, .ro 1 z.length (rowG encI z)), (1285, .vec 22 1 sz (setRow (fun q => renL [(0, 20), (10, 1285)] (rowG encU Y1 q)) 0 [U (Y1.getD 1 default)])), (21, .vec 9 1 5 (rowsOf [AV.val (Value.string (ByteArray.mk #[])), AV.val (Value.string (ByteArray.mk #[97])), AV.val (Value.string (ByteArray.mk #[101, 105, 103, 104, 116, 32, 98, 121])), AV.val (Value.string (ByteArray.mk #[115, 111, 109, 101, 32, 108, 111, 110, 103, 101, 114, 32, 116, 101, 120, 116, 32, 111, 102, 32, 116, 104, 101, 32, 103, 114, 111, 117, 112])), AV.val (Value.string (ByteArray.mk #[118, 103, 32, 123, 32, 115, 101, 113, 32, 61, 32, 49, 32, 125]))] 1))]) (ob := [decide ((↑i : Int) + (1 : Int) > (0 : Int)) = true, CallOK Try.prog 46 ([] ++ [.ptr 0 0 0 0, ofV (Value.int IntKind.i64 (1048575 : Int))] ++ []) [(0, .blk 139 [.sl 1 0 1 m none, I ↑p]), (1, .ro 1 z.length (rowG encI z))] (I sq) [(0, some (.blk 139 [.sl 1 0 1 m none, I ↑p1]))], inK IntKind.i64 ((1 : Int) + sq), CallOK Try.prog 47 ([] ++ [.ptr 0 0 0 0, .sl 21 0 1 5 none] ++ []) [(0, .blk 139 [.sl 1 0 1 m none, I ↑p1]), (1, .ro 1 z.length (rowG encI z)), (21, .vec 9 1 5 (rowsOf [AV.val (Value.string (ByteArray.mk #[])), AV.val (Value.string (ByteArray.mk #[97])), AV.val (Value.string (ByteArray.mk #[101, 105, 103, 104, 116, 32, 98, 121])), AV.val (Value.string (ByteArray.mk #[115, 111, 109, 101, 32, 108, 111, 110, 103, 101, 114, 32, 116, 101, 120, 116, 32, 111, 102, 32, 116, 104, 101, 32, 103, 114, 111, 117, 112])), AV.val (Value.string (ByteArray.mk #[118, 103, 32, 123, 32, 115, 101, 113, 32, 61, 32, 49, 32, 125]))] 1))] (AV.val (Value.string t)) [(0, some (.blk 139 [.sl 1 0 1 m none, I ↑p2]))], CallOK Try.prog 80 ([] ++ [.sl 20 0 1 sz none, I ((1 : Int) + sq), AV.val (Value.string t)] ++ []) [(20, .vec 22 1 sz (rowG encU Y))] (.tup [.sl 1285 0 1 sz none, I 0]) [(1285, some (.vec 22 1 sz fun q => renL [(0, 20), (10, 1285)] (rowG encU Y1 q)))], CallOK Try.prog 46 ([] ++ [.ptr 0 0 0 0, ofV (Value.int IntKind.i64 (4 : Int))] ++ []) [(0, .blk 139 [.sl 1 0 1 m none, I ↑p2]), (1, .ro 1 z.length (rowG encI z))] (I x) [(0, some (.blk 139 [.sl 1 0 1 m none, I ↑p3]))], decide (x > (0 : Int)) = true, (0 : Int) ≤ (1 : Int) ∧ (1 : Int) < (↑sz : Int), 1 < sz, (0 : Int) ≤ (0 : Int) ∧ (0 : Int) < (↑sz : Int), 0 < sz, inK IntKind.i64 ((↑i : Int) + (1 : Int) - (1 : Int))]) rfl rfl (by kernel_rfl) ⟨(decide_eq_true h1), nn, (by simp only [inK]; omega), (CallOK.simR (CallOK.ren (CallOK.own 9 2 (es := 1) (n := 5) (row := rowsOf btA 1) rfl rfl rfl wd) [(0, 0), (2, 21), (1, 1)] [0, 2, 1] rfl rfl rfl rfl ⟨rfl, rfl, rfl, fun _ => rfl, rfl, closed_rows rfl, trivial⟩ rfl ⟨rfl, rfl, rfl, fun _ => rfl, rfl, closed_rows rfl, trivial⟩) (HpSim.cons rfl (OSim.refl _) (HpSim.cons rfl (OSim.refl _) (HpSim.cons rfl (OSim.rowsV rfl) HpSim.nil)))), (CallOK.ren (CallOK.own 22 0 (es := 1) (n := sz) (row := rowG encU Y) rfl rfl rfl pr) [(0, 20), (10, 1285)] [0, 10] rfl rfl rfl rfl ⟨rfl, fun _ => rfl, trivial⟩ rfl ⟨rfl, fun _ => rfl, rfl, fun _ => rfl, trivial⟩), n4, (decide_eq_true hx0), (by omega), (by omega), (by omega), (by omega), (by simp only [inK]; omega), trivial⟩ rfl ⟨rfl, rfl, rfl, fun _ => rfl, rfl, closed_set (closed_renN (fun _ => rfl)) rfl, rfl, closed_rows rfl, trivial⟩ ?_
  refine Safe.ren [(1285, 20)] rfl rfl rfl rfl ⟨rfl, rfl, rfl, fun _ => rfl, rfl, closed_set (closed_renN (fun _ => rfl)) rfl, rfl, closed_rows rfl, trivial⟩ ?_
  · rw [e2]
    refine Safe.leH ih rfl (SlLe.refl _) ⟨ObLe.refl _, ObLe.refl _, ?_, ⟨rfl, rfl, rfl, fun q hq => (renL_rowsOf _ _ _ _).trans rfl⟩, trivial⟩ rfl ⟨rfl, rfl, rfl, fun _ => rfl, rfl, fun _ => rfl, rfl, closed_rows rfl, trivial⟩
    obtain ⟨_, _, _, h4⟩ := hset
    refine ⟨rfl, rfl, rfl, fun q hq => Eq.trans ?_ (h4 q hq)⟩
    by_cases e : q = 0
    · subst e; rfl
    · simp only [setRow, if_neg e]; rfl
theorem bl_e2 (z : List Int) (m p0 p p1 p2 p3 sz : Nat) (Y : List Int) (c : Int) (hc : 2 ≤ c) (hm : m ≤ 1000) (hs : 4 ≤ sz ∧ sz ≤ 1000) (hw : Wf Y) (hY : Y.length = sz)
    (n6 : CallOK Try.prog 46 [.ptr 0 0 0 0, I 6] [(0, .blk 139 [.sl 1 0 1 m none, I p]), (1, .ro 1 z.length (rowG encI z))] (I c) [(0, some (.blk 139 [.sl 1 0 1 m none, I p1]))]) : blG z m p0 sz Y p1 (blS z m p sz 0 Y) := by
  have h1 : ¬ ((0 : Nat) : Int) > 0 := by omega
  have hc0 : ¬ c = 0 := by omega
  have hc1 : ¬ c = 1 := by omega
  unfold blG blS
  refine Safe.gotoE mixed 19 [⟨1100, []⟩, ⟨1200, [(1, .call [0, 1] (I c) [(0, some (.blk 139 [.sl 1 0 1 m none, I ↑p1]))])]⟩, ⟨1300, [(0, .tt false)]⟩, ⟨1400, [(0, .tt false)]⟩, ⟨1500, []⟩] [4] [0, 1, 20] (sl := slotsOf 67 [(4, .sl 20 0 1 sz none)]) (hp := [(0, .blk 139 [.sl 1 0 1 m none, I ↑p1]), (1, .ro 1 z.length (rowG encI z)), (20, .vec 22 1 sz (rowG encU Y))]) (ob := [CallOK Try.prog 46 ([] ++ [.ptr 0 0 0 0, ofV (Value.int IntKind.i64 (6 : Int))] ++ []) [(0, .blk 139 [.sl 1 0 1 m none, I ↑p]), (1, .ro 1 z.length (rowG encI z))] (I c) [(0, some (.blk 139 [.sl 1 0 1 m none, I ↑p1]))], decide (c = (0 : Int)) = false, decide (c = (1 : Int)) = false]) rfl rfl (by kernel_rfl) ⟨n6, (decide_eq_false hc0), (decide_eq_false hc1), trivial⟩ rfl ⟨rfl, rfl, rfl, fun _ => rfl, rfl, fun _ => rfl, trivial⟩ fun td htd => ?_
  refine Safe.ren [(20, 10)] rfl rfl rfl rfl ⟨rfl, rfl, rfl, fun _ => rfl, rfl, fun _ => rfl, trivial⟩ ?_
  refine Safe.endsT Try.func43 htd (r := .sl 10 0 1 sz none) (hp := [(0, .blk 139 [.sl 1 0 1 m none, I ↑p1]), (1, .ro 1 z.length (fun q => renL [(20, 10)] (rowG encI z q))), (10, .vec 22 1 sz (fun q => renL [(20, 10)] (rowG encU Y q)))]) (ob := []) rfl (by kernel_rfl) trivial rfl ⟨ObLe.refl _, ⟨rfl, rfl, fun _ _ => rfl⟩, ⟨rfl, rfl, rfl, fun _ _ => rfl⟩, trivial⟩ ⟨rfl, rfl, rfl, fun _ => rfl, rfl, fun _ => rfl, trivial⟩ rfl
  all_goals skip
theorem bl_e0 (z : List Int) (m p0 p p1 p2 p3 sz : Nat) (Y : List Int) (x s : Nat) (hx : x < sz) (hs2 : s < 64) (hm : m ≤ 1000) (hs : 4 ≤ sz ∧ sz ≤ 1000) (hw : Wf Y) (hY : Y.length = sz)
    (n6 : CallOK Try.prog 46 [.ptr 0 0 0 0, I 6] [(0, .blk 139 [.sl 1 0 1 m none, I p]), (1, .ro 1 z.length (rowG encI z))] (I 0) [(0, some (.blk 139 [.sl 1 0 1 m none, I p1]))])
    (nx : CallOK Try.prog 46 [.ptr 0 0 0 0, I sz] [(0, .blk 139 [.sl 1 0 1 m none, I p1]), (1, .ro 1 z.length (rowG encI z))] (I x) [(0, some (.blk 139 [.sl 1 0 1 m none, I p2]))])
    (n64 : CallOK Try.prog 46 [.ptr 0 0 0 0, I 64] [(0, .blk 139 [.sl 1 0 1 m none, I p2]), (1, .ro 1 z.length (rowG encI z))] (I s) [(0, some (.blk 139 [.sl 1 0 1 m none, I p3]))]) : blG z m p0 sz (Y.set x (bitsV .xor .u64 (Y.getD x default) (1 * 2 ^ s))) p3 (blS z m p sz 0 Y) := by
  have h1 : ¬ ((0 : Nat) : Int) > 0 := by omega
  have w8 := hw.at x
  have hp2 := p64 s hs2
  have hx2 := xor64 (Y.getD x default) (1 * 2 ^ s)
  unfold blG blS
  refine Safe.gotoE mixed 16 [⟨1100, []⟩, ⟨1200, [(1, .call [0, 1] (I 0) [(0, some (.blk 139 [.sl 1 0 1 m none, I ↑p1]))])]⟩, ⟨1300, []⟩, ⟨1400, [(3, .call [0, 1] (I ↑x) [(0, some (.blk 139 [.sl 1 0 1 m none, I ↑p2]))]), (7, .call [0, 1] (I ↑s) [(0, some (.blk 139 [.sl 1 0 1 m none, I ↑p3]))])]⟩, ⟨1500, []⟩] [4] [0, 1, 20] (sl := slotsOf 67 [(4, .sl 20 0 1 sz none)]) (hp := [(0, .blk 139 [.sl 1 0 1 m none, I ↑p3]), (1, .ro 1 z.length (rowG encI z)), (20, .vec 22 1 sz (setRow (rowG encU Y) x [U (bitsV BinOp.xor IntKind.u64 (Y.getD x default) ((1 : Int) * (2 : Int) ^ s))]))]) (ob := [CallOK Try.prog 46 ([] ++ [.ptr 0 0 0 0, ofV (Value.int IntKind.i64 (6 : Int))] ++ []) [(0, .blk 139 [.sl 1 0 1 m none, I ↑p]), (1, .ro 1 z.length (rowG encI z))] (I 0) [(0, some (.blk 139 [.sl 1 0 1 m none, I ↑p1]))], CallOK Try.prog 46 ([] ++ [.ptr 0 0 0 0, I ↑sz] ++ []) [(0, .blk 139 [.sl 1 0 1 m none, I ↑p1]), (1, .ro 1 z.length (rowG encI z))] (I ↑x) [(0, some (.blk 139 [.sl 1 0 1 m none, I ↑p2]))], (0 : Int) ≤ (↑x : Int) ∧ (↑x : Int) < (↑sz : Int), x < sz, CallOK Try.prog 46 ([] ++ [.ptr 0 0 0 0, ofV (Value.int IntKind.i64 (64 : Int))] ++ []) [(0, .blk 139 [.sl 1 0 1 m none, I ↑p2]), (1, .ro 1 z.length (rowG encI z))] (I ↑s) [(0, some (.blk 139 [.sl 1 0 1 m none, I ↑p3]))], (0 : Int) ≤ (↑s : Int) ∧ (↑s : Int) ≤ (↑IntKind.u64.bits : Int), inK IntKind.u64 ((1 : Int) * (2 : Int) ^ s), inK IntKind.u64 (bitsV BinOp.xor IntKind.u64 (Y.getD x default) ((1 : Int) * (2 : Int) ^ s)), (0 : Int) ≤ (↑x : Int) ∧ (↑x : Int) < (↑sz : Int), x < sz]) rfl rfl (by kernel_rfl) ⟨n6, nx, (by omega), (by omega), n64, (by first | decide | (simp only [Go.IntKind.bits]; omega)), (by simp only [inK]; omega), (by simp only [inK]; omega), (by omega), (by omega), trivial⟩ rfl ⟨rfl, rfl, rfl, fun _ => rfl, rfl, closed_set (fun _ => rfl) rfl, trivial⟩ fun td htd => ?_
  refine Safe.ren [(20, 10)] rfl rfl rfl rfl ⟨rfl, rfl, rfl, fun _ => rfl, rfl, closed_set (fun _ => rfl) rfl, trivial⟩ ?_
  refine Safe.endsT Try.func43 htd (r := .sl 10 0 1 sz none) (hp := [(0, .blk 139 [.sl 1 0 1 m none, I ↑p3]), (1, .ro 1 z.length (fun q => renL [(20, 10)] (rowG encI z q))), (10, .vec 22 1 sz (fun q => renL [(20, 10)] (setRow (rowG encU Y) x [U (bitsV BinOp.xor IntKind.u64 (Y.getD x default) ((1 : Int) * (2 : Int) ^ s))] q)))]) (ob := []) rfl (by kernel_rfl) trivial rfl ⟨ObLe.refl _, ⟨rfl, rfl, fun _ _ => rfl⟩, ?_, trivial⟩ ⟨rfl, rfl, rfl, fun _ => rfl, rfl, fun _ => rfl, trivial⟩ rfl
  all_goals exact row_put Y hY _
theorem bl_e1 (z : List Int) (m p0 p p1 p2 p3 sz : Nat) (Y : List Int) (x : Nat) (r : Int) (hx : x < 2) (hm : m ≤ 1000) (hs : 4 ≤ sz ∧ sz ≤ 1000) (hw : Wf Y) (hY : Y.length = sz)
    (n6 : CallOK Try.prog 46 [.ptr 0 0 0 0, I 6] [(0, .blk 139 [.sl 1 0 1 m none, I p]), (1, .ro 1 z.length (rowG encI z))] (I 1) [(0, some (.blk 139 [.sl 1 0 1 m none, I p1]))])
    (nx : CallOK Try.prog 46 [.ptr 0 0 0 0, I 2] [(0, .blk 139 [.sl 1 0 1 m none, I p1]), (1, .ro 1 z.length (rowG encI z))] (I x) [(0, some (.blk 139 [.sl 1 0 1 m none, I p2]))])
    (rw' : CallOK Try.prog 81 [.ptr 0 0 0 0] [(0, .blk 139 [.sl 1 0 1 m none, I p2]), (1, .ro 1 z.length (rowG encI z))] (I r) [(0, some (.blk 139 [.sl 1 0 1 m none, I p3]))]) : blG z m p0 sz (Y.set x (IntKind.u64.wrap (IntKind.u64.wrap r * 11400714819323198485))) p3 (blS z m p sz 0 Y) := by
  have h1 : ¬ ((0 : Nat) : Int) > 0 := by omega
  have w1 := wrap64 r
  have w2 := wrap64 (IntKind.u64.wrap r * 11400714819323198485)
  unfold blG blS
  refine Safe.gotoE mixed 19 [⟨1100, []⟩, ⟨1200, [(1, .call [0, 1] (I 1) [(0, some (.blk 139 [.sl 1 0 1 m none, I ↑p1]))])]⟩, ⟨1300, []⟩, ⟨1400, []⟩, ⟨1500, [(2, .call [0, 1] (I ↑x) [(0, some (.blk 139 [.sl 1 0 1 m none, I ↑p2]))]), (4, .call [0, 1] (I r) [(0, some (.blk 139 [.sl 1 0 1 m none, I ↑p3]))]), (5, .wrap), (6, .wrap)]⟩, ⟨1600, []⟩] [4] [0, 1, 20] (sl := slotsOf 67 [(4, .sl 20 0 1 sz none)]) (hp := [(0, .blk 139 [.sl 1 0 1 m none, I ↑p3]), (1, .ro 1 z.length (rowG encI z)), (20, .vec 22 1 sz (setRow (rowG encU Y) x [U (IntKind.u64.wrap (IntKind.u64.wrap r * (11400714819323198485 : Int)))]))]) (ob := [CallOK Try.prog 46 ([] ++ [.ptr 0 0 0 0, ofV (Value.int IntKind.i64 (6 : Int))] ++ []) [(0, .blk 139 [.sl 1 0 1 m none, I ↑p]), (1, .ro 1 z.length (rowG encI z))] (I 1) [(0, some (.blk 139 [.sl 1 0 1 m none, I ↑p1]))], CallOK Try.prog 46 ([] ++ [.ptr 0 0 0 0, ofV (Value.int IntKind.i64 (2 : Int))] ++ []) [(0, .blk 139 [.sl 1 0 1 m none, I ↑p1]), (1, .ro 1 z.length (rowG encI z))] (I ↑x) [(0, some (.blk 139 [.sl 1 0 1 m none, I ↑p2]))], CallOK Try.prog 81 ([] ++ [.ptr 0 0 0 0] ++ []) [(0, .blk 139 [.sl 1 0 1 m none, I ↑p2]), (1, .ro 1 z.length (rowG encI z))] (I r) [(0, some (.blk 139 [.sl 1 0 1 m none, I ↑p3]))], (0 : Int) ≤ (↑x : Int) ∧ (↑x : Int) < (↑sz : Int), x < sz]) rfl rfl (by kernel_rfl) ⟨n6, nx, rw', (by omega), (by omega), trivial⟩ rfl ⟨rfl, rfl, rfl, fun _ => rfl, rfl, closed_set (fun _ => rfl) rfl, trivial⟩ fun td htd => ?_
  refine Safe.ren [(20, 10)] rfl rfl rfl rfl ⟨rfl, rfl, rfl, fun _ => rfl, rfl, closed_set (fun _ => rfl) rfl, trivial⟩ ?_
  refine Safe.endsT Try.func43 htd (r := .sl 10 0 1 sz none) (hp := [(0, .blk 139 [.sl 1 0 1 m none, I ↑p3]), (1, .ro 1 z.length (fun q => renL [(20, 10)] (rowG encI z q))), (10, .vec 22 1 sz (fun q => renL [(20, 10)] (setRow (rowG encU Y) x [U (IntKind.u64.wrap (IntKind.u64.wrap r * (11400714819323198485 : Int)))] q)))]) (ob := []) rfl (by kernel_rfl) trivial rfl ⟨ObLe.refl _, ⟨rfl, rfl, fun _ _ => rfl⟩, ?_, trivial⟩ ⟨rfl, rfl, rfl, fun _ => rfl, rfl, fun _ => rfl, trivial⟩ rfl
  all_goals exact row_put Y hY _
end Go.Proofs.Ytbgbjgedjmhcaaa
namespace Go.Proofs.Ytbgbjgedjmhcaaa
open Go.RowKit
theorem take_eq_succ (L M : List Int) (k : Nat) (h1 : k < L.length) (h2 : k < M.length) : L.take (k + 1) = M.take (k + 1) ↔ L.take k = M.take k ∧ L.getD k default = M.getD k default := by
  rw [List.take_succ_eq_append_getElem h1, List.take_succ_eq_append_getElem h2, List.getD_eq_getElem?_getD, List.getD_eq_getElem?_getD, List.getElem?_eq_getElem h1, List.getElem?_eq_getElem h2]
  constructor
  · intro h
    have := List.append_inj' h rfl
    exact ⟨this.1, by simpa using this.2⟩
  · rintro ⟨h1, h2⟩
    have h3 : L[k] = M[k] := h2
    rw [h1, h3]
theorem len_ne {L M : List Int} (h : ¬ (L.length : Int) = M.length) : ¬ L = M := fun e => h (by rw [e])
theorem same_any (L M : List Int) (hl : L.length ≤ 1000000) (hm : M.length ≤ 1000000) : CallOK Try.prog 16 [.sl 0 0 1 L.length none, .sl 1 0 1 M.length none] [(0, .ro 1 L.length (rowG encU L)), (1, .ro 1 M.length (rowG encU M))] (B (decide (L = M))) [] := by
  refine CallOK.intro Try.call16 Try.func16 rfl rfl ⟨rfl, fun _ => rfl, rfl, fun _ => rfl, trivial⟩ ?_
  refine Safe.withLoop (loopAt Try.f16 0) [0, 1] 26 (fun k : Nat => [(0, .sl 0 0 1 L.length none), (1, .sl 1 0 1 M.length none), (5, I k)]) (fun k => [(0, .ro 1 L.length (rowG encU L)), (1, .ro 1 M.length (rowG encU M))]) (fun k => L.length = M.length ∧ k ≤ L.length ∧ L.take k = M.take k) (fun k => L.length - k) ?_ ?_
  · rintro k ⟨h1, h2, h3⟩ ih
    have hs := take_eq_succ L M k
    refine (Classical.em ((↑k : Int) < (↑L.length : Int))).elim (fun hc1 => ?ga0) (fun hc1 => ?gb0)
    case' gb0 =>
      refine Safe.ends mixed Try.func16 7 [⟨1100, [(3, .tt false)]⟩, ⟨1200, []⟩] (r := B true) (hp := [(0, .ro 1 L.length (rowG encU L)), (1, .ro 1 M.length (rowG encU M))]) (ob := [decide ((↑k : Int) < (↑L.length : Int)) = false]) rfl (by kernel_rfl) ⟨(decide_eq_false hc1), trivial⟩ ?_ ⟨ObLe.refl _, ObLe.refl _, trivial⟩ ⟨rfl, fun _ => rfl, rfl, fun _ => rfl, trivial⟩ rfl
    case' ga0 =>
      refine (Classical.em (¬L.getD k default = M.getD k default)).elim (fun hc2 => ?ga1) (fun hc2 => ?gb1)
      case' gb1 =>
        refine Safe.goto mixed 14 [⟨1100, [(3, .tt true)]⟩, ⟨1200, [(8, .tt false)]⟩, ⟨1300, []⟩] [0, 1, 5] [0, 1] (todo' := loopAt Try.f16 0) (sl := slotsOf 26 [(0, .sl 0 0 1 L.length none), (1, .sl 1 0 1 M.length none), (5, I ((↑k : Int) + (1 : Int)))]) (hp := [(0, .ro 1 L.length (rowG encU L)), (1, .ro 1 M.length (rowG encU M))]) (ob := [decide ((↑k : Int) < (↑L.length : Int)) = true, (0 : Int) ≤ (↑k : Int) ∧ (↑k : Int) < (↑L.length : Int), k < L.length, (0 : Int) ≤ (↑k : Int) ∧ (↑k : Int) < (↑M.length : Int), k < M.length, (decide ¬L.getD k default = M.getD k default) = false, inK IntKind.i64 ((↑k : Int) + (1 : Int))]) rfl rfl (by kernel_rfl) ⟨(decide_eq_true hc1), (by omega), (by omega), (by omega), (by omega), (decide_eq_false hc2), (by simp only [inK]; omega), trivial⟩ rfl ⟨rfl, fun _ => rfl, rfl, fun _ => rfl, trivial⟩ ?_
      case' ga1 =>
        refine Safe.ends mixed Try.func16 12 [⟨1100, [(3, .tt true)]⟩, ⟨1200, [(8, .tt true)]⟩, ⟨1300, []⟩] (r := B false) (hp := [(0, .ro 1 L.length (rowG encU L)), (1, .ro 1 M.length (rowG encU M))]) (ob := [decide ((↑k : Int) < (↑L.length : Int)) = true, (0 : Int) ≤ (↑k : Int) ∧ (↑k : Int) < (↑L.length : Int), k < L.length, (0 : Int) ≤ (↑k : Int) ∧ (↑k : Int) < (↑M.length : Int), k < M.length, (decide ¬L.getD k default = M.getD k default) = true]) rfl (by kernel_rfl) ⟨(decide_eq_true hc1), (by omega), (by omega), (by omega), (by omega), (decide_eq_true hc2), trivial⟩ ?_ ⟨ObLe.refl _, ObLe.refl _, trivial⟩ ⟨rfl, fun _ => rfl, rfl, fun _ => rfl, trivial⟩ rfl
    · skip
      have hb : ¬ L = M := fun e => hc2 (by rw [e])
      show B _ = B _
      rw [decide_eq_false hb]
    · exact ih (k + 1) ⟨h1, by omega, (hs (by omega) (by omega)).2 ⟨h3, Classical.not_not.1 hc2⟩⟩ (by omega)
    · show B _ = B _
      rw [List.take_of_length_le (by omega), List.take_of_length_le (by omega)] at h3
      rw [decide_eq_true h3]
  · intro H
    refine (Classical.em (¬(↑L.length : Int) = (↑M.length : Int))).elim (fun hc1 => ?ga2) (fun hc1 => ?gb2)
    case' gb2 =>
      refine Safe.goto mixed 12 [⟨1100, []⟩, ⟨1200, [(4, .tt false)]⟩, ⟨1300, []⟩] [0, 1, 5] [0, 1] (todo' := loopAt Try.f16 0) (sl := slotsOf 26 [(0, .sl 0 0 1 L.length none), (1, .sl 1 0 1 M.length none), (5, I 0)]) (hp := [(0, .ro 1 L.length (rowG encU L)), (1, .ro 1 M.length (rowG encU M))]) (ob := [(decide ¬(↑L.length : Int) = (↑M.length : Int)) = false]) rfl rfl (by kernel_rfl) ⟨(decide_eq_false hc1), trivial⟩ rfl ⟨rfl, fun _ => rfl, rfl, fun _ => rfl, trivial⟩ ?_
    case' ga2 =>
      refine Safe.ends mixed Try.func16 8 [⟨1100, []⟩, ⟨1200, [(4, .tt true)]⟩, ⟨1300, []⟩] (r := B false) (hp := [(0, .ro 1 L.length (rowG encU L)), (1, .ro 1 M.length (rowG encU M))]) (ob := [(decide ¬(↑L.length : Int) = (↑M.length : Int)) = true]) rfl (by kernel_rfl) ⟨(decide_eq_true hc1), trivial⟩ ?_ ⟨ObLe.refl _, ObLe.refl _, trivial⟩ ⟨rfl, fun _ => rfl, rfl, fun _ => rfl, trivial⟩ rfl
    · show B _ = B _
      rw [decide_eq_false (len_ne hc1)]
    · exact H 0 ⟨by omega, Nat.zero_le _, rfl⟩
end Go.Proofs.Ytbgbjgedjmhcaaa
namespace Go.Proofs.Ytbgbjgedjmhcaaa
open Go.RowKit
open OldD (Dk chk3 chk4 rdV wrE wrK flK gu ge)
theorem set_wf {Y : List Int} (h : Wf Y) {i : Nat} {x : Int} (hx : 0 ≤ x ∧ x ≤ 18446744073709551615) : Wf (Y.set i x) := fun z hz => by
  rcases List.mem_or_eq_of_mem_set hz with h1 | h1
  · exact h z h1
  · rw [h1]; exact hx
theorem nat_of {x : Int} (h : 0 ≤ x) : ∃ n : Nat, x = (n : Int) := ⟨x.toNat, by omega⟩
theorem built_loop (z : List Int) (m p0 sz : Nat) (hm : m ≤ 1000) (hz : m ≤ z.length) (hs : 4 ≤ sz ∧ sz ≤ 1000) : ∀ (i p : Nat) (Y : List Int), i ≤ 10 → p ≤ m → Wf Y → Y.length = sz →
    ∃ (Y' : List Int) (p' : Nat), Wf Y' ∧ Y'.length = sz ∧ p' ≤ m ∧ blG z m p0 sz Y' p' (blS z m p sz i Y)
  | 0, p, Y, hi, hp, hw, hY => by
    have n6 := n_any z m p 6 hm hz hp (by omega)
    have b6 := nV_bd z m p 6 (by omega)
    have a6 := (nA_bd m p 6 hp).2
    generalize nA m p 6 = p1 at n6 a6
    generalize nV z m p 6 = c at n6 b6
    by_cases h0 : c = 0
    · subst h0
      have nx := n_any z m p1 (sz : Int) hm hz a6 (by omega)
      have bx := nV_bd z m p1 (sz : Int) (by omega)
      have ax := (nA_bd m p1 (sz : Int) a6).2
      generalize nA m p1 (sz : Int) = p2 at nx ax
      obtain ⟨x, hx⟩ := nat_of bx.1
      rw [hx] at nx bx
      have n64 := n_any z m p2 64 hm hz ax (by omega)
      have b64 := nV_bd z m p2 64 (by omega)
      have a64 := (nA_bd m p2 64 ax).2
      obtain ⟨s, hs2⟩ := nat_of b64.1
      rw [hs2] at n64 b64
      exact ⟨_, _, set_wf hw (xor64 _ _), by rw [List.length_set]; exact hY, a64, bl_e0 z m p0 p p1 p2 _ sz Y x s (by omega) (by omega) hm hs hw hY n6 nx n64⟩
    · by_cases h1 : c = 1
      · subst h1
        have nx := n_any z m p1 2 hm hz a6 (by omega)
        have bx := nV_bd z m p1 2 (by omega)
        have ax := (nA_bd m p1 2 a6).2
        generalize nA m p1 2 = p2 at nx ax
        obtain ⟨x, hx⟩ := nat_of bx.1
        rw [hx] at nx bx
        have rw' := raw1_any z m p2 hm hz ax
        have ar : rawA m p2 ≤ m := by unfold rawA; split <;> omega
        exact ⟨_, _, set_wf hw (wrap64 _), by rw [List.length_set]; exact hY, ar, bl_e1 z m p0 p p1 p2 _ sz Y x _ (by omega) hm hs hw hY n6 nx rw'⟩
      · exact ⟨_, _, hw, hY, a6, bl_e2 z m p0 p p1 0 0 sz Y c (by omega) hm hs hw hY n6⟩
  | i + 1, p, Y, hi, hp, hw, hY => by
    have nn := n_any z m p 1048575 hm hz hp (by omega)
    have bn := nV_bd z m p 1048575 (by omega)
    have an := (nA_bd m p 1048575 hp).2
    generalize nA m p 1048575 = p1 at nn an
    generalize nV z m p 1048575 = sq at nn bn
    have wd := wordB z m p1 hm hz an
    have ht := bts_size (nV z m p1 5).toNat
    have aw := (nA_bd m p1 5 an).2
    generalize nA m p1 5 = p2 at wd aw
    generalize bts.getD (nV z m p1 5).toNat default = t at wd ht
    rcases rprep_any Y (1 + sq) t (by rw [hY]; exact hs) hw (by omega) (by omega) with ⟨e, he, pr⟩ | ⟨Y1, hw1, hY1, pr⟩
    · obtain ⟨Y', p', r1, r2, r3, r4⟩ := built_loop z m p0 sz hm hz hs i p2 Y (by omega) aw hw hY
      rw [hY] at pr
      exact ⟨Y', p', r1, r2, r3, bl_err z m p0 p p1 p2 sz i Y Y' p' sq t e he (by omega) hm hs bn nn wd pr r4⟩
    · rw [hY] at pr hY1
      have n4 := n_any z m p2 4 hm hz aw (by omega)
      have b4 := nV_bd z m p2 4 (by omega)
      have a4 := (nA_bd m p2 4 aw).2
      generalize nA m p2 4 = p3 at n4 a4
      generalize nV z m p2 4 = x at n4 b4
      by_cases h0 : x = 0
      · subst h0
        obtain ⟨Y', p', r1, r2, r3, r4⟩ := built_loop z m p0 sz hm hz hs i p3 Y1 (by omega) a4 hw1 hY1
        exact ⟨Y', p', r1, r2, r3, bl_ok0 z m p0 p p1 p2 sz i Y Y' p' sq t Y1 p3 (by omega) hm hs bn nn wd pr n4 r4⟩
      · obtain ⟨Y', p', r1, r2, r3, r4⟩ := built_loop z m p0 sz hm hz hs i p3 (Y1.set 0 (Y1.getD 1 default)) (by omega) a4 (set_wf hw1 (hw1.at 1)) (by rw [List.length_set]; exact hY1)
        exact ⟨Y', p', r1, r2, r3, bl_ok1 z m p0 p p1 p2 sz i Y Y' p' sq t Y1 p3 hw1 hY1 x (by omega) (by omega) hm hs bn nn wd pr n4 r4⟩
theorem built_any (z : List Int) (m p sz : Nat) (hm : m ≤ 1000) (hz : m ≤ z.length) (hp : p ≤ m) (hs : 4 ≤ sz ∧ sz ≤ 1000) :
    ∃ (Y : List Int) (p' : Nat), Wf Y ∧ Y.length = sz ∧ p' ≤ m ∧ CallOK Try.prog 43 [.ptr 0 0 0 0, I sz] [(0, .blk 139 [.sl 1 0 1 m none, I p]), (1, .ro 1 z.length (rowG encI z))] (.sl 10 0 1 sz none) [(0, some (.blk 139 [.sl 1 0 1 m none, I p'])), (10, some (.vec 22 1 sz (rowG encU Y)))] := by
  have n5 := n_any z m p 5 hm hz hp (by omega)
  have b5 := nV_bd z m p 5 (by omega)
  have a5 := (nA_bd m p 5 hp).2
  generalize nA m p 5 = p1 at n5 a5
  obtain ⟨i, hi⟩ := nat_of b5.1
  rw [hi] at n5 b5
  obtain ⟨Y', p', r1, r2, r3, r4⟩ := built_loop z m p sz hm hz hs i p1 (List.replicate sz 0) (by omega) a5 (fun x hx => by rw [(List.mem_replicate.1 hx).2]; omega) (by simp)
  refine ⟨Y', p', r1, r2, r3, ?_⟩
  have hr : ∀ q, q < sz → rowG encU (List.replicate sz 0) q = [U 0] := fun q hq => by
    show [U ((List.replicate sz 0).getD q default)] = [U 0]
    rw [List.getD_eq_getElem?_getD, List.getElem?_replicate, if_pos hq]; rfl
  unfold blG blS at r4
  refine CallOK.intro Try.call43 Try.func43 rfl rfl ⟨rfl, rfl, rfl, fun _ => rfl, trivial⟩ ?_
  refine Safe.goto mixed 11 [⟨1100, []⟩, ⟨1200, []⟩, ⟨1300, []⟩, ⟨1400, [(1, .call [0, 1] (I ↑i) [(0, some (.blk 139 [.sl 1 0 1 m none, I ↑p1]))])]⟩] [0, 1, 5, 6, 7] [0, 1, 1201, 1300] (todo' := loopAt Try.f43 0) (sl := slotsOf 67 [(0, .ptr 0 0 0 0), (1, I ↑sz), (5, .sl 1201 0 1 sz none), (6, .sl 1300 0 1 5 none), (7, I ↑i)]) (hp := [(0, .blk 139 [.sl 1 0 1 m none, I ↑p1]), (1, .ro 1 z.length (rowG encI z)), (1201, .vec 22 1 sz (fun x => List.map AV.val (Value.int IntKind.u64 (0 : Int)).cells.toList)), (1300, .vec 9 1 5 (rowsOf [AV.val (Value.string (ByteArray.mk #[])), AV.val (Value.string (ByteArray.mk #[97])), AV.val (Value.string (ByteArray.mk #[101, 105, 103, 104, 116, 32, 98, 121])), AV.val (Value.string (ByteArray.mk #[115, 111, 109, 101, 32, 108, 111, 110, 103, 101, 114, 32, 116, 101, 120, 116, 32, 111, 102, 32, 116, 104, 101, 32, 103, 114, 111, 117, 112])), AV.val (Value.string (ByteArray.mk #[118, 103, 32, 123, 32, 115, 101, 113, 32, 61, 32, 49, 32, 125]))] 1))]) (ob := [(0 : Int) ≤ (↑sz : Int) ∧ (↑sz : Int) ≤ (↑sz : Int) ∧ (↑sz : Int) ≤ (1099511627776 : Int), CallOK Try.prog 46 ([] ++ [.ptr 0 0 0 0, ofV (Value.int IntKind.i64 (5 : Int))] ++ []) [(0, .blk 139 [.sl 1 0 1 m none, I ↑p]), (1, .ro 1 z.length (rowG encI z))] (I ↑i) [(0, some (.blk 139 [.sl 1 0 1 m none, I ↑p1]))]]) rfl rfl (by kernel_rfl) ⟨(by omega), n5, trivial⟩ rfl ⟨rfl, rfl, rfl, fun _ => rfl, rfl, fun _ => rfl, rfl, closed_rows rfl, trivial⟩ ?_
  refine Safe.ren [(1201, 20), (1300, 21)] rfl rfl rfl rfl ⟨rfl, rfl, rfl, fun _ => rfl, rfl, fun _ => rfl, rfl, closed_rows rfl, trivial⟩ ?_
  · exact Safe.leH r4 rfl (SlLe.refl _) ⟨ObLe.refl _, ObLe.refl _, ⟨rfl, rfl, rfl, fun q hq => (hr q hq).symm⟩, ⟨rfl, rfl, rfl, fun q hq => (renL_rowsOf _ _ _ _).trans rfl⟩, trivial⟩ rfl ⟨rfl, rfl, rfl, fun _ => rfl, rfl, fun _ => rfl, rfl, closed_rows rfl, trivial⟩
theorem area_any (X : List Int) (hn : 1 ≤ X.length ∧ X.length ≤ 1000) : CallOK Try.prog 48 [.sl 1 0 1 X.length none] [(1, .ro 1 X.length (rowG encU X))] (.tup [.ptr 10 0 0 0, spn10 X.length]) [(10, some (.box (dbox 0 (dkN [X]))))] := by
  have ld := loadedN1r X hn
  have q0 := dk1_q X
  generalize dkN [X] = k0 at ld q0 ⊢
  have sp := spans1 0 k0 X.length q0.g hn
  clear q0
  refine CallOK.intro Try.call48 Try.func48 rfl rfl ⟨rfl, fun _ => rfl, trivial⟩ ?_
  refine Safe.gotoE mixed 18 [⟨1100, []⟩, ⟨1200, [(2, .call [1201, 1] (.ptr 1260 0 0 0) [(1260, some (.box (dbox 0 k0)))])]⟩, ⟨1300, []⟩, ⟨1400, [(1, .call [1260] (.sl 1455 0 1 1 none) [(1260, some (.box (dbox 0 k0))), (1455, some (.vec 43 1 1 (rowsOf [.ifc 170 (.agg [.ptr 1260 0 0 0, I 0, I 0, I ↑X.length])] 1)))])]⟩, ⟨1500, []⟩, ⟨1600, []⟩] [2, 3] [1, 1260] (sl := slotsOf 20 [(2, .ptr 1260 0 0 0), (3, .ifc 170 (.agg [.ptr 1260 0 0 0, I 0, I 0, I ↑X.length]))]) (hp := [(1, .ro 1 X.length (rowG encU X)), (1260, .box (dbox 0 k0))]) (ob := [CallOK Try.prog 21 ([] ++ [.sl 1201 0 1 1 none] ++ []) [(1201, .vec 25 1 1 (rowsOf [.sl 1 0 1 X.length none] 1)), (1, .ro 1 X.length (rowG encU X))] (.ptr 1260 0 0 0) [(1260, some (.box (dbox 0 k0)))], CallOK Try.prog 22 ([] ++ [.ptr 1260 0 0 0] ++ []) [(1260, .box (dbox 0 k0))] (.sl 1455 0 1 1 none) [(1260, some (.box (dbox 0 k0))), (1455, some (.vec 43 1 1 (rowsOf [.ifc 170 (.agg [.ptr 1260 0 0 0, I 0, I 0, I ↑X.length])] 1)))], (0 : Int) ≤ (0 : Int) ∧ (0 : Int) < (↑(1 : Nat) : Int), 0 < 1]) rfl rfl (by kernel_rfl) ⟨(CallOK.simR (CallOK.ren (CallOK.own 25 1 (es := 1) (n := 1) (row := rowsOf [.sl 2 0 1 X.length none] 1) rfl rfl rfl ld) [(1, 1201), (2, 1), (10, 1260)] [1, 2, 10] rfl rfl rfl rfl ⟨rfl, closed_rows rfl, rfl, fun _ => rfl, trivial⟩ rfl ⟨rfl, closed_rows rfl, rfl, fun _ => rfl, rfl, trivial, trivial⟩) (HpSim.cons rfl (OSim.rowsV rfl) (HpSim.cons rfl (OSim.refl _) HpSim.nil))), (CallOK.simO (CallOK.ren sp [(0, 1260), (10, 1455)] [0, 10] rfl rfl rfl rfl ⟨rfl, trivial, trivial⟩ rfl ⟨rfl, trivial, rfl, closed_rows rfl, trivial⟩) (OutSim.cons (OSim.refl _) (OutSim.cons (OSim.rowsV rfl) OutSim.nil))), (by omega), (by omega), trivial⟩ rfl ⟨rfl, fun _ => rfl, rfl, trivial, trivial⟩ fun td htd => ?_
  refine Safe.ren [(1260, 10)] rfl rfl rfl rfl ⟨rfl, fun _ => rfl, rfl, trivial, trivial⟩ ?_
  refine Safe.endsT Try.func48 htd (r := .tup [.ptr 10 0 0 0, .ifc 170 (.agg [.ptr 10 0 0 0, I 0, I 0, I ↑X.length])]) (hp := [(1, .ro 1 X.length (fun q => renL [(1260, 10)] (rowG encU X q))), (10, .box (dbox 0 k0))]) (ob := []) rfl (by kernel_rfl) trivial rfl ⟨⟨rfl, rfl, fun _ _ => rfl⟩, ObLe.refl _, trivial⟩ ⟨rfl, fun _ => rfl, rfl, trivial, trivial⟩ rfl
theorem unf_q (m : Nat) (k : Dk) {N c : Nat} {v w : Nat → Int} {f : Int} (q : Q1 k N c v w f (fun _ => False)) : CallOK Try.prog 27 [.ptr 0 0 0 0] [(0, .box (dbox m k))] (I 0) [(0, some (.box (dbox m k)))] := by
  have e : k.F = [] := by
    cases h : k.F with
    | nil => rfl
    | cons x l => exact (q.ft x (by rw [h]; simp)).elim
  have u := unfl_c m k
  rw [e] at u
  exact u
theorem img_q {k : Dk} {N c : Nat} {v w : Nat → Int} {f : Int} {T : Nat → Prop} (q : Q1 k N c v w f T) (Y : List Int) (hl : Y.length = N) (h : ∀ t, t < N → v t = Y.getD t default) :
    CallOK Try.prog 26 [.ptr 0 0 0 0, I 0] [(0, .box (dbox 0 k))] (.tup [.sl 10 0 1 N none, I 0]) [(10, some (.vec 22 1 N (rowG encU Y)))] := by
  have e : (gu k.U 0).now = Y := by
    have l := (q.g.ln 0 (by omega)).1
    refine List.ext_getElem (by rw [l, hl]) fun t h1 h2 => ?_
    have e := q.nv t (by omega)
    rw [h t (by omega)] at e
    unfold nw ge at e
    rw [List.getElem?_eq_getElem h1, List.getD_eq_getElem?_getD, List.getElem?_eq_getElem h2] at e
    exact e
  have := image_c 0 k 0 Y e (by rw [q.g.ul]; decide)
  rw [hl] at this
  exact this
theorem same_q (Y : List Int) (N : Nat) (hl : Y.length = N) (hN : N ≤ 1000) : CallOK Try.prog 16 [.sl 0 0 1 N none, .sl 1 0 1 N none] [(0, .ro 1 N (rowG encU Y)), (1, .ro 1 N (rowG encU Y))] (B true) [] := by
  subst hl
  have sm := same_any Y Y (by omega) (by omega)
  rw [decide_eq_true rfl] at sm
  exact sm
theorem clear_q (m : Nat) {k : Dk} {N c : Nat} {v : Nat → Int} (q : Q1 k N c v v 0 (fun _ => False)) (hc : c ≤ 60000) (hN : 4 ≤ N ∧ N ≤ 1000) :
    ∃ k' : Dk, CallOK Try.prog 49 [spn N] [(0, .box (dbox m k))] (I 0) [(0, some (.box (dbox m k')))] ∧ Q1 k' N (c + 1) (updV v 0 0) (updV v 0 0) 0 (fun _ => False) := by
  have h := rclear_ok m k N q.bc (by omega) hN
  rcases put_run q (by omega) 0 (by omega) 0 with ⟨e, f', r, hf⟩ | ⟨hf, _⟩
  · have e' : seqE k [some (0, 0), none] = 0 := e
    rw [e'] at h
    rw [hf rfl] at r
    exact ⟨_, h, r⟩
  · exact absurd rfl hf
theorem format_q (m : Nat) {k : Dk} {N c : Nat} {v : Nat → Int} (q : Q1 k N c v v 0 (fun _ => False)) (hc : c ≤ 60000) (hN : 4 ≤ N ∧ N ≤ 1000) :
    ∃ (k' : Dk) (v' : Nat → Int), CallOK Try.prog 51 [spn N] [(0, .box (dbox m k))] (I 0) [(0, some (.box (dbox m k')))] ∧ Q1 k' N (c + 2) v' v' 0 (fun _ => False) ∧ v' = updV (updV v 1 0) 0 0 := by
  have h := format_ok m k N q.bc (by omega) hN
  have q' : Q1 k N c v v 0 (fun t => t = 0 ∨ t = 1) := ⟨q.g, q.dn, q.fu, q.nv, q.dv, fun x hx => (q.ft x hx).elim⟩
  rcases wsT_run [some (((1 : Nat) : Int), 0), some (((0 : Nat) : Int), 0)] k c v 0 (fun a ha => by
    simp only [List.mem_cons, List.not_mem_nil, or_false] at ha
    rcases ha with rfl | rfl
    · exact ⟨1, 0, rfl, .inr rfl, by omega⟩
    · exact ⟨0, 0, rfl, .inl rfl, by omega⟩) q' with ⟨e, f', r, hf⟩ | ⟨hf, _⟩
  · rw [hf rfl] at r
    obtain ⟨e2, r2⟩ := r.f (by omega)
    have ea := seq_app [some (((1 : Nat) : Int), 0), some (((0 : Nat) : Int), 0)] [none] k
    rw [e, if_pos rfl, if_pos rfl] at ea
    have e3 : seqE k [some (1, 0), some (0, 0), none] = 0 := ea.1.trans (by rw [seqE_cons, show actE _ none = 0 from e2, if_pos rfl]; rfl)
    have e4 : seqK k [some (1, 0), some (0, 0), none] = flK (seqK k [some (((1 : Nat) : Int), 0), some (((0 : Nat) : Int), 0)]) 0 := ea.2.trans (by rw [seqK_cons, show actE _ none = 0 from e2, if_pos rfl]; rfl)
    rw [e3, e4] at h
    exact ⟨_, _, h, r2, rfl⟩
  · exact absurd rfl hf
end Go.Proofs.Ytbgbjgedjmhcaaa
namespace Go.Proofs.Ytbgbjgedjmhcaaa
open Go.RowKit
open OldD (Dk)
theorem same_put (Y : List Int) (N : Nat) (v : Int) (hl : Y.length = N) (hN : N ≤ 1000) : CallOK Try.prog 16 [.sl 0 0 1 N none, .sl 1 0 1 N none] [(0, .ro 1 N (rowG encU (Y.set 0 v))), (1, .ro 1 N (setRow (rowG encU Y) 0 [U v]))] (B true) [] := by
  have sm := same_q (Y.set 0 v) N (by rw [List.length_set]; exact hl) hN
  obtain ⟨_, _, _, h4⟩ := ob_setN (ty := 0) (i := 0) Y v [U v] hl.symm rfl
  refine sm.sim fun id => ?_
  simp only [find]
  split
  · exact OSim.refl _
  · split
    · exact ⟨⟨rfl, rfl, fun q hq => (h4 q hq).symm⟩, ⟨rfl, rfl, fun q hq => h4 q hq⟩⟩
    · exact OSim.refl _
theorem set0_at (Y : List Int) (h : 1 ≤ Y.length) (t : Nat) (ht : t < Y.length) (v : Int) : updV (fun t => Y.getD t default) 0 v t = (Y.set 0 v).getD t default := by
  unfold updV
  by_cases e : t = 0
  · subst e
    rw [if_pos rfl, List.getD_eq_getElem?_getD, List.getElem?_set]
    have h' : 0 < Y.length := h
    simp [h']
  · rw [if_neg e]
    show Y.getD t default = (Y.set 0 v).getD t default
    rw [List.getD_eq_getElem?_getD, List.getD_eq_getElem?_getD, List.getElem?_set_ne (fun h => e h.symm)]
theorem clears_any (z : List Int) (hz : z.length ≤ 9223372036854775807) : CallOK Try.prog 9 [.sl 1 0 1 z.length none] [(1, .ro 1 z.length (rowG encI z))] (B true) [] := by
  have aw := rawake_any
  have nw' := new_any z hz
  obtain ⟨m, hm⟩ : ∃ m, m = min 1000 z.length := ⟨_, rfl⟩
  rw [← hm] at nw'
  have b13 := nV_bd z m 0 13 (by omega)
  have a13 := (nA_bd m 0 13 (by omega)).2
  have rg : CallOK Try.prog 44 [.ptr 0 0 0 0, I 4, I 16] [(0, .blk 139 [.sl 1 0 1 m none, I (0 : Nat)]), (1, .ro 1 z.length (rowG encI z))] (I (4 + nV z m 0 13)) [(0, some (.blk 139 [.sl 1 0 1 m none, I (nA m 0 13)]))] := range_any z m 0 4 16 (by omega) (by omega) (by omega) (by omega) (by omega)
  generalize nA m 0 13 = p1 at rg a13
  obtain ⟨sz, hsz⟩ := nat_of (show 0 ≤ 4 + nV z m 0 13 by omega)
  rw [hsz] at rg
  obtain ⟨Y, p2, hw, hY, hp2, bl⟩ := built_any z m p1 sz (by omega) (by omega) a13 (by omega)
  have ar := area_any Y (by omega)
  have q0 := dk1_q Y
  have vw := lv_vw hw
  rw [hY] at ar q0 vw
  generalize dkN [Y] = k0 at ar q0
  obtain ⟨R, hR⟩ : ∃ R, R + 2 = sz := ⟨sz - 2, by omega⟩
  obtain ⟨k1, cl, q1⟩ := clear_q 0 q0 (by omega) (by omega)
  have vw1 : Vw (updV (fun t => Y.getD t default) 0 0) sz := vw.upd ⟨by decide, by decide⟩
  have im := img_q q1 (Y.set 0 0) (by rw [List.length_set]; exact hY) fun t ht => set0_at Y (by omega) t (by omega) 0
  have rd : CallOK Try.prog 50 [spn sz] [(0, .box (dbox 0 k1))] (.tup [cpy false 0 S0, I 12]) [(0, some (.box (dbox 0 k1)))] := read_q 0 q1 (by omega) hR vw1 (o := none) (show At (updV (fun t => Y.getD t default) 0 0) R 0 none from rfl)
  have sm := same_put Y sz 0 hY (by omega)
  have un1 := unf_q 0 k1 q1
  obtain ⟨k2, v2, fm, q2, rfl⟩ := format_q 0 q1 (by omega) (by omega)
  have sq : CallOK Try.prog 52 [spn sz] [(0, .box (dbox 0 k2))] (.tup [I 0, I 0, I 0]) [(0, some (.box (dbox 0 k2)))] := seqs_q 0 q2 (by omega) ((vw1.upd ⟨by decide, by decide⟩).upd ⟨by decide, by decide⟩) (R := R) (o := none) (p := none) rfl rfl
  have un2 := unf_q 0 k2 q2
  have w8 := hw.at 0
  clear q0 q1 q2 vw vw1
  refine CallOK.intro Try.call9 Try.func9 rfl rfl ⟨rfl, fun _ => rfl, trivial⟩ ?_
  refine Safe.ends mixed Try.func9 28 [⟨1100, []⟩, ⟨1200, [(1, .call [1] (.ptr 1255 0 0 0) [(1255, some (.blk 139 [.sl 1 0 1 m none, I 0]))])]⟩, ⟨1300, [(2, .call [1255, 1] (I ↑sz) [(1255, some (.blk 139 [.sl 1 0 1 m none, I ↑p1]))]), (3, .call [1255, 1] (.sl 1365 0 1 sz none) [(1255, some (.blk 139 [.sl 1 0 1 m none, I ↑p2])), (1365, some (.vec 22 1 sz (fun q => renL [(0, 1255), (1, 1), (10, 1365)] (rowG encU Y q))))])]⟩, ⟨1400, [(1, .call [1365] (.tup [.ptr 1455 0 0 0, .ifc 170 (.agg [.ptr 1455 0 0 0, I 0, I 0, I ↑sz])]) [(1455, some (.box (dbox 0 k0)))])]⟩, ⟨1500, [(4, .call [1455] (I 0) [(1455, some (.box (dbox 0 k1)))])]⟩, ⟨1600, [(1, .call [1455] (.tup [.sl 1655 0 1 sz none, I 0]) [(1655, some (.vec 22 1 sz (fun q => renL [(0, 1455), (10, 1655)] (rowG encU (Y.set 0 (0 : Int)) q))))])]⟩, ⟨1700, []⟩, ⟨1800, [(1, .call [1455] (.tup [.agg [B false, I 0, S (ByteArray.mk #[])], I 12]) [(1455, some (.box (dbox 0 k1)))])]⟩, ⟨1900, [(9, .call [1655, 1365] (B true) []), (14, .call [1455] (I 0) [(1455, some (.box (dbox 0 k1)))]), (19, .call [1455] (I 0) [(1455, some (.box (dbox 0 k2)))])]⟩, ⟨2000, [(1, .call [1455] (.tup [I 0, I 0, I 0]) [(1455, some (.box (dbox 0 k2)))])]⟩, ⟨2100, [(12, .call [1455] (I 0) [(1455, some (.box (dbox 0 k2)))]), (16, .call [] (B true) [])]⟩] (r := B true) (hp := [(1, .ro 1 z.length (rowG encI z))]) (ob := [CallOK Try.prog 42 ([] ++ [.sl 1 0 1 z.length none] ++ []) [(1, .ro 1 z.length (rowG encI z))] (.ptr 1255 0 0 0) [(1255, some (.blk 139 [.sl 1 0 1 m none, I 0]))], CallOK Try.prog 44 ([] ++ [.ptr 1255 0 0 0, ofV (Value.int IntKind.i64 (4 : Int)), ofV (Value.int IntKind.i64 (16 : Int))] ++ []) [(1255, .blk 139 [.sl 1 0 1 m none, I 0]), (1, .ro 1 z.length (rowG encI z))] (I ↑sz) [(1255, some (.blk 139 [.sl 1 0 1 m none, I ↑p1]))], CallOK Try.prog 43 ([] ++ [.ptr 1255 0 0 0, I ↑sz] ++ []) [(1255, .blk 139 [.sl 1 0 1 m none, I ↑p1]), (1, .ro 1 z.length (rowG encI z))] (.sl 1365 0 1 sz none) [(1255, some (.blk 139 [.sl 1 0 1 m none, I ↑p2])), (1365, some (.vec 22 1 sz fun q => renL [(0, 1255), (1, 1), (10, 1365)] (rowG encU Y q)))], CallOK Try.prog 48 ([] ++ [.sl 1365 0 1 sz none] ++ []) [(1365, .vec 22 1 sz fun q => renL [(0, 1255), (1, 1), (10, 1365)] (rowG encU Y q))] (.tup [.ptr 1455 0 0 0, .ifc 170 (.agg [.ptr 1455 0 0 0, I 0, I 0, I ↑sz])]) [(1455, some (.box (dbox 0 k0)))], CallOK Try.prog 49 ([] ++ [.ifc 170 (.agg [.ptr 1455 0 0 0, I 0, I 0, I ↑sz])] ++ []) [(1455, .box (dbox 0 k0))] (I 0) [(1455, some (.box (dbox 0 k1)))], CallOK Try.prog 26 ([] ++ [.ptr 1455 0 0 0, ofV (Value.int IntKind.i64 (0 : Int))] ++ []) [(1455, .box (dbox 0 k1))] (.tup [.sl 1655 0 1 sz none, I 0]) [(1655, some (.vec 22 1 sz fun q => renL [(0, 1455), (10, 1655)] (rowG encU (Y.set 0 (0 : Int)) q)))], (0 : Int) ≤ (0 : Int) ∧ (0 : Int) < (↑sz : Int), 0 < sz, CallOK Try.prog 50 ([] ++ [.ifc 170 (.agg [.ptr 1455 0 0 0, I 0, I 0, I ↑sz])] ++ []) [(1455, .box (dbox 0 k1))] (.tup [.agg [B false, I 0, AV.val (Value.string (ByteArray.mk #[]))], I 12]) [(1455, some (.box (dbox 0 k1)))], CallOK Try.prog 16 ([] ++ [.sl 1655 0 1 sz none, .sl 1365 0 1 sz none] ++ []) [(1655, .vec 22 1 sz fun q => renL [(0, 1455), (10, 1655)] (rowG encU (Y.set 0 (0 : Int)) q)), (1365, .vec 22 1 sz (setRow (fun q => renL [(0, 1255), (1, 1), (10, 1365)] (rowG encU Y q)) 0 [U (0 : Int)]))] (B true) [], CallOK Try.prog 27 ([] ++ [.ptr 1455 0 0 0] ++ []) [(1455, .box (dbox 0 k1))] (I 0) [(1455, some (.box (dbox 0 k1)))], CallOK Try.prog 51 ([] ++ [.ifc 170 (.agg [.ptr 1455 0 0 0, I 0, I 0, I ↑sz])] ++ []) [(1455, .box (dbox 0 k1))] (I 0) [(1455, some (.box (dbox 0 k2)))], CallOK Try.prog 52 ([] ++ [.ifc 170 (.agg [.ptr 1455 0 0 0, I 0, I 0, I ↑sz])] ++ []) [(1455, .box (dbox 0 k2))] (.tup [I 0, I 0, I 0]) [(1455, some (.box (dbox 0 k2)))], CallOK Try.prog 27 ([] ++ [.ptr 1455 0 0 0] ++ []) [(1455, .box (dbox 0 k2))] (I 0) [(1455, some (.box (dbox 0 k2)))], CallOK Try.prog 41 ([] ++ [] ++ []) [] (B true) []]) rfl (by kernel_rfl) ⟨(CallOK.ren nw' [(1, 1), (10, 1255)] [1, 10] rfl rfl rfl rfl ⟨rfl, fun _ => rfl, trivial⟩ rfl ⟨rfl, fun _ => rfl, rfl, rfl, trivial⟩), (CallOK.ren rg [(0, 1255), (1, 1)] [0, 1] rfl rfl rfl rfl ⟨rfl, rfl, rfl, fun _ => rfl, trivial⟩ rfl ⟨rfl, rfl, rfl, fun _ => rfl, trivial⟩), (CallOK.ren bl [(0, 1255), (1, 1), (10, 1365)] [0, 1, 10] rfl rfl rfl rfl ⟨rfl, rfl, rfl, fun _ => rfl, trivial⟩ rfl ⟨rfl, rfl, rfl, fun _ => rfl, rfl, fun _ => rfl, trivial⟩), (CallOK.ren (CallOK.own 22 1 (es := 1) (n := sz) (row := rowG encU Y) rfl rfl rfl ar) [(1, 1365), (10, 1455)] [1, 10] rfl rfl rfl rfl ⟨rfl, fun _ => rfl, trivial⟩ rfl ⟨rfl, fun _ => rfl, rfl, trivial, trivial⟩), (CallOK.ren cl [(0, 1455)] [0] rfl rfl rfl rfl ⟨rfl, trivial, trivial⟩ rfl ⟨rfl, trivial, trivial⟩), (CallOK.ren im [(0, 1455), (10, 1655)] [0, 10] rfl rfl rfl rfl ⟨rfl, trivial, trivial⟩ rfl ⟨rfl, trivial, rfl, fun _ => rfl, trivial⟩), (by omega), (by omega), (CallOK.ren rd [(0, 1455)] [0] rfl rfl rfl rfl ⟨rfl, trivial, trivial⟩ rfl ⟨rfl, trivial, trivial⟩), (CallOK.simR (CallOK.ren (CallOK.own 22 1 (es := 1) (n := sz) (row := setRow (rowG encU Y) 0 [U (0 : Int)]) rfl rfl rfl (CallOK.own 22 0 (es := 1) (n := sz) (row := rowG encU (Y.set 0 (0 : Int))) rfl rfl rfl sm)) [(0, 1655), (1, 1365)] [0, 1] rfl rfl rfl rfl ⟨rfl, fun _ => rfl, rfl, closed_set (fun _ => rfl) rfl, trivial⟩ rfl ⟨rfl, fun _ => rfl, rfl, closed_set (fun _ => rfl) rfl, trivial⟩) (HpSim.cons rfl (OSim.refl _) (HpSim.cons rfl (OSim.nlV (closed_set (fun _ => rfl) rfl)) HpSim.nil))), (CallOK.ren un1 [(0, 1455)] [0] rfl rfl rfl rfl ⟨rfl, trivial, trivial⟩ rfl ⟨rfl, trivial, trivial⟩), (CallOK.ren fm [(0, 1455)] [0] rfl rfl rfl rfl ⟨rfl, trivial, trivial⟩ rfl ⟨rfl, trivial, trivial⟩), (CallOK.ren sq [(0, 1455)] [0] rfl rfl rfl rfl ⟨rfl, trivial, trivial⟩ rfl ⟨rfl, trivial, trivial⟩), (CallOK.ren un2 [(0, 1455)] [0] rfl rfl rfl rfl ⟨rfl, trivial, trivial⟩ rfl ⟨rfl, trivial, trivial⟩), aw, trivial⟩ rfl ⟨ObLe.refl _, trivial⟩ ⟨rfl, fun _ => rfl, trivial⟩ rfl
  all_goals skip
end Go.Proofs.Ytbgbjgedjmhcaaa
