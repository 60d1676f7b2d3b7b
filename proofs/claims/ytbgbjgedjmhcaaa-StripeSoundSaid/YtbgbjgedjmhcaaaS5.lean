/- Striped devices over spans: a sector that is read or written; the whole disks as parts. No conditions but those of each theorem. -/
import Derived.Test.YtbgbjgedjmhcaaaSyZ
import Derived.KernelRfl
import Derived.Test.YtbgbjgedjmhcaaaS4
namespace Go.Proofs.Ytbgbjgedjmhcaaa
open Go.RowKit
open OldD (Dk Un Wr Sc hs hd chk3 chk4 rdV wrE wrK flK reK up upto pFail pFlush)
set_option linter.unusedVariables false
set_option linter.unnecessarySimpa false
set_option linter.unusedSimpArgs false
set_option maxRecDepth 10000
theorem sread_ok (m : Nat) (k : Dk) (L : List Spn) (c i lg o : Nat) (hc : 1 ≤ c ∧ c ≤ 65536) (h1 : 1 ≤ L.length) (h6 : L.length ≤ 6) (hS : 0 ≤ sSz c L ∧ sSz c L ≤ 10000000000) (hi : (i : Int) ≤ sSz c L - 1) (hi2 : i ≤ 1073741824) (e1 : (plS c L.length i).1 = lg) (e2 : (plS c L.length i).2 = o) (hlg : lg < L.length) (ho : (o : Int) < (L.getD lg default).n) (hb : 0 ≤ (L.getD lg default).s ∧ (L.getD lg default).s ≤ 100000 ∧ (L.getD lg default).n ≤ 100000) :
    CallOK Try.prog 164 [.ptr 1 0 0 0, I i] [(0, .box (dbox m k)), (1, sdO c L), (2, .ro 1 L.length (rowN encSp 0 L))] (.tup [.val (.int .u64 (rdV k (L.getD lg default).d ((L.getD lg default).s + o))), I (chk4 k (L.getD lg default).d ((L.getD lg default).s + o))]) [(0, some (.box (dbox m k)))] := by
  refine CallOK.intro Try.call164 Try.func164 rfl rfl ⟨rfl, trivial, rfl, rfl, rfl, fun _ => rfl, trivial⟩ ?_
  have wi := within_any i (sSz c L - 1)
  rw [decide_eq_true (show 0 ≤ (i : Int) ∧ (i : Int) ≤ sSz c L - 1 by omega)] at wi
  have lp := lplace_any c L.length i hc ⟨h1, h6⟩ hi2
  rw [e1, e2] at lp
  have rd := spread_ok m k (L.getD lg default).d (L.getD lg default).s (L.getD lg default).n o ⟨by omega, ho⟩ hb
  have hlg2 : (lg : Int) < (L.length : Int) := by omega
  unfold sdO
  generalize sSz c L = M at *
  refine Safe.ends mixed Try.func164 11 [⟨1100, []⟩, ⟨1200, [(6, .call [] (B true) [])]⟩, ⟨1300, [(5, .call [] (.tup [I ((↑lg : Int)), I ((↑o : Int))]) [])]⟩, ⟨1400, [(8, .inv 168 (.agg [.ptr 0 0 0 0, I ((L.getD lg default).d), I ((L.getD lg default).s), I ((L.getD lg default).n)]) [0] (.tup [.val (Value.int IntKind.u64 (rdV k (L.getD lg default).d ((L.getD lg default).s + (↑o : Int)))), I (chk4 k (L.getD lg default).d ((L.getD lg default).s + (↑o : Int)))]) [(0, some (.box (dbox m k)))])]⟩] (r := .tup [.val (Value.int IntKind.u64 (rdV k (L.getD lg default).d ((L.getD lg default).s + (↑o : Int)))), I (chk4 k (L.getD lg default).d ((L.getD lg default).s + (↑o : Int)))]) (hp := [(0, .box (dbox m k)), (1, .blk 128 [I ((↑c : Int)), I ((↑L.length : Int)), .sl 2 0 1 L.length none, I M]), (2, .ro 1 L.length (rowN encSp (0 : Nat) L))]) (ob := [inK IntKind.i64 (M - (1 : Int)), CallOK Try.prog (104 : Nat) ([] ++ [AV.val (Value.int IntKind.i64 (↑i : Int)), AV.val (Value.int IntKind.i64 (M - (1 : Int)))] ++ []) [] (AV.val (Value.bool true)) [], CallOK Try.prog (105 : Nat) ([] ++ [AV.agg [AV.val (Value.int IntKind.i64 (↑c : Int)), AV.val (Value.int IntKind.i64 (↑L.length : Int))], AV.val (Value.int IntKind.i64 (↑i : Int))] ++ []) [] (AV.tup [AV.val (Value.int IntKind.i64 (↑lg : Int)), AV.val (Value.int IntKind.i64 (↑o : Int))]) [], (0 : Int) ≤ (↑lg : Int) ∧ (↑lg : Int) < (↑L.length : Int), lg < L.length, MethOK Try.prog "Read" (AV.ifc (170 : Nat) (AV.agg [AV.ptr (0 : Nat) (0 : Nat) (0 : Nat) (0 : Nat), AV.val (Value.int IntKind.i64 (L.getD lg default).d), AV.val (Value.int IntKind.i64 (L.getD lg default).s), AV.val (Value.int IntKind.i64 (L.getD lg default).n)])) (168 : Nat) (AV.agg [AV.ptr (0 : Nat) (0 : Nat) (0 : Nat) (0 : Nat), AV.val (Value.int IntKind.i64 (L.getD lg default).d), AV.val (Value.int IntKind.i64 (L.getD lg default).s), AV.val (Value.int IntKind.i64 (L.getD lg default).n)]), CallOK Try.prog (168 : Nat) [AV.agg [AV.ptr (0 : Nat) (0 : Nat) (0 : Nat) (0 : Nat), AV.val (Value.int IntKind.i64 (L.getD lg default).d), AV.val (Value.int IntKind.i64 (L.getD lg default).s), AV.val (Value.int IntKind.i64 (L.getD lg default).n)], AV.val (Value.int IntKind.i64 (↑o : Int))] [((0 : Nat), Ob.box (dbox m k))] (AV.tup [AV.val (Value.int IntKind.u64 (rdV k (L.getD lg default).d ((L.getD lg default).s + (↑o : Int)))), AV.val (Value.int IntKind.i64 (chk4 k (L.getD lg default).d ((L.getD lg default).s + (↑o : Int))))]) [((0 : Nat), some (Ob.box (dbox m k)))]]) rfl (by kernel_rfl) ⟨(by simp only [inK]; omega), wi, lp, (by omega), (by omega), (MethOK.of (by kernel_rfl)), rd, trivial⟩ rfl ⟨ObLe.refl _, ObLe.refl _, ObLe.refl _, trivial⟩ ⟨rfl, trivial, rfl, rfl, rfl, fun _ => rfl, trivial⟩ rfl
theorem swrite_ok (m : Nat) (k : Dk) (L : List Spn) (c i lg o : Nat) (v : Int) (hc : 1 ≤ c ∧ c ≤ 65536) (h1 : 1 ≤ L.length) (h6 : L.length ≤ 6) (hS : 0 ≤ sSz c L ∧ sSz c L ≤ 10000000000) (hi : (i : Int) ≤ sSz c L - 1) (hi2 : i ≤ 1073741824) (e1 : (plS c L.length i).1 = lg) (e2 : (plS c L.length i).2 = o) (hlg : lg < L.length) (ho : (o : Int) < (L.getD lg default).n) (hb : 0 ≤ (L.getD lg default).s ∧ (L.getD lg default).s ≤ 100000 ∧ (L.getD lg default).n ≤ 100000) (hk : Bd k) :
    CallOK Try.prog 166 [.ptr 1 0 0 0, I i, .val (.int .u64 v)] [(0, .box (dbox m k)), (1, sdO c L), (2, .ro 1 L.length (rowN encSp 0 L))] (I (wrE k (L.getD lg default).d ((L.getD lg default).s + o))) [(0, some (.box (dbox m (wrK k (L.getD lg default).d ((L.getD lg default).s + o) v))))] := by
  refine CallOK.intro Try.call166 Try.func166 rfl rfl ⟨rfl, trivial, rfl, rfl, rfl, fun _ => rfl, trivial⟩ ?_
  have wi := within_any i (sSz c L - 1)
  rw [decide_eq_true (show 0 ≤ (i : Int) ∧ (i : Int) ≤ sSz c L - 1 by omega)] at wi
  have lp := lplace_any c L.length i hc ⟨h1, h6⟩ hi2
  rw [e1, e2] at lp
  have rd := spwrite_ok m k (L.getD lg default).d (L.getD lg default).s (L.getD lg default).n o v ⟨by omega, ho⟩ hb hk
  have hlg2 : (lg : Int) < (L.length : Int) := by omega
  unfold sdO
  generalize sSz c L = M at *
  refine Safe.ends mixed Try.func166 11 [⟨1100, []⟩, ⟨1200, [(6, .call [] (B true) [])]⟩, ⟨1300, [(5, .call [] (.tup [I ((↑lg : Int)), I ((↑o : Int))]) [])]⟩, ⟨1400, [(9, .inv 170 (.agg [.ptr 0 0 0 0, I ((L.getD lg default).d), I ((L.getD lg default).s), I ((L.getD lg default).n)]) [0] (I (wrE k (L.getD lg default).d ((L.getD lg default).s + (↑o : Int)))) [(0, some (.box (dbox m (wrK k (L.getD lg default).d ((L.getD lg default).s + (↑o : Int)) v))))])]⟩] (r := I (wrE k (L.getD lg default).d ((L.getD lg default).s + (↑o : Int)))) (hp := [(0, .box (dbox m (wrK k (L.getD lg default).d ((L.getD lg default).s + (↑o : Int)) v))), (1, .blk 128 [I ((↑c : Int)), I ((↑L.length : Int)), .sl 2 0 1 L.length none, I M]), (2, .ro 1 L.length (rowN encSp (0 : Nat) L))]) (ob := [inK IntKind.i64 (M - (1 : Int)), CallOK Try.prog (104 : Nat) ([] ++ [AV.val (Value.int IntKind.i64 (↑i : Int)), AV.val (Value.int IntKind.i64 (M - (1 : Int)))] ++ []) [] (AV.val (Value.bool true)) [], CallOK Try.prog (105 : Nat) ([] ++ [AV.agg [AV.val (Value.int IntKind.i64 (↑c : Int)), AV.val (Value.int IntKind.i64 (↑L.length : Int))], AV.val (Value.int IntKind.i64 (↑i : Int))] ++ []) [] (AV.tup [AV.val (Value.int IntKind.i64 (↑lg : Int)), AV.val (Value.int IntKind.i64 (↑o : Int))]) [], (0 : Int) ≤ (↑lg : Int) ∧ (↑lg : Int) < (↑L.length : Int), lg < L.length, MethOK Try.prog "Write" (AV.ifc (170 : Nat) (AV.agg [AV.ptr (0 : Nat) (0 : Nat) (0 : Nat) (0 : Nat), AV.val (Value.int IntKind.i64 (L.getD lg default).d), AV.val (Value.int IntKind.i64 (L.getD lg default).s), AV.val (Value.int IntKind.i64 (L.getD lg default).n)])) (170 : Nat) (AV.agg [AV.ptr (0 : Nat) (0 : Nat) (0 : Nat) (0 : Nat), AV.val (Value.int IntKind.i64 (L.getD lg default).d), AV.val (Value.int IntKind.i64 (L.getD lg default).s), AV.val (Value.int IntKind.i64 (L.getD lg default).n)]), CallOK Try.prog (170 : Nat) [AV.agg [AV.ptr (0 : Nat) (0 : Nat) (0 : Nat) (0 : Nat), AV.val (Value.int IntKind.i64 (L.getD lg default).d), AV.val (Value.int IntKind.i64 (L.getD lg default).s), AV.val (Value.int IntKind.i64 (L.getD lg default).n)], AV.val (Value.int IntKind.i64 (↑o : Int)), AV.val (Value.int IntKind.u64 v)] [((0 : Nat), Ob.box (dbox m k))] (AV.val (Value.int IntKind.i64 (wrE k (L.getD lg default).d ((L.getD lg default).s + (↑o : Int))))) [((0 : Nat), some (Ob.box (dbox m (wrK k (L.getD lg default).d ((L.getD lg default).s + (↑o : Int)) v))))]]) rfl (by kernel_rfl) ⟨(by simp only [inK]; omega), wi, lp, (by omega), (by omega), (MethOK.of (by kernel_rfl)), rd, trivial⟩ rfl ⟨ObLe.refl _, ObLe.refl _, ObLe.refl _, trivial⟩ ⟨rfl, trivial, rfl, rfl, rfl, fun _ => rfl, trivial⟩ rfl
/-- n whole disks as the legs of a striped device with so many sectors -/
structure StL (sz : Nat → Nat) (n c N : Nat) : Prop where
  c1 : 1 ≤ c ∧ c ≤ 65536
  n1 : 1 ≤ n ∧ n ≤ 6
  z : ∀ d, d < n → 1 ≤ sz d ∧ sz d ≤ 100000
  e : sSz c (spL sz n) = (N : Int)
theorem StL.lay {sz : Nat → Nat} {n c N : Nat} (h : StL sz n c N) : Lay n sz N (plS c n) ∧ N ≤ 600000 := by
  have hb : ∀ j, j < (szU (spL sz n) n).length → 0 ≤ (szU (spL sz n) n).getD j default ∧ (szU (spL sz n) n).getD j default ≤ 100000 := fun j hj => by
    rw [szU_len] at hj
    rw [szU_at _ _ _ hj, spL_at _ _ _ hj]
    have := h.z j hj
    show 0 ≤ (sz j : Int) ∧ (sz j : Int) ≤ 100000
    omega
  obtain ⟨m1, m2, m3⟩ := mnF_bd hb (n - 1) (by rw [szU_len]; have := h.n1; omega)
  have e : mnF (szU (spL sz n) n) (n - 1) / (c : Int) * (c : Int) * (n : Int) = (N : Int) := by
    have := h.e
    unfold sSz at this
    rwa [spL_len] at this
  obtain ⟨M, hM⟩ : ∃ M : Nat, mnF (szU (spL sz n) n) (n - 1) = (M : Int) := ⟨(mnF (szU (spL sz n) n) (n - 1)).toNat, by omega⟩
  rw [hM] at e m2 m3
  rw [← Int.natCast_ediv, ← Int.natCast_mul, ← Int.natCast_mul] at e
  have e2 : M / c * c * n = N := Int.ofNat.inj e
  have h3 : ∀ d, d < n → M ≤ sz d := fun d hd => by
    have := m3 d (by omega)
    rw [szU_at _ _ _ hd, spL_at _ _ _ hd] at this
    exact Int.ofNat_le.1 this
  have h4 : M / c * c ≤ M := Nat.div_mul_le_self M c
  refine ⟨?_, ?_⟩
  · rw [← e2, Nat.mul_comm (M / c * c) n]
    exact lay_s h.c1.1 h.n1.1 fun d hd => Nat.le_trans h4 (h3 d hd)
  · rw [← e2]
    have h5 : M / c * c * n ≤ 100000 * 6 := Nat.mul_le_mul (by omega) h.n1.2
    omega
theorem srd_any (m : Nat) (k : Dk) (sz : Nat → Nat) (n c N : Nat) (h : StL sz n c N) {x : Nat} (g : Gk k n sz x) (hdn : k.down = false) (i : Nat) (hi : i < N) :
    CallOK Try.prog 164 [.ptr 1 0 0 0, I i] [(0, .box (dbox m k)), (1, .blk 128 [I c, I n, .sl 2 0 1 n none, I N]), (2, .ro 1 n (rowN encSp 0 (spL sz n)))] (.tup [.val (.int .u64 (nw k (plS c n i).1 (plS c n i).2)), I 0]) [(0, some (.box (dbox m k)))] := by
  obtain ⟨Ly, hN⟩ := h.lay
  obtain ⟨a1, a2⟩ := Ly.inr i hi
  have ll := spL_len sz n
  have la := spL_at sz n _ a1
  have z := h.z _ a1
  have := sread_ok m k (spL sz n) c i (plS c n i).1 (plS c n i).2 h.c1 (by rw [ll]; exact h.n1.1) (by rw [ll]; exact h.n1.2) (by rw [h.e]; omega) (by rw [h.e]; omega) (by omega) (by rw [ll]) (by rw [ll]) (by rw [ll]; exact a1) (by rw [la]; show ((plS c n i).2 : Int) < (sz (plS c n i).1 : Int); omega) (by rw [la]; show (0 : Int) ≤ 0 ∧ (0 : Int) ≤ 100000 ∧ (sz (plS c n i).1 : Int) ≤ 100000; omega)
  rw [la] at this
  dsimp only at this
  rw [Int.zero_add, g.rd hdn a1 a2, (g.chk hdn a1 a2).2] at this
  unfold sdO at this
  rw [ll, h.e] at this
  exact this
theorem swr_any (m : Nat) (k : Dk) (sz : Nat → Nat) (n c N : Nat) (h : StL sz n c N) (i : Nat) (hi : i < N) (v : Int) (hk : Bd k) :
    CallOK Try.prog 166 [.ptr 1 0 0 0, I i, .val (.int .u64 v)] [(0, .box (dbox m k)), (1, .blk 128 [I c, I n, .sl 2 0 1 n none, I N]), (2, .ro 1 n (rowN encSp 0 (spL sz n)))] (I (wrE k ((plS c n i).1 : Int) ((plS c n i).2 : Int))) [(0, some (.box (dbox m (wrK k ((plS c n i).1 : Int) ((plS c n i).2 : Int) v))))] := by
  obtain ⟨Ly, hN⟩ := h.lay
  obtain ⟨a1, a2⟩ := Ly.inr i hi
  have ll := spL_len sz n
  have la := spL_at sz n _ a1
  have z := h.z _ a1
  have := swrite_ok m k (spL sz n) c i (plS c n i).1 (plS c n i).2 v h.c1 (by rw [ll]; exact h.n1.1) (by rw [ll]; exact h.n1.2) (by rw [h.e]; omega) (by rw [h.e]; omega) (by omega) (by rw [ll]) (by rw [ll]) (by rw [ll]; exact a1) (by rw [la]; show ((plS c n i).2 : Int) < (sz (plS c n i).1 : Int); omega) (by rw [la]; show (0 : Int) ≤ 0 ∧ (0 : Int) ≤ 100000 ∧ (sz (plS c n i).1 : Int) ≤ 100000; omega) hk
  rw [la] at this
  dsimp only at this
  rw [Int.zero_add] at this
  unfold sdO at this
  rw [ll, h.e] at this
  exact this
theorem sfl_any (m : Nat) (k : Dk) (sz : Nat → Nat) (n c N : Nat) (h : StL sz n c N) (hF : k.F.length ≤ 2 ^ 32) :
    CallOK Try.prog 163 [.ptr 1 0 0 0] [(0, .box (dbox m k)), (1, .blk 128 [I c, I n, .sl 2 0 1 n none, I N]), (2, .ro 1 n (rowN encSp 0 (spL sz n)))] (I (feL k (spL sz n) n)) [(0, some (.box (dbox m (flL k (spL sz n) n))))] := by
  have ll := spL_len sz n
  have := sflush_any m k (spL sz n) c (by rw [ll]; have := h.n1; omega) hF
  unfold sdO at this
  rw [ll, h.e] at this
  exact this
theorem ssz_any (m : Nat) (k : Dk) (sz : Nat → Nat) (n c N : Nat) (h : StL sz n c N) : CallOK Try.prog 165 [.ptr 1 0 0 0] [(0, .box (dbox m k)), (1, .blk 128 [I c, I n, .sl 2 0 1 n none, I N]), (2, .ro 1 n (rowN encSp 0 (spL sz n)))] (I N) [] := by
  have ll := spL_len sz n
  have := ssize_any m k (spL sz n) c
  unfold sdO at this
  rw [ll, h.e] at this
  exact this
theorem snw_any (m : Nat) (k : Dk) (sz : Nat → Nat) (n c N : Nat) (h : StL sz n c N) :
    CallOK Try.prog 36 [.sl 1 0 1 n none, I c] [(0, .box (dbox m k)), (1, .ro 1 n (rowN encSp 0 (spL sz n)))] (.tup [.ifc 123 (.ptr 10 0 0 0), I 0]) [(10, some (.blk 128 [I c, I n, .sl 11 0 1 n none, I N])), (11, some (.vec 43 1 n (rowN encSp 0 (spL sz n))))] := by
  have ll := spL_len sz n
  have h1 := h.c1
  have h2 := h.n1
  have := snew_ok m k (spL sz n) c (by omega) (by omega) (by omega) (by omega) (fun j hj => by rw [ll] at hj; rw [spL_at _ _ _ hj]; have := h.z j hj; show 0 ≤ (sz j : Int) ∧ (sz j : Int) ≤ 1073741824; omega)
  rw [ll, h.e] at this
  exact this
theorem Rn.flT {sz : Nat → Nat} {n c N : Nat} (h : StL sz n c N) {k : Dk} {f : Nat → Sc} {x : Nat} (r : Rn k n sz N (plS c n) f x) : feL k (spL sz n) n = 0 ∧ Rn (flL k (spL sz n) n) n sz N (plS c n) (upto N pFlush f) x := by
  have ll := spL_len sz n
  have := r.flS (L := spL sz n) h.lay.1 (fun i hi => by
    rw [ll] at hi
    rw [spL_at _ _ _ hi]
    have := h.z i hi
    exact ⟨Int.natCast_nonneg i, hi, this.1⟩) (fun i hi => by
    have a := (h.lay.1.inr i hi).1
    exact ⟨(plS c n i).1, by rw [ll]; exact a, by rw [spL_at _ _ _ a]; rfl⟩)
  rw [ll] at this
  exact this
end Go.Proofs.Ytbgbjgedjmhcaaa
