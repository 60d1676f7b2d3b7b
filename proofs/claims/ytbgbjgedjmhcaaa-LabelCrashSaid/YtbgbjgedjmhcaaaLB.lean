/- Checksums of words that lie in an array or in a slice, told by objects. No conditions but those of each theorem. -/
import Derived.Test.YtbgbjgedjmhcaaaOA
import Derived.Test.YtbgbjgedjmhcaaaD3
import Derived.Test.YtbgbjgedjmhcaaaD5
namespace Go.Proofs.Ytbgbjgedjmhcaaa
open Go.RowKit
set_option linter.unusedVariables false
set_option linter.unnecessarySimpa false
/-- words -/
def Wf (L : List Int) : Prop := ∀ x ∈ L, 0 ≤ x ∧ x ≤ 18446744073709551615
theorem Wf.at {L : List Int} (h : Wf L) (k : Nat) : 0 ≤ L.getD k default ∧ L.getD k default ≤ 18446744073709551615 := by
  rw [List.getD_eq_getElem?_getD]
  cases e : L[k]? with
  | none => exact ⟨Int.le_refl 0, by decide⟩
  | some z => exact h z (List.mem_of_getElem? e)
/-- memory that is as it was, below -/
theorem rh_below {E : Env} {h : Hp} {W W' : World} (r : RH E h W) (hb : Below W.heap.size W W') : RH E h W' ∧ Mod E h W E h W' :=
  ⟨⟨fun id o ho => (r.holds id o ho).kept hb.size fun b hb' => hb.block b (Holds.blk_lt hb' (r.holds id o ho)), fun i j o p hi hj hne hw b h1 h2 => r.apart i j o p hi hj hne hw b (Foot.kept hb.size (fun b hb' => hb.block b (Holds.blk_lt hb' (r.holds i o hi))) (r.holds i o hi) b h1) (Foot.kept hb.size (fun b hb' => hb.block b (Holds.blk_lt hb' (r.holds j p hj))) (r.holds j p hj) b h2)⟩, ⟨hb.os, hb.tape, hb.output, hb.size, fun b hlt _ => hb.block b hlt, fun id o b h1 h3 => .inl ⟨id, o, h1, fun h => h, Foot.kept hb.size (fun b hb' => hb.block b (Holds.blk_lt hb' (r.holds id o h1))) (r.holds id o h1) b h3⟩⟩⟩
theorem getD_nat (L : List Int) (hw : Wf L) (j : Nat) : (((L.map Int.toNat)[j]?.getD 0 : Nat) : Int) = L.getD j default ∧ (L.map Int.toNat)[j]?.getD 0 < 18446744073709551616 := by
  have := hw.at j
  rw [List.getD_eq_getElem?_getD] at this ⊢
  rw [List.getElem?_map]
  cases e : L[j]? with
  | none => exact ⟨rfl, by decide⟩
  | some z =>
    rw [e] at this
    simp only [Option.getD_some, Option.map_some] at this ⊢
    omega
theorem wo_row {E : Env} {W : World} {id : Nat} {L : List Int} {c : Value} (hw : Wf L) (hh : Holds E W id (.ro 1 L.length (rowG encU L))) (hc : RV E (.sl id 0 1 L.length none) c) : ∃ a cap, c = .slice a L.length cap ∧ OldA.Wo W.heap.size W a L.length (L.map Int.toNat) := by
  obtain ⟨a, cap, rfl, h⟩ := row_of hh hc
  refine ⟨a, cap, rfl, fun j hj => (getD_nat L hw j).2, h.imp (fun h => h) fun ⟨b, off, e, hb, hcell⟩ => ⟨b, off, e, hb, fun j hj => ?_⟩⟩
  obtain ⟨v, h1, h2⟩ := hcell j hj
  simp only [rowG, encU, U, RVs, RV] at h1
  obtain ⟨y, l, e1, rfl, rfl⟩ := h1
  simp only [List.cons.injEq, and_true] at e1
  rw [h2, e1, (getD_nat L hw j).1]
/-- a part of an array -/
theorem wo_blk {E : Env} {W : World} {id ty q n : Nat} {cs : List AV} {L : List Int} {c : Value} (hw : Wf L) (hh : Holds E W id (.blk ty cs)) (hc : RV E (.sl id q 1 n none) c) (hl : L.length = n) (hcs : ∀ j, j < n → nth cs (q + j) = some (U (L.getD j default))) :
    ∃ a cap, c = .slice a n cap ∧ OldA.Wo W.heap.size W a n (L.map Int.toNat) := by
  obtain ⟨b, k, xs, h1, h2, h3, h4⟩ := hh
  simp only [RV] at hc
  obtain ⟨b2, k2, h6, h7⟩ := hc
  rw [h1] at h6
  simp only [Option.some.injEq, Prod.mk.injEq] at h6
  obtain ⟨rfl, rfl⟩ := h6
  obtain ⟨o, m, rfl, h8, h9, h10, h11⟩ := h7
  refine ⟨_, m, rfl, fun j hj => (getD_nat L hw j).2, ?_⟩
  by_cases h0 : n = 0
  · exact .inl h0
  · right
    have ho := h10 (by omega)
    refine ⟨b, o, rfl, (Array.getElem?_eq_some_iff.1 h2).1, fun j hj => ?_⟩
    obtain ⟨y, hy, hy2⟩ := h3.get _ _ (hcs j hj)
    simp only [U, RV] at hy2
    rw [cell_of_row W b _ _ _ _ h2, ho]
    rw [(getD_nat L hw j).1, ← hy2]
    simp only [Nat.mul_one, Nat.zero_add, List.getElem?_toArray]
    exact hy
abbrev U32 (z : Int) : AV := .val (.int .u32 z)
/-- the checksum of words, gone on with -/
def extW (s : Int) (L : List Int) : Int := (OldA.ext s.toNat (L.map Int.toNat) L.length : Nat)
def sumW (L : List Int) : Int := extW 0 L
theorem extW_bd (s : Int) (L : List Int) (h : 0 ≤ s ∧ s ≤ 4294967295) : 0 ≤ extW s L ∧ extW s L ≤ 4294967295 := by
  have := OldA.ext_lt s.toNat (by omega) (L.map Int.toNat) L.length
  unfold extW
  omega
theorem sumW_bd (L : List Int) : 0 ≤ sumW L ∧ sumW L ≤ 4294967295 := extW_bd 0 L (by omega)
theorem xor_back (a r : Nat) : a ^^^ (a ^^^ r) = r := by rw [← Nat.xor_assoc, Nat.xor_self, Nat.zero_xor]
theorem nt_def (r : Nat) : OldA.nt r = 4294967295 ^^^ r := by unfold OldA.nt; rfl
theorem nt_nt (r : Nat) : OldA.nt (OldA.nt r) = r := by
  rw [nt_def, nt_def]
  generalize (4294967295 : Nat) = a
  exact xor_back a r
theorem wds_app (r : Nat) (A B : List Nat) : ∀ k, k ≤ A.length → OldA.wds r (A ++ B) k = OldA.wds r A k
  | 0, _ => rfl
  | k + 1, h => by
    unfold OldA.wds
    rw [wds_app r A B k (by omega), List.getElem?_append_left (by omega)]
theorem wds_one (r : Nat) (A : List Nat) (y : Nat) : OldA.wds (OldA.wds r A A.length) [y] 1 = OldA.wds r (A ++ [y]) (A.length + 1) := by
  show OldA.wd (OldA.wds r A A.length) ([y][0]?.getD 0) 8 = OldA.wd (OldA.wds r (A ++ [y]) A.length) ((A ++ [y])[A.length]?.getD 0) 8
  rw [wds_app r A [y] A.length (Nat.le_refl _), List.getElem?_append_right (Nat.le_refl _), Nat.sub_self]
theorem ext_one (s : Nat) (A : List Nat) (y : Nat) : OldA.ext (OldA.ext s A A.length) [y] 1 = OldA.ext s (A ++ [y]) (A.length + 1) := by
  unfold OldA.ext
  rw [nt_nt, wds_one]
theorem extW_app (s : Int) (L : List Int) (x : Int) : extW (extW s L) [x] = extW s (L ++ [x]) := by
  have h := ext_one s.toNat (L.map Int.toNat) x.toNat
  rw [List.length_map] at h
  unfold extW
  rw [Int.toNat_natCast, List.map_append, List.length_append]
  exact congrArg _ h
theorem sums_blk (ty q n : Nat) (cs : List AV) (L : List Int) (hw : Wf L) (hl : L.length = n) (hn : n ≤ 1000000) (hcs : ∀ j, j < n → nth cs (q + j) = some (U (L.getD j default))) : CallOK Try.prog 95 [.sl 0 q 1 n none] [(0, .blk ty cs)] (U32 (sumW L)) [] := by
  refine ⟨enters_of Try.func95 (by kernel_rfl) rfl, fun E W cargs ha hr hno => ?_⟩
  simp only [RVs] at ha
  obtain ⟨c1, l1, rfl, g1, rfl⟩ := ha
  obtain ⟨a, cap, rfl, H⟩ := wo_blk hw (hr.holds 0 _ rfl) g1 hl hcs
  refine (OldA.words_ok a n cap _ (by omega) W H).mono ?_
  rintro e W' ⟨rfl, hb⟩
  obtain ⟨q1, q2⟩ := rh_below hr hb
  exact ⟨_, E, rfl, Ext.refl E, by simp only [RV]; rw [← hl]; rfl, q1, q2⟩
theorem exts_blk (s : Int) (hs : 0 ≤ s ∧ s ≤ 4294967295) (ty q n : Nat) (cs : List AV) (L : List Int) (hw : Wf L) (hl : L.length = n) (hn : n ≤ 1000000) (hcs : ∀ j, j < n → nth cs (q + j) = some (U (L.getD j default))) : CallOK Try.prog 96 [U32 s, .sl 0 q 1 n none] [(0, .blk ty cs)] (U32 (extW s L)) [] := by
  refine ⟨enters_of Try.func96 (by kernel_rfl) rfl, fun E W cargs ha hr hno => ?_⟩
  simp only [RVs, RV] at ha
  obtain ⟨c0, l0, rfl, rfl, c1, l1, rfl, g1, rfl⟩ := ha
  obtain ⟨a, cap, rfl, H⟩ := wo_blk hw (hr.holds 0 _ rfl) (c := c1) (by simp only [RV]; exact g1) hl hcs
  have e : s = ((s.toNat : Nat) : Int) := by omega
  rw [e]
  refine (OldA.extend_ok s.toNat (by omega) a n cap _ (by omega) W H).mono ?_
  rintro e W' ⟨rfl, hb⟩
  obtain ⟨q1, q2⟩ := rh_below hr hb
  exact ⟨_, E, rfl, Ext.refl E, by simp only [RV]; rw [← hl]; rfl, q1, q2⟩
theorem rsums_any (L : List Int) (hw : Wf L) (hl : L.length ≤ 1000000) : CallOK Try.prog 97 [.sl 0 0 1 L.length none] [(0, .ro 1 L.length (rowG encU L))] (U32 (sumW L)) [] := by
  refine ⟨enters_of Try.func97 (by kernel_rfl) rfl, fun E W cargs ha hr hn => ?_⟩
  simp only [RVs] at ha
  obtain ⟨c1, l1, rfl, g1, rfl⟩ := ha
  obtain ⟨a, cap, rfl, H⟩ := wo_row hw (hr.holds 0 _ rfl) g1
  refine (OldA.rwords_ok a L.length cap _ (by omega) W H).mono ?_
  rintro e W' ⟨rfl, rfl⟩
  exact ⟨_, E, rfl, Ext.refl E, by simp only [RV]; rfl, hr, Mod.refl _ _ _⟩
end Go.Proofs.Ytbgbjgedjmhcaaa
