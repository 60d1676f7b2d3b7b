/- Calls on an array of disks, as contracts: Count, Size, Read, Write, Flush, Fuse, SetMissing. No conditions but those of each theorem. -/
import Derived.Test.YtbgbjgedjmhcaaaD1
namespace Go.Proofs.Ytbgbjgedjmhcaaa
open Go.RowKit Go.ChangeShapes Go.WideShapes Go.ChangeAt
open OldD (DA Dk Co fp Gr Row BM gb gu fp_cases fp_A fp_m fp_u fp_f fp_n fp_d Fresh hid hd hs has_ok hd_iff chk3 chk4 rdV wrE wrK flK)
set_option linter.unusedVariables false
set_option linter.unusedSimpArgs false
/-- how many sectors a disk has -/
def szV (k : Dk) (d : Int) : Int := if hd k d = true then ((gu k.U d.toNat).now.length : Int) else 0
set_option maxHeartbeats 4000000 in
theorem size_ok {W : World} {A : Nat} {c : Co} {k : Dk} (h : DA W A c k) (d : Int) :
    Calls Try.prog 61 #[.pointer (some ⟨A, 0, none⟩), .int .i64 d] W fun e W' => e = .returned (.int .i64 (szV k d)) ∧ W' = W := by
  cases hh : hd k d with
  | false =>
    have HF := hid (has_ok h d)
    rw [hh] at HF
    have : szV k d = 0 := by simp [szV, hh]
    rw [this]
    clear h hh this
    go_enter Try.func61, Try.ntmps61
    go_wp2_with fail
    refine HF.out.mono ?_
    rintro e w1 ⟨rfl, rfl⟩
    go_wp2_with fail
    go_ret
    exact ⟨rfl, rfl⟩
  | true =>
    obtain ⟨n, rfl, hn⟩ := hd_iff.1 hh
    have : szV k (n : Int) = ((gu k.U n).now.length : Int) := by simp [szV, hh]
    rw [this]
    have HF := hid (has_ok h (n : Int))
    rw [hh] at HF
    have c0 := h.c0
    obtain ⟨ub, hub, hul, c1, -, -, -⟩ := h.unit hn
    rw [hub] at c0
    have hb8 := h.b8
    have hbn := h.bn n hn
    generalize (gu k.U n).now.length = len at *
    clear h hub hh this
    go_enter Try.func61, Try.ntmps61
    go_wp2_with fail
    refine HF.out.mono ?_
    rintro e w1 ⟨rfl, rfl⟩
    go_wp2_with fail
    go_ret
    exact ⟨rfl, rfl⟩
theorem size_c (m : Nat) (k : Dk) (d : Int) : CallOK Try.prog 61 [.ptr 0 0 0 0, I d] [(0, .box (dbox m k))] (I (szV k d)) [(0, some (.box (dbox m k)))] :=
  dk_call (cargs := [.int .i64 d]) (cret := .int .i64 (szV k d)) Try.call61 (fun E cs h => by simpa [RVs, RV, I] using h) (fun E => by simp [RV, I]) fun W A c h hm =>
    (size_ok h d).mono fun e W' ⟨he, hw⟩ => by subst hw; exact ⟨he, c, h, hm, Gr.refl _ _, Fresh.refl _ _ _⟩
theorem count_c (m : Nat) (k : Dk) : CallOK Try.prog 59 [.ptr 0 0 0 0] [(0, .box (dbox m k))] (I (k.U.length : Int)) [(0, some (.box (dbox m k)))] :=
  dk_call (cargs := []) (cret := .int .i64 (k.U.length : Int)) Try.call59 (fun E cs h => by simpa [RVs, RV, I] using h) (fun E => by simp [RV, I]) fun W A c h hm =>
    (OldD.count_ok h).mono fun e W' ⟨he, hw⟩ => by subst hw; exact ⟨he, c, h, hm, Gr.refl _ _, Fresh.refl _ _ _⟩
theorem read_c (m : Nat) (k : Dk) (d t : Int) : CallOK Try.prog 154 [.ptr 0 0 0 0, I d, I t] [(0, .box (dbox m k))] (.tup [.val (.int .u64 (rdV k d t)), I (chk4 k d t)]) [(0, some (.box (dbox m k)))] :=
  dk_call (cargs := [.int .i64 d, .int .i64 t]) (cret := .tuple #[.int .u64 (rdV k d t), .int .i64 (chk4 k d t)]) Try.call154 (fun E cs h => by
      simp only [RVs, RV, I] at h
      obtain ⟨_, _, rfl, rfl, _, _, rfl, rfl, rfl⟩ := h
      rfl) (fun E => by simp only [RV, RVs, I]; exact ⟨_, rfl, _, _, rfl, rfl, _, _, rfl, rfl, rfl⟩) fun W A c h hm =>
    (OldD.read_ok h d t).mono fun e W' ⟨he, hb⟩ => ⟨he, c, h.below hb, hm, Gr.of_below hb _, Fresh.refl _ _ _⟩
/-- an array's counters are within bounds -/
def Bd (k : Dk) : Prop := 0 ≤ k.fuse ∧ k.fuse ≤ 9223372036854775807 ∧ k.F.length ≤ 2 ^ 32 ∧ 0 ≤ k.wr ∧ k.wr ≤ 2 ^ 32
theorem write_c (m : Nat) (k : Dk) (d t v : Int) (hb : Bd k) : CallOK Try.prog 155 [.ptr 0 0 0 0, I d, I t, .val (.int .u64 v)] [(0, .box (dbox m k))] (I (wrE k d t)) [(0, some (.box (dbox m (wrK k d t v))))] :=
  dk_call (cargs := [.int .i64 d, .int .i64 t, .int .u64 v]) (cret := .int .i64 (wrE k d t)) Try.call155 (fun E cs h => by
      simp only [RVs, RV, I] at h
      obtain ⟨_, _, rfl, rfl, _, _, rfl, rfl, _, _, rfl, rfl, rfl⟩ := h
      rfl) (fun E => by simp only [RV, I]) fun W A c h hm =>
    (OldD.write_ok h d t v hb.1 hb.2.1 hb.2.2.1 hb.2.2.2.1 hb.2.2.2.2).mono fun e W' ⟨he, HH⟩ => by
      obtain ⟨c', h1, h2, h3, h4⟩ := HH.out
      exact ⟨he, c', h1, by omega, h2, h3⟩
theorem flush_c (m : Nat) (k : Dk) (d : Int) (hF : k.F.length ≤ 2 ^ 32) : CallOK Try.prog 153 [.ptr 0 0 0 0, I d] [(0, .box (dbox m k))] (I (chk3 k d 0)) [(0, some (.box (dbox m (flK k d))))] :=
  dk_call (cargs := [.int .i64 d]) (cret := .int .i64 (chk3 k d 0)) Try.call153 (fun E cs h => by simpa [RVs, RV, I] using h) (fun E => by simp [RV, I]) fun W A c h hm =>
    (OldD.flush_ok h d hF).mono fun e W' ⟨he, HH⟩ => ⟨he, c, HH.out.1, hm, HH.out.2, Fresh.refl _ _ _⟩
theorem fuse_c (m : Nat) (k : Dk) (n : Int) : CallOK Try.prog 30 [.ptr 0 0 0 0, I n] [(0, .box (dbox m k))] (.tup []) [(0, some (.box (dbox m { k with fuse := max n 0 })))] :=
  dk_call (cargs := [.int .i64 n]) (cret := .tuple #[]) Try.call30 (fun E cs h => by simpa [RVs, RV, I] using h) (fun E => by simp [RV, RVs]) fun W A c h hm =>
    (OldD.fuse_ok h n).mono fun e W' ⟨he, HH⟩ => ⟨he, c, HH.out.1, hm, HH.out.2, Fresh.refl _ _ _⟩
end Go.Proofs.Ytbgbjgedjmhcaaa
