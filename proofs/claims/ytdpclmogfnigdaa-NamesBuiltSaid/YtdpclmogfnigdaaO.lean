/- Name and Tag: the program's and the reference's. No conditions but those of each theorem. -/
import Derived.Test.YtdpclmogfnigdaaN
namespace Go.Proofs.Ytdpclmogfnigdaa
open Go.ChangeShapes Go.WideShapes Go.ChangeAt Go.RowKit
set_option linter.unusedVariables false
set_option linter.unusedSimpArgs false

theorem gdL_all (o b : List UInt8) : ∀ (l : List UInt8) (k : Nat), gdL o b (k + 1) l = l.all (fun c => an c.toNat || isIn c.toNat o) := by
  intro l
  induction l with
  | nil => intro k; rfl
  | cons c t ih =>
    intro k
    rw [List.all_cons, ← ih (k + 1)]
    show (gd o b (k + 1) c.toNat && gdL o b (k + 1 + 1) t) = _
    unfold gd
    simp
def oName : List UInt8 := [95, 46, 43, 45]
def oTag : List UInt8 := [95, 46, 43, 45, 47, 61, 58]
theorem set_name (c : UInt8) : inSet 288063250384289792 576460745995190270 c.toNat = (an c.toNat || isIn c.toNat oName) := by
  have h : ∀ n : Fin 256, inSet 288063250384289792 576460745995190270 n.val = (an n.val || isIn n.val oName) := by decide +kernel
  exact h ⟨c.toNat, c.toNat_lt⟩
theorem set_tag (c : UInt8) : inSet 2882277373238050816 576460745995190270 c.toNat = (an c.toNat || isIn c.toNat oTag) := by
  have h : ∀ n : Fin 256, inSet 2882277373238050816 576460745995190270 n.val = (an n.val || isIn n.val oTag) := by decide +kernel
  exact h ⟨c.toNat, c.toNat_lt⟩
theorem name_cons (l : List UInt8) : nameL l = consL l oName [45, 46] 40 := by
  cases l with
  | nil => rfl
  | cons c t =>
    unfold nameL consL allIn
    show _ = (decide (1 ≤ (c :: t).length) && (decide ((c :: t).length ≤ 40) && (gd oName [45, 46] 0 c.toNat && gdL oName [45, 46] (0 + 1) t)))
    rw [gdL_all, List.all_cons, set_name]
    have e : (fun c : UInt8 => inSet 288063250384289792 576460745995190270 c.toNat) = fun c => (an c.toNat || isIn c.toNat oName) := by funext c; exact set_name c
    rw [e]
    generalize t.all (fun c => an c.toNat || isIn c.toNat oName) = q
    generalize hA : (an c.toNat || isIn c.toNat oName) = A
    unfold gd
    rw [hA]
    simp [c0, isIn]
    cases A <;> cases q <;> simp
    all_goals (by_cases h1 : c.toNat = 45 <;> by_cases h2 : c.toNat = 46 <;> simp_all)
    all_goals (intro _; omega)

/-- a tag -/
def tagL (l : List UInt8) : Bool := decide (l.length ≠ 0) && (decide (l.length ≤ 24) && (decide (c0 l ≠ 45) && allIn 2882277373238050816 576460745995190270 l))
theorem tag_cons (l : List UInt8) : tagL l = consL l oTag [45] 24 := by
  cases l with
  | nil => rfl
  | cons c t =>
    unfold tagL consL allIn
    show _ = (decide (1 ≤ (c :: t).length) && (decide ((c :: t).length ≤ 24) && (gd oTag [45] 0 c.toNat && gdL oTag [45] (0 + 1) t)))
    rw [gdL_all, List.all_cons, set_tag]
    have e : (fun c : UInt8 => inSet 2882277373238050816 576460745995190270 c.toNat) = fun c => (an c.toNat || isIn c.toNat oTag) := by funext c; exact set_tag c
    rw [e]
    generalize t.all (fun c => an c.toNat || isIn c.toNat oTag) = q
    generalize hA : (an c.toNat || isIn c.toNat oTag) = A
    unfold gd
    rw [hA]
    simp [c0, isIn]
    cases A <;> cases q <;> simp
    all_goals (by_cases h1 : c.toNat = 45 <;> simp_all)
    all_goals (intro _; omega)
set_option maxHeartbeats 4000000 in
theorem rname_any (s : ByteArray) (hs : s.size ≤ 9223372036854775806) (w : World) :
    Calls Try.prog 30 #[.string s] w fun e w' => e = .returned (.bool (nameL s.data.toList)) ∧ w' = w := by
  have HC := hid (consists_any s ⟨#[95, 46, 43, 45]⟩ ⟨#[45, 46]⟩ 40 (by omega) hs (by decide) (by decide))
  rw [name_cons]
  go_enter Try.func30, Try.ntmps30
  go_wp2_with fail
  refine (HC.out _).mono ?_
  rintro e w1 ⟨rfl, rfl⟩
  go_wp2_with fail
  go_ret
  exact ⟨rfl, rfl⟩
set_option maxHeartbeats 4000000 in
theorem rtag_any (s : ByteArray) (hs : s.size ≤ 9223372036854775806) (w : World) :
    Calls Try.prog 34 #[.string s] w fun e w' => e = .returned (.bool (tagL s.data.toList)) ∧ w' = w := by
  have HC := hid (consists_any s ⟨#[95, 46, 43, 45, 47, 61, 58]⟩ ⟨#[45]⟩ 24 (by omega) hs (by decide) (by decide))
  rw [tag_cons]
  go_enter Try.func34, Try.ntmps34
  go_wp2_with fail
  refine (HC.out _).mono ?_
  rintro e w1 ⟨rfl, rfl⟩
  go_wp2_with fail
  go_ret
  exact ⟨rfl, rfl⟩
theorem tagword : bits BinOp.or IntKind.u64 288063250384289792 2594214122853761024 = 2882277373238050816 := by kernel_rfl
set_option maxHeartbeats 4000000 in
theorem tagbytes_any (w : World) : Calls Try.prog 48 #[] w fun e w' => e = .returned (.agg #[.int .u64 2882277373238050816, .int .u64 576460745995190270]) ∧ Below w.heap.size w w' := by
  have hw := tagword
  go_enter Try.func48, Try.ntmps48
  go_wp2_with fail
  refine (bytes_any _).mono ?_
  rintro e w2 ⟨rfl, hb⟩
  have HB2 := hid (((Below.refl w.heap.size w).alloc (Nat.le_refl _) (.cells #[.int .u64 0, .int .u64 0] 51)).trans (hb.mono (by simp)))
  have HC := hid (show w2.heap[w.heap.size]? = some (.cells #[.int .u64 0, .int .u64 0] 51 (0, 0)) by rw [hb.block _ (by simp)]; exact heap_alloc_new _ _)
  have HS := hid (show w.heap.size < w2.heap.size by have := hb.size; simp at this; omega)
  clear hb
  generalize hB : w.heap.size = B at *
  have hrow : ∀ o, (w2.alloc o).heap[B]? = some (.cells #[.int .u64 0, .int .u64 0] 51 (0, 0)) := fun o => by
    rw [← HC.out]
    exact (Below.refl w2.heap.size w2).alloc (Nat.le_refl _) o |>.block B HS.out
  have q0 : ∀ o, (w2.alloc o).cell? ⟨B, 0, none⟩ = some (.int .u64 0) := fun o => by rw [cell_of_row _ _ _ _ _ _ (hrow o)]; rfl
  have q1 : ∀ o, (w2.alloc o).cell? ⟨B, 1, none⟩ = some (.int .u64 0) := fun o => by rw [cell_of_row _ _ _ _ _ _ (hrow o)]; rfl
  have f0 : ∀ o, (w2.alloc o).frozen? ⟨B, 0, none⟩ = false := fun o => frozen_of_row _ _ _ _ _ (hrow o)
  have f1 : ∀ o, (w2.alloc o).frozen? ⟨B, 1, none⟩ = false := fun o => frozen_of_row _ _ _ _ _ (hrow o)
  have hr1 := fun o => heap_setCell_same (w2.alloc o) B 0 _ 51 (.int .u64 2882277373238050816) (hrow o)
  have hr2 := fun o => heap_setCell_same ((w2.alloc o).setCell ⟨B, 0, none⟩ (.int .u64 2882277373238050816)) B 1 _ 51 (.int .u64 576460745995190270) (hr1 o)
  have HR := hid hr2
  have HBf := hid (fun o => ((HB2.out.alloc (by rw [← hB]; exact HB2.out.size) o).setCell (p := ⟨B, 0, none⟩) (Nat.le_refl _) (.int .u64 2882277373238050816)).setCell (p := ⟨B, 1, none⟩) (Nat.le_refl _) (.int .u64 576460745995190270))
  clear hrow hr1 hr2
  go_wp2_with fail
  have HR2 := HR.out (.cells #[.int .u64 2882277373238050816, .int .u64 576460745995190270] 51)
  have HB3 := HBf.out (.cells #[.int .u64 2882277373238050816, .int .u64 576460745995190270] 51)
  generalize ((w2.alloc (.cells #[.int .u64 2882277373238050816, .int .u64 576460745995190270] 51)).setCell ⟨B, 0, none⟩ (.int .u64 2882277373238050816)).setCell ⟨B, 1, none⟩ (.int .u64 576460745995190270) = wf at *
  have r0 : wf.cell? ⟨B, 0, none⟩ = some (.int .u64 2882277373238050816) := by rw [cell_of_row _ _ _ _ _ _ HR2]; rfl
  have r1 : wf.cell? ⟨B, 1, none⟩ = some (.int .u64 576460745995190270) := by rw [cell_of_row _ _ _ _ _ _ HR2]; rfl
  refine bodyPost_ret (v := .agg #[.int .u64 2882277373238050816, .int .u64 576460745995190270]) (by simp [results, Try.results48, go_sem, r0, r1]) rfl ⟨rfl, by rw [hB]; exact HB3⟩
set_option maxHeartbeats 4000000 in
theorem tag_any (s : ByteArray) (hs : s.size ≤ 9223372036854775806) (w : World) :
    Calls Try.prog 33 #[.string s] w fun e w' => e = .returned (.bool (tagL s.data.toList)) ∧ Below w.heap.size w w' := by
  have hl := data_size s
  have HA := hid (hasAll_any 2882277373238050816 576460745995190270 s hs)
  unfold tagL
  rw [hl]
  by_cases h0 : s.size = 0
  · have := size_zero s h0
    subst this
    clear hs hl h0 HA
    go_enter Try.func33, Try.ntmps33
    go_wp2_with fail
    go_ret
    exact ⟨rfl, Below.refl _ _⟩
  have hp : 0 < s.size := by omega
  have HC := c0_at s hp
  rw [decide_eq_true h0, Bool.true_and, ← HC]
  have hne := toList_ne s h0
  have hne2 : s.toList.isEmpty = false := by simpa using hne
  clear HC hl
  by_cases h1 : s.size ≤ 24
  · have h1' : (s.size : Int) ≤ 24 := by omega
    rw [decide_eq_true h1, Bool.true_and]
    by_cases h2 : s[0].toNat = 45
    · rw [decide_eq_false (by omega), Bool.false_and]
      have h2' : (s[0].toNat : Int) = 45 := by omega
      clear HA
      go_enter Try.func33, Try.ntmps33
      go_wp2_with fail
      go_ret
      exact ⟨rfl, Below.refl _ _⟩
    · rw [decide_eq_true h2, Bool.true_and]
      have h2' : ¬ (s[0].toNat : Int) = 45 := by omega
      have h3' : ((s[0].toNat : Int) != 45) = true := by simpa using h2'
      generalize allIn 2882277373238050816 576460745995190270 s.data.toList = ab at *
      go_enter Try.func33, Try.ntmps33
      go_wp2_with fail
      refine (tagbytes_any _).mono ?_
      rintro e w1 ⟨rfl, hb1⟩
      have HB1 := hid hb1
      clear hb1
      go_wp2_with fail
      refine (HA.out _).mono ?_
      rintro e w2 ⟨rfl, hb2⟩
      have HB2 := hid (bt HB1.out hb2)
      clear hb2
      go_wp2_with fail
      go_ret
      exact ⟨rfl, HB2.out⟩
  · have h1' : ¬ (s.size : Int) ≤ 24 := by omega
    rw [decide_eq_false h1, Bool.false_and]
    clear HA
    go_enter Try.func33, Try.ntmps33
    go_wp2_with fail
    go_ret
    exact ⟨rfl, Below.refl _ _⟩
end Go.Proofs.Ytdpclmogfnigdaa
