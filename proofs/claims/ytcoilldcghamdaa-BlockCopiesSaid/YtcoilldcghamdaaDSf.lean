/- Two disks, one sector of the first one bad: copies that end there. No conditions but those of each theorem. -/
import Derived.Test.YtcoilldcghamdaaSyZ
import Derived.KernelRfl
import Derived.Test.YtcoilldcghamdaaDSe
namespace Go.Proofs.Ytcoilldcghamdaa
open Go.RowKit
open OldD (DA Dk Co Un fp Gr Row Fresh hid hd hs gu nk good ldK ge vu Ar un stF chk3 chk4 rdV wrE wrK flK badU)
set_option linter.unusedVariables false
set_option linter.unnecessarySimpa false
set_option linter.unusedSimpArgs false
set_option maxRecDepth 10000
structure Gb (k : Dk) (P Q : List Int) (c : Nat) (b : Int) : Prop where
  u : ∃ d e, k.U = [⟨P, d, false⟩, ⟨Q, e, false⟩]
  down : k.down = false
  fuse : k.fuse = 0
  bad : ∀ x y, k.bad x y = decide (x = 0 ∧ y = b)
  F : k.F.length ≤ c
  wr : 0 ≤ k.wr ∧ k.wr ≤ c
theorem Gb.bd {k : Dk} {P Q : List Int} {c : Nat} {b : Int} (h : Gb k P Q c b) (hc : c ≤ 2 ^ 32) : Bd k := by
  unfold Bd
  have := h.F; have := h.wr; have := h.fuse
  omega
theorem Gb.hs {k : Dk} {P Q : List Int} {c : Nat} {b : Int} (h : Gb k P Q c b) {d x : Int} (hd' : d = 0 ∨ d = 1) (hx : 0 ≤ x ∧ x < (pick P Q d).length) : OldD.hs k d x = true ∧ (gu k.U d.toNat).mis = false ∧ (gu k.U d.toNat).now = pick P Q d := by
  obtain ⟨a, b, hu⟩ := h.u
  rcases hd' with rfl | rfl
  · simp only [pick, if_true] at hx ⊢
    simp only [OldD.hs, hd, hu]
    simp [gu, hx.1, hx.2]
  · have e : pick P Q 1 = Q := rfl
    rw [e] at hx ⊢
    simp only [OldD.hs, hd, hu]
    simp [gu, hx.1, hx.2]
theorem Gb.rd {k : Dk} {P Q : List Int} {c : Nat} {b : Int} (h : Gb k P Q c b) {d x : Int} (hd' : d = 0 ∨ d = 1) (hx : 0 ≤ x ∧ x < (pick P Q d).length) (hb : ¬ (d = 0 ∧ x = b)) : chk4 k d x = 0 ∧ chk3 k d x = 0 ∧ wrE k d x = 0 ∧ rdV k d x = (pick P Q d).getD x.toNat default := by
  obtain ⟨h1, h2, h3⟩ := h.hs hd' hx
  have e4 : chk4 k d x = 0 := by simp [chk4, h.down, h1, h2, h.bad, hb]
  have e3 : chk3 k d x = 0 := by simp [chk3, h.down, h1, h2]
  refine ⟨e4, e3, by simp [wrE, e3, h.fuse], ?_⟩
  unfold rdV
  rw [if_pos e4, h3]
  unfold ge
  rw [List.getD_eq_getElem?_getD]
  rfl
theorem Gb.rb {k : Dk} {P Q : List Int} {c : Nat} {b : Int} (h : Gb k P Q c b) (hx : 0 ≤ b ∧ b < P.length) : chk4 k 0 b = 7 ∧ rdV k 0 b = 0 := by
  obtain ⟨h1, h2, h3⟩ := h.hs (d := 0) (x := b) (.inl rfl) hx
  have e4 : chk4 k 0 b = 7 := by
    simp only [chk4, h.down, h1, h2, h.bad]
    simp
  refine ⟨e4, ?_⟩
  unfold rdV
  rw [if_neg (by rw [e4]; decide)]
theorem Gb.w1 {k : Dk} {P Q : List Int} {c : Nat} {b : Int} (h : Gb k P Q c b) {x : Int} (v : Int) (hx : 0 ≤ x ∧ x < Q.length) : Gb (wrK k 1 x v) P (Q.set x.toNat v) (c + 1) b := by
  obtain ⟨_, e3, _, _⟩ := h.rd (d := 1) (.inr rfl) hx (by omega)
  obtain ⟨a, b, hu⟩ := h.u
  have hf := h.fuse
  have hw : wrK k 1 x v = OldD.wrote k 1 x.toNat v := by
    unfold wrK
    rw [if_pos e3, if_neg (by omega), if_neg (by omega)]
    rfl
  rw [hw]
  refine ⟨⟨a, b, ?_⟩, h.down, h.fuse, fun y z => ?_, ?_, ?_⟩
  · simp [OldD.wrote, hu, gu]
  · simp only [OldD.wrote]
    split
    · rename_i hh
      rw [decide_eq_false (by omega)]
    · exact h.bad y z
  · have := h.F
    simp [OldD.wrote]; omega
  · have := h.wr
    simp [OldD.wrote]; omega
theorem Gd.sb {k : Dk} {P Q : List Int} {c : Nat} (h : Gd k P Q c) (b : Int) : Gb { k with bad := badU k.bad 0 b true } P Q c b := by
  refine ⟨h.u, h.down, h.fuse, fun x y => ?_, h.F, h.wr⟩
  show badU k.bad 0 b true x y = _
  unfold badU
  by_cases e : x = 0 ∧ y = b
  · rw [if_pos e, decide_eq_true e]
  · rw [if_neg e, decide_eq_false e]; exact h.bad x y
theorem setbad_c (m : Nat) (hm : m < 2 ^ 30) (k : Dk) (d t : Nat) (hd : d < k.U.length) (ht : t < (gu k.U d).now.length) :
    CallOK Try.prog 32 [.ptr 0 0 0 0, I (d : Int), I (t : Int), B true] [(0, .box (dbox m k))] (I 0) [(0, some (.box (dbox (m + 1) { k with bad := badU k.bad (d : Int) (t : Int) true })))] :=
  dk_call (cargs := [.int .i64 (d : Int), .int .i64 (t : Int), .bool true]) (cret := .int .i64 0) Try.call32 (fun E cs h => by
      simp only [RVs, RV, I, B] at h
      obtain ⟨_, _, rfl, rfl, _, _, rfl, rfl, _, _, rfl, rfl, rfl⟩ := h
      rfl) (fun E => by simp [RV, I]) fun W A c h hmn =>
    (OldD.setbad_ok h d t true hd ht (by omega)).mono fun e W' ⟨he, HH⟩ => ⟨he, _, HH.out.1, by show (if true = true then c.mn + 1 else c.mn) ≤ m + 1; rw [if_pos rfl]; omega, HH.out.2, fun x hx => by
      rcases OldD.fp_cases hx with rfl | rfl | hb | hb | ⟨i, hi, hb⟩
      · exact .inl OldD.fp_A
      · exact .inl OldD.fp_m
      · exact .inl (OldD.fp_u hb)
      · exact .inl (OldD.fp_f hb)
      · rcases hb with rfl | rfl
        · exact .inl (OldD.fp_n hi)
        · exact .inl (OldD.fp_d hi)⟩
/-- ones written to the second disk -/
def oK (k : Dk) (s : Int) : Nat → Dk
  | 0 => k
  | i + 1 => wrK (oK k s i) 1 (s + i) 1
def oL (Q : List Int) (s : Nat) : Nat → List Int
  | 0 => Q
  | i + 1 => (oL Q s i).set (s + i) 1
theorem oL_len (Q : List Int) (s : Nat) : ∀ i, (oL Q s i).length = Q.length
  | 0 => rfl
  | i + 1 => by rw [oL, List.length_set]; exact oL_len Q s i
theorem oL_at (Q : List Int) (s : Nat) : ∀ (i j : Nat), j < Q.length → (oL Q s i).getD j default = if s ≤ j ∧ j < s + i then 1 else Q.getD j default
  | 0, j, hj => by rw [if_neg (by omega)]; rfl
  | i + 1, j, hj => by
    have ih := oL_at Q s i j hj
    rw [oL, List.getD_eq_getElem?_getD, List.getElem?_set]
    by_cases e : s + i = j
    · subst e
      rw [if_pos rfl, if_pos (by rw [oL_len]; exact hj), if_pos (by omega)]; rfl
    · rw [if_neg e, ← List.getD_eq_getElem?_getD, ih]
      by_cases h : s ≤ j ∧ j < s + i
      · rw [if_pos h, if_pos (by omega)]
      · rw [if_neg h, if_neg (by omega)]
theorem oK_gb {k : Dk} {P Q : List Int} {c : Nat} {b : Int} (h : Gb k P Q c b) (s : Nat) : ∀ i, s + i ≤ Q.length → Gb (oK k (s : Int) i) P (oL Q s i) (c + i) b
  | 0, _ => h
  | i + 1, hi => by
    have ih := oK_gb h s i (by omega)
    have e : ((s : Int) + i).toNat = s + i := by omega
    have := ih.w1 (x := (s : Int) + i) 1 ⟨by omega, by rw [oL_len]; omega⟩
    rw [e] at this
    exact this
theorem cp_gb {k : Dk} {P Q : List Int} {c : Nat} {b : Int} (h : Gb k P Q c b) (hl : P.length = Q.length) (s : Nat) : ∀ i, s + i ≤ Q.length → (s : Int) + i ≤ b → Gb (cpK k (s : Int) i) P (cpL P Q s i) (c + i) b
  | 0, _, _ => h
  | i + 1, hi, hb => by
    have ih := cp_gb h hl s i (by omega) (by omega)
    have hr := ih.rd (d := 0) (x := (s : Int) + i) (.inl rfl) ⟨by omega, by show _ < (P.length : Int); omega⟩ (by omega)
    have e : ((s : Int) + i).toNat = s + i := by omega
    rw [cpK, hr.2.2.2]
    have := ih.w1 (x := (s : Int) + i) (P.getD (s + i) default) ⟨by omega, by rw [cpL_len]; omega⟩
    rw [e] at this
    rw [e, cpL]
    exact this
theorem brd_c {k : Dk} {P Q : List Int} {c : Nat} {b : Int} (g : Gb k P Q c b) (m N : Nat) (hN : N ≤ 1000) (hP : P.length = N) (hQ : Q.length = N) (d x : Int) (hd' : d = 0 ∨ d = 1) (hx : 0 ≤ x ∧ x < N) (hb : ¬ (d = 0 ∧ x = b)) :
    CallOK Try.prog 86 [.agg [.ptr 0 0 0 0, I d, I 0, I N], I x] [(0, .box (dbox m k))] (.tup [.val (.int .u64 ((pick P Q d).getD x.toNat default)), I 0]) [(0, some (.box (dbox m k)))] := by
  have h := spread_ok m k d 0 N x hx ⟨by omega, by omega, by omega⟩
  have hl : x < (pick P Q d).length := by unfold pick; split <;> omega
  obtain ⟨e4, _, _, ev⟩ := g.rd hd' ⟨hx.1, hl⟩ hb
  rw [Int.zero_add, e4, ev] at h
  exact h
theorem bwr_c {k : Dk} {P Q : List Int} {c : Nat} {b : Int} (g : Gb k P Q c b) (hc : c ≤ 2 ^ 32) (m N : Nat) (hN : N ≤ 1000) (hQ : Q.length = N) (x v : Int) (hx : 0 ≤ x ∧ x < N) :
    CallOK Try.prog 88 [.agg [.ptr 0 0 0 0, I 1, I 0, I N], I x, .val (.int .u64 v)] [(0, .box (dbox m k))] (I 0) [(0, some (.box (dbox m (wrK k 1 x v))))] := by
  have h := spwrite_ok m k 1 0 N x v hx ⟨by omega, by omega, by omega⟩ (g.bd hc)
  obtain ⟨_, _, ew, _⟩ := g.rd (d := 1) (x := x) (.inr rfl) ⟨hx.1, by show _ < (Q.length : Int); omega⟩ (by omega)
  rw [Int.zero_add, ew] at h
  exact h
set_option maxHeartbeats 4000000 in
theorem copy_bad {k : Dk} {P Q : List Int} {c : Nat} {b : Nat} (g : Gb k P Q c (b : Int)) (hc : c ≤ 1000) (mm N s m : Nat) (hN : N ≤ 1000) (hP : P.length = N) (hQ : Q.length = N) (hs : s + m ≤ N) (hb : s ≤ b ∧ b < s + m) :
    CallOK Try.prog 30 [.ifc 100 (.agg [.ptr 0 0 0 0, I 0, I 0, I N]), .ifc 100 (.agg [.ptr 0 0 0 0, I 1, I 0, I N]), I s, I m] [(0, .box (dbox mm k))] (I 7) [(0, some (.box (dbox mm (cpK k s (b - s)))))] := by
  refine CallOK.intro Try.call30 Try.func30 rfl rfl ⟨rfl, trivial, trivial⟩ ?_
  refine Safe.withLoop (loopAt Try.f30 0) [0] 51 (fun i : Nat => [(0, .ifc 100 (.agg [.ptr 0 0 0 0, I 0, I 0, I N])), (1, .ifc 100 (.agg [.ptr 0 0 0 0, I 1, I 0, I N])), (2, I s), (3, I m), (9, I ((s : Int) + i))]) (fun i => [(0, .box (dbox mm (cpK k s i)))]) (fun i => s + i ≤ b) (fun i => b - i) ?_ ?_
  · rintro i hi ih
    have gi := cp_gb g (by omega) s i (by omega) (by omega)
    have hq := cpL_len P Q s i
    have hp : (s : Int) + i < (s : Int) + m := by omega
    by_cases hlt : s + i < b
    · have rd := brd_c gi mm N hN hP (by omega) 0 ((s : Int) + i) (.inl rfl) ⟨by omega, by omega⟩ (by omega)
      have wr := bwr_c gi (by omega) mm N hN (by omega) ((s : Int) + i) ((pick P (cpL P Q s i) 0).getD ((s : Int) + i).toNat default) ⟨by omega, by omega⟩
      have hr := (gi.rd (d := 0) (x := (s : Int) + i) (.inl rfl) ⟨by omega, by show _ < (P.length : Int); omega⟩ (by omega)).2.2.2
      rw [← hr] at rd wr
      refine Safe.goto mixed 23 [⟨1100, [(4, .tt true)]⟩, ⟨1200, [(2, .inv 86 (.agg [.ptr ((0 : Nat)) ((0 : Nat)) ((0 : Nat)) ((0 : Nat)), I ((0 : Int)), I ((0 : Int)), I ((↑N : Int))]) [0] (.tup [.val (Value.int IntKind.u64 (rdV (cpK k (↑s : Int) i) (0 : Int) ((↑s : Int) + (↑i : Int)))), I ((0 : Int))]) [(0, some (.box (dbox mm (cpK k (↑s : Int) i))))])]⟩, ⟨1300, []⟩, ⟨1400, [(3, .inv 88 (.agg [.ptr ((0 : Nat)) ((0 : Nat)) ((0 : Nat)) ((0 : Nat)), I ((1 : Int)), I ((0 : Int)), I ((↑N : Int))]) [0] (I ((0 : Int))) [(0, some (.box (dbox mm (wrK (cpK k (↑s : Int) i) (1 : Int) ((↑s : Int) + (↑i : Int)) (rdV (cpK k (↑s : Int) i) (0 : Int) ((↑s : Int) + (↑i : Int)))))))])]⟩, ⟨1500, []⟩, ⟨1600, []⟩] [0, 1, 2, 3, 9] [0] (todo' := loopAt Go.Proofs.Try.f30 0) (sl := slotsOf 51 [(0, .ifc ((100 : Nat)) (.agg [.ptr ((0 : Nat)) ((0 : Nat)) ((0 : Nat)) ((0 : Nat)), I ((0 : Int)), I ((0 : Int)), I ((↑N : Int))])), (1, .ifc ((100 : Nat)) (.agg [.ptr ((0 : Nat)) ((0 : Nat)) ((0 : Nat)) ((0 : Nat)), I ((1 : Int)), I ((0 : Int)), I ((↑N : Int))])), (2, I ((↑s : Int))), (3, I ((↑m : Int))), (9, I ((↑s : Int) + (↑i : Int) + (1 : Int)))]) (hp := [(0, .box (dbox mm (wrK (cpK k (↑s : Int) i) (1 : Int) ((↑s : Int) + (↑i : Int)) (rdV (cpK k (↑s : Int) i) (0 : Int) ((↑s : Int) + (↑i : Int))))))]) (ob := [inK IntKind.i64 ((↑s : Int) + (↑m : Int)), decide ((↑s : Int) + (↑i : Int) < (↑s : Int) + (↑m : Int)) = true, MethOK Try.prog "Read" (AV.ifc (100 : Nat) (AV.agg [AV.ptr (0 : Nat) (0 : Nat) (0 : Nat) (0 : Nat), AV.val (Value.int IntKind.i64 (0 : Int)), AV.val (Value.int IntKind.i64 (0 : Int)), AV.val (Value.int IntKind.i64 (↑N : Int))])) (86 : Nat) (AV.agg [AV.ptr (0 : Nat) (0 : Nat) (0 : Nat) (0 : Nat), AV.val (Value.int IntKind.i64 (0 : Int)), AV.val (Value.int IntKind.i64 (0 : Int)), AV.val (Value.int IntKind.i64 (↑N : Int))]), CallOK Try.prog (86 : Nat) [AV.agg [AV.ptr (0 : Nat) (0 : Nat) (0 : Nat) (0 : Nat), AV.val (Value.int IntKind.i64 (0 : Int)), AV.val (Value.int IntKind.i64 (0 : Int)), AV.val (Value.int IntKind.i64 (↑N : Int))], AV.val (Value.int IntKind.i64 ((↑s : Int) + (↑i : Int)))] [((0 : Nat), Ob.box (dbox mm (cpK k (↑s : Int) i)))] (AV.tup [AV.val (Value.int IntKind.u64 (rdV (cpK k (↑s : Int) i) (0 : Int) ((↑s : Int) + (↑i : Int)))), AV.val (Value.int IntKind.i64 (0 : Int))]) [((0 : Nat), some (Ob.box (dbox mm (cpK k (↑s : Int) i))))], MethOK Try.prog "Write" (AV.ifc (100 : Nat) (AV.agg [AV.ptr (0 : Nat) (0 : Nat) (0 : Nat) (0 : Nat), AV.val (Value.int IntKind.i64 (1 : Int)), AV.val (Value.int IntKind.i64 (0 : Int)), AV.val (Value.int IntKind.i64 (↑N : Int))])) (88 : Nat) (AV.agg [AV.ptr (0 : Nat) (0 : Nat) (0 : Nat) (0 : Nat), AV.val (Value.int IntKind.i64 (1 : Int)), AV.val (Value.int IntKind.i64 (0 : Int)), AV.val (Value.int IntKind.i64 (↑N : Int))]), CallOK Try.prog (88 : Nat) [AV.agg [AV.ptr (0 : Nat) (0 : Nat) (0 : Nat) (0 : Nat), AV.val (Value.int IntKind.i64 (1 : Int)), AV.val (Value.int IntKind.i64 (0 : Int)), AV.val (Value.int IntKind.i64 (↑N : Int))], AV.val (Value.int IntKind.i64 ((↑s : Int) + (↑i : Int))), AV.val (Value.int IntKind.u64 (rdV (cpK k (↑s : Int) i) (0 : Int) ((↑s : Int) + (↑i : Int))))] [((0 : Nat), Ob.box (dbox mm (cpK k (↑s : Int) i)))] (AV.val (Value.int IntKind.i64 (0 : Int))) [((0 : Nat), some (Ob.box (dbox mm (wrK (cpK k (↑s : Int) i) (1 : Int) ((↑s : Int) + (↑i : Int)) (rdV (cpK k (↑s : Int) i) (0 : Int) ((↑s : Int) + (↑i : Int)))))))], inK IntKind.i64 ((↑s : Int) + (↑i : Int) + (1 : Int))]) rfl rfl (by kernel_rfl) ⟨(by simp only [inK]; omega), (decide_eq_true hp), (MethOK.of (by kernel_rfl)), rd, (MethOK.of (by kernel_rfl)), wr, (by simp only [inK]; omega), trivial⟩ rfl ⟨rfl, trivial, trivial⟩ ?_
      · exact ih (i + 1) (by omega) (by omega)
    · have eb : (s : Int) + i = (b : Int) := by omega
      have rd := spread_ok mm (cpK k s i) 0 0 N ((s : Int) + i) ⟨by omega, by omega⟩ ⟨by omega, by omega, by omega⟩
      obtain ⟨r1, r2⟩ := gi.rb ⟨by omega, by omega⟩
      rw [Int.zero_add, eb, r1, r2, ← eb] at rd
      have ei : b - s = i := by omega
      rw [ei]
      refine Safe.ends mixed Go.Proofs.Try.func30 15 [⟨1100, [(4, .tt true)]⟩, ⟨1200, [(2, .inv 86 (.agg [.ptr ((0 : Nat)) ((0 : Nat)) ((0 : Nat)) ((0 : Nat)), I ((0 : Int)), I ((0 : Int)), I ((↑N : Int))]) [0] (.tup [.val (Value.int IntKind.u64 (0 : Int)), I ((7 : Int))]) [(0, some (.box (dbox mm (cpK k (↑s : Int) i))))])]⟩, ⟨1300, []⟩, ⟨1400, []⟩] (r := I ((7 : Int))) (hp := [(0, .box (dbox mm (cpK k (↑s : Int) i)))]) (ob := [inK IntKind.i64 ((↑s : Int) + (↑m : Int)), decide ((↑s : Int) + (↑i : Int) < (↑s : Int) + (↑m : Int)) = true, MethOK Try.prog "Read" (AV.ifc (100 : Nat) (AV.agg [AV.ptr (0 : Nat) (0 : Nat) (0 : Nat) (0 : Nat), AV.val (Value.int IntKind.i64 (0 : Int)), AV.val (Value.int IntKind.i64 (0 : Int)), AV.val (Value.int IntKind.i64 (↑N : Int))])) (86 : Nat) (AV.agg [AV.ptr (0 : Nat) (0 : Nat) (0 : Nat) (0 : Nat), AV.val (Value.int IntKind.i64 (0 : Int)), AV.val (Value.int IntKind.i64 (0 : Int)), AV.val (Value.int IntKind.i64 (↑N : Int))]), CallOK Try.prog (86 : Nat) [AV.agg [AV.ptr (0 : Nat) (0 : Nat) (0 : Nat) (0 : Nat), AV.val (Value.int IntKind.i64 (0 : Int)), AV.val (Value.int IntKind.i64 (0 : Int)), AV.val (Value.int IntKind.i64 (↑N : Int))], AV.val (Value.int IntKind.i64 ((↑s : Int) + (↑i : Int)))] [((0 : Nat), Ob.box (dbox mm (cpK k (↑s : Int) i)))] (AV.tup [AV.val (Value.int IntKind.u64 (0 : Int)), AV.val (Value.int IntKind.i64 (7 : Int))]) [((0 : Nat), some (Ob.box (dbox mm (cpK k (↑s : Int) i))))]]) rfl (by kernel_rfl) ⟨(by simp only [inK]; omega), (decide_eq_true hp), (MethOK.of (by kernel_rfl)), rd, trivial⟩ rfl ⟨ObLe.refl _, trivial⟩ ⟨rfl, trivial, trivial⟩ rfl
  · intro H
    have ft := fits_any N s m (by omega)
    rw [decide_eq_true (show 0 ≤ (s : Int) ∧ (s : Int) ≤ N ∧ 0 ≤ (m : Int) ∧ (m : Int) ≤ N - s by omega)] at ft
    refine Safe.goto mixed 12 [⟨1100, []⟩, ⟨1200, [(1, .inv 87 (.agg [.ptr ((0 : Nat)) ((0 : Nat)) ((0 : Nat)) ((0 : Nat)), I ((0 : Int)), I ((0 : Int)), I ((↑N : Int))]) [0] (I ((↑N : Int))) []), (4, .call [] (B (true)) []), (8, .inv 87 (.agg [.ptr ((0 : Nat)) ((0 : Nat)) ((0 : Nat)) ((0 : Nat)), I ((1 : Int)), I ((0 : Int)), I ((↑N : Int))]) [0] (I ((↑N : Int))) []), (11, .call [] (B (true)) [])]⟩, ⟨1300, []⟩] [0, 1, 2, 3, 9] [0] (todo' := loopAt Go.Proofs.Try.f30 0) (sl := slotsOf 51 [(0, .ifc ((100 : Nat)) (.agg [.ptr ((0 : Nat)) ((0 : Nat)) ((0 : Nat)) ((0 : Nat)), I ((0 : Int)), I ((0 : Int)), I ((↑N : Int))])), (1, .ifc ((100 : Nat)) (.agg [.ptr ((0 : Nat)) ((0 : Nat)) ((0 : Nat)) ((0 : Nat)), I ((1 : Int)), I ((0 : Int)), I ((↑N : Int))])), (2, I ((↑s : Int))), (3, I ((↑m : Int))), (9, I ((↑s : Int)))]) (hp := [(0, .box (dbox mm k))]) (ob := [MethOK Try.prog "Size" (AV.ifc (100 : Nat) (AV.agg [AV.ptr (0 : Nat) (0 : Nat) (0 : Nat) (0 : Nat), AV.val (Value.int IntKind.i64 (0 : Int)), AV.val (Value.int IntKind.i64 (0 : Int)), AV.val (Value.int IntKind.i64 (↑N : Int))])) (87 : Nat) (AV.agg [AV.ptr (0 : Nat) (0 : Nat) (0 : Nat) (0 : Nat), AV.val (Value.int IntKind.i64 (0 : Int)), AV.val (Value.int IntKind.i64 (0 : Int)), AV.val (Value.int IntKind.i64 (↑N : Int))]), CallOK Try.prog (87 : Nat) [AV.agg [AV.ptr (0 : Nat) (0 : Nat) (0 : Nat) (0 : Nat), AV.val (Value.int IntKind.i64 (0 : Int)), AV.val (Value.int IntKind.i64 (0 : Int)), AV.val (Value.int IntKind.i64 (↑N : Int))]] [((0 : Nat), Ob.box (dbox mm k))] (AV.val (Value.int IntKind.i64 (↑N : Int))) [], CallOK Try.prog (48 : Nat) ([] ++ [AV.val (Value.int IntKind.i64 (↑N : Int)), AV.val (Value.int IntKind.i64 (↑s : Int)), AV.val (Value.int IntKind.i64 (↑m : Int))] ++ []) [] (AV.val (Value.bool true)) [], MethOK Try.prog "Size" (AV.ifc (100 : Nat) (AV.agg [AV.ptr (0 : Nat) (0 : Nat) (0 : Nat) (0 : Nat), AV.val (Value.int IntKind.i64 (1 : Int)), AV.val (Value.int IntKind.i64 (0 : Int)), AV.val (Value.int IntKind.i64 (↑N : Int))])) (87 : Nat) (AV.agg [AV.ptr (0 : Nat) (0 : Nat) (0 : Nat) (0 : Nat), AV.val (Value.int IntKind.i64 (1 : Int)), AV.val (Value.int IntKind.i64 (0 : Int)), AV.val (Value.int IntKind.i64 (↑N : Int))]), CallOK Try.prog (87 : Nat) [AV.agg [AV.ptr (0 : Nat) (0 : Nat) (0 : Nat) (0 : Nat), AV.val (Value.int IntKind.i64 (1 : Int)), AV.val (Value.int IntKind.i64 (0 : Int)), AV.val (Value.int IntKind.i64 (↑N : Int))]] [((0 : Nat), Ob.box (dbox mm k))] (AV.val (Value.int IntKind.i64 (↑N : Int))) [], CallOK Try.prog (48 : Nat) ([] ++ [AV.val (Value.int IntKind.i64 (↑N : Int)), AV.val (Value.int IntKind.i64 (↑s : Int)), AV.val (Value.int IntKind.i64 (↑m : Int))] ++ []) [] (AV.val (Value.bool true)) []]) rfl rfl (by kernel_rfl) ⟨(MethOK.of (by kernel_rfl)), (spsize_any (mm) (k) ((0 : Int)) ((0 : Int)) ((↑N : Int))), ft, (MethOK.of (by kernel_rfl)), (spsize_any (mm) (k) ((1 : Int)) ((0 : Int)) ((↑N : Int))), ft, trivial⟩ rfl ⟨rfl, trivial, trivial⟩ ?_
    · exact H 0 (by omega)
theorem ob_copy (ty : Nat) (P l : List Int) (s k : Nat) (hk : k = l.length) (hs : s + l.length ≤ P.length) : ObLe (.vec ty 1 P.length (copyRow (rowG encU P) s k (rowG encU l))) (.vec ty 1 P.length (rowG encU (ovL P s l l.length))) := by
  subst hk
  refine ⟨rfl, rfl, rfl, fun q hq => ?_⟩
  unfold copyRow rowG
  rw [ovL_at P s l l.length q hq]
  by_cases h : s ≤ q ∧ q < s + l.length
  · rw [if_pos h, if_pos h]
  · rw [if_neg h, if_neg h]
theorem ob_copyq (ty : Nat) (P Q : List Int) (s k m : Nat) (hk : k = m) (hl : P.length = Q.length) (hs : s + m ≤ Q.length) : ObLe (.vec ty 1 Q.length (copyRow (rowG encU Q) s k (shiftR (rowG encU P) s))) (.vec ty 1 Q.length (rowG encU (cpL P Q s m))) := by
  subst hk
  refine ⟨rfl, rfl, rfl, fun q hq => ?_⟩
  unfold copyRow
  simp only [shiftR_at]
  unfold rowG
  rw [cpL_at P Q s k q hq]
  by_cases h : s ≤ q ∧ q < s + k
  · rw [if_pos h, if_pos h, show s + (q - s) = q by omega]
  · rw [if_neg h, if_neg h]
end Go.Proofs.Ytcoilldcghamdaa
