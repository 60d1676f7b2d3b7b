/- The program's New: its walk. No conditions but those of each theorem. -/
import Derived.Test.YtfaeieeokelokaaM
import Derived.Deep.RegionLaw
import Derived.Deep.AppendLies
namespace Go.Proofs.Ytfaeieeokelokaa
open Go.ChangeShapes Go.WideShapes Go.ChangeAt Go.RowKit
set_option linter.unusedVariables false
set_option linter.unusedSimpArgs false
theorem new_da (W : World) : DA ((W.alloc (.map #[] 0)).alloc (.cells #[.slice none 0 0, .map (some W.heap.size), .slice none 0 0, .int .i64 0, .bool false, .int .i64 0] 78)) (W.heap.size + 1) ⟨none, 0, none, 0, W.heap.size, 0, []⟩ (nk []) where
  blk := by
    have := World.ownsRow_lit (base := 0) (e := 78) (size := 6) (W.alloc (.map #[] 0)) #[.slice none 0 0, .map (some W.heap.size), .slice none 0 0, .int .i64 0, .bool false, .int .i64 0] 1 (Nat.zero_le _) (by unfold maxLen; omega) rfl
    rw [World.size_alloc] at this
    exact this
  ru := World.ownsRow_nil _ _ _ _
  rf := World.ownsRow_nil _ _ _ _
  mp := ⟨_, (World.ownsMap_made W Try.prog 83 (unitElem (H := Unit))).alloc _, fun d t _ _ => rfl⟩
  rn i hi := by simp [nk] at hi
  rd i hi := by simp [nk] at hi
  lb := rfl
  ld i hi := by simp [nk] at hi
  b8 := by simp [nk]
  bn i hi := by simp [nk] at hi
  fi i hi := by simp [nk] at hi
  sep := ⟨by simp, by simp [oblk], by simp [oblk], by simp [oblk], by simp [oblk], fun g hg => by simp [oblk] at hg, fun i hi => by simp at hi, fun i hi => by simp at hi, fun i j hi => by simp at hi, fun i j hi => by simp at hi⟩
set_option maxRecDepth 100000 in
set_option maxHeartbeats 8000000 in
theorem new_ok (a : Option Addr) (cap : Nat) (X : List Int) (W : World) (h8 : X.length ≤ 8) (hX : ∀ i, i < X.length → good (ge X i)) (hA : Ar W a X) :
    Calls Try.prog 13 #[.slice a X.length cap] W fun e W' => ∃ A, e = .returned (.tuple #[.pointer (some ⟨A, 0, none⟩), .int .i64 0]) ∧ Hid (∃ c, c.mn = 0 ∧ DA W' A c (nk X) ∧ Below W.heap.size W W' ∧ ∀ x ∈ fp A c, W.heap.size ≤ x) := by
  have hmm := @run_makeMap Try.prog
  have HX := hid hX
  have HA := hid hA
  obtain ⟨i0, hi, hz0, hz1, hz2⟩ := info_parts Try.info26
  have hmk : ∀ (w : World) (z : Nat), z ≤ 65536 → (Instr.makeSlice 36 (.int .i64 (z : Int)) (.int .i64 (z : Int))).run Try.prog w = .ok (.slice (some ⟨w.heap.size, 0, none⟩) z z) (w.alloc (.cells (madeCells #[.int .u64 0] z) 26)) := fun w z hz => by
    have := run_make (P := Try.prog) w 36 26 i0 (.int .u64 0) Try.underlying36 hi hz0 .i64 .i64 (z : Int) (z : Int) (by omega) (Int.le_refl _) (by rw [hz2]; omega) (by omega)
    rw [hz1] at this
    simpa [Value.cells] using this
  have HMK := hid hmk
  obtain ⟨i1, hi1, hi2, hi3, hi4⟩ := info_parts Try.info80
  have HI1 := hid hi1; have HI2 := hid hi2; have HI3 := hid hi3; have HI4 := hid hi4
  clear hX hA hi hz0 hz1 hz2 hmk hi1 hi2 hi3 hi4
  go_enter Try.func13, Try.ntmps13
  go_wp2_with fail
  have HB0 := hid (((Below.refl W.heap.size W).alloc (Nat.le_refl _) (.map #[] 0)).alloc (by simp) (.cells #[.slice none 0 0, .map (some W.heap.size), .slice none 0 0, .int .i64 0, .bool false, .int .i64 0] 78))
  have HD0 := hid (new_da W)
  generalize ((W.alloc (.map #[] 0)).alloc (.cells #[.slice none 0 0, .map (some W.heap.size), .slice none 0 0, .int .i64 0, .bool false, .int .i64 0] 78)) = W0 at *
  go_loopw [15] (fun iv wr => ∃ (j : Nat) (c : Co), j ≤ X.length ∧ iv = .int .i64 (j : Int) ∧ Hid (c.mn = 0 ∧ DA wr (W.heap.size + 1) c (nk (X.take j)) ∧ Below W.heap.size W wr ∧ ∀ x ∈ fp (W.heap.size + 1) c, W.heap.size ≤ x)) (fun iv _ => X.length - (intOf iv).toNat)
  case atStart => exact ⟨0, _, by omega, rfl, hid ⟨rfl, by simpa [nk] using HD0.out, HB0.out, by intro x hx; simp [fp, oblk] at hx; omega⟩⟩
  case round =>
    obtain ⟨j, c, hj, rfl, HS⟩ := hrel
    by_cases hlt : j < X.length
    · have hlt' : (j : Int) < (X.length : Int) := by omega
      obtain ⟨b, o, rfl, hb, hcell⟩ := (HA.out.resolve_left (by omega))
      have x0 := (HS.out.2.2.1.cell (p := ⟨b, o + j, none⟩) hb).trans (hcell j hlt)
      have hgz := HX.out j hlt
      unfold good at hgz
      have HTK := hid (show X.take (j + 1) = X.take j ++ [ge X j] by rw [List.take_succ_eq_append_getElem hlt]; unfold ge; rw [List.getElem?_eq_getElem hlt]; rfl)
      obtain ⟨z, hz⟩ : ∃ z : Nat, ge X j = (z : Int) := ⟨(ge X j).toNat, by omega⟩
      rw [hz] at x0 hgz HTK
      have hmk := HMK.out
      have hzn : z ≤ 65536 := by omega
      have c0 := HS.out.2.1.c0
      have f0 := HS.out.2.1.fz 0
      clear hcell hz
      go_wp2_with fail
      have HJ := hid (show (nk (X.take j)).U.length < 8 by simp [nk]; omega)
      have HZ := hid (show 1 ≤ z ∧ z ≤ 65536 by omega)
      have hAl : W.heap.size + 1 < wr.heap.size := HS.out.2.1.lt
      have hAl2 : W.heap.size < wr.heap.size := by omega
      have hAl3 : W.heap.size < wr.heap.size + 1 := by omega
      have HDR := hid (HS.out.2.1.below (W' := wr.drew) (Below.refl _ _).drew)
      have hru : (((wr.drew.alloc (.cells (madeCells #[.int .u64 0] z) 26)).alloc (.cells (madeCells #[.int .u64 0] z) 26)).alloc (.cells #[.slice (some ⟨wr.heap.size, 0, none⟩) z z, .slice (some ⟨wr.heap.size + 1, 0, none⟩) z z, .bool false] 80)).ownsRow 0 80 3 (.slice c.ua (nk (X.take j)).U.length c.uc) (nk (X.take j)).U.length (ck 3 (nk (X.take j)).U.length (uf c.bs (nk (X.take j)).U)) := ((HDR.out.ru.alloc _).alloc _).alloc _
      have hru2 : (((wr.drew.alloc (.cells (madeCells #[.int .u64 0] z) 26)).alloc (.cells (madeCells #[.int .u64 0] z) 26)).alloc (.cells #[.slice (some ⟨wr.heap.size + 1, 0, none⟩) z z, .slice (some ⟨wr.heap.size, 0, none⟩) z z, .bool false] 80)).ownsRow 0 80 3 (.slice c.ua (nk (X.take j)).U.length c.uc) (nk (X.take j)).U.length (ck 3 (nk (X.take j)).U.length (uf c.bs (nk (X.take j)).U)) := ((HDR.out.ru.alloc _).alloc _).alloc _
      have n1 := World.news_of_block (w := ((wr.drew.alloc (.cells (madeCells #[.int .u64 0] z) 26)).alloc (.cells (madeCells #[.int .u64 0] z) 26)).alloc (.cells #[.slice (some ⟨wr.heap.size, 0, none⟩) z z, .slice (some ⟨wr.heap.size + 1, 0, none⟩) z z, .bool false] 80)) (cs := #[.slice (some ⟨wr.heap.size, 0, none⟩) z z, .slice (some ⟨wr.heap.size + 1, 0, none⟩) z z, .bool false]) (t := 80) (fr := (0, 0)) (B := wr.heap.size + 1 + 1) (by have := heap_alloc_new ((wr.drew.alloc (.cells (madeCells #[.int .u64 0] z) 26)).alloc (.cells (madeCells #[.int .u64 0] z) 26)) (.cells #[.slice (some ⟨wr.heap.size, 0, none⟩) z z, .slice (some ⟨wr.heap.size + 1, 0, none⟩) z z, .bool false] 80); rw [World.size_alloc, World.size_alloc] at this; exact this)
      have n2 := World.news_of_block (w := ((wr.drew.alloc (.cells (madeCells #[.int .u64 0] z) 26)).alloc (.cells (madeCells #[.int .u64 0] z) 26)).alloc (.cells #[.slice (some ⟨wr.heap.size + 1, 0, none⟩) z z, .slice (some ⟨wr.heap.size, 0, none⟩) z z, .bool false] 80)) (cs := #[.slice (some ⟨wr.heap.size + 1, 0, none⟩) z z, .slice (some ⟨wr.heap.size, 0, none⟩) z z, .bool false]) (t := 80) (fr := (0, 0)) (B := wr.heap.size + 1 + 1) (by have := heap_alloc_new ((wr.drew.alloc (.cells (madeCells #[.int .u64 0] z) 26)).alloc (.cells (madeCells #[.int .u64 0] z) 26)) (.cells #[.slice (some ⟨wr.heap.size + 1, 0, none⟩) z z, .slice (some ⟨wr.heap.size, 0, none⟩) z z, .bool false] 80); rw [World.size_alloc, World.size_alloc] at this; exact this)
      have HN1 := hid n1; have HN2 := hid n2; have HRU := hid hru; have HRU2 := hid hru2
      have HOR1 := hid (show (wr.heap.size = wr.drew.heap.size ∧ wr.heap.size + 1 = wr.drew.heap.size + 1) ∨ (wr.heap.size = wr.drew.heap.size + 1 ∧ wr.heap.size + 1 = wr.drew.heap.size) from .inl ⟨rfl, rfl⟩)
      have HOR2 := hid (show (wr.heap.size + 1 = wr.drew.heap.size ∧ wr.heap.size = wr.drew.heap.size + 1) ∨ (wr.heap.size + 1 = wr.drew.heap.size + 1 ∧ wr.heap.size = wr.drew.heap.size) from .inr ⟨rfl, rfl⟩)
      clear n1 n2 hru hru2
      go_region_law (first | (refine step_append_lies _ rfl (.tmp 29) (.tmp 35) 75 rfl 0 80 i1 (.agg #[.slice none 0 0, .slice none 0 0, .bool false]) 3 56 Try.underlying75 HI1.out HI2.out HI3.out HI4.out rfl (by decide) (.slice c.ua (nk (X.take j)).U.length c.uc) (nk (X.take j)).U.length (ck 3 (nk (X.take j)).U.length (uf c.bs (nk (X.take j)).U)) (by simp [Act.eval, Act.put]) HRU.out ⟨wr.heap.size + 1 + 1, 0, none⟩ 1 1 [.slice (some ⟨wr.heap.size, 0, none⟩) z z, .slice (some ⟨wr.heap.size + 1, 0, none⟩) z z, .bool false] (by simp [Act.eval, Act.put]) rfl HN1.out (by simp [Value.oneCell']) (by omega) (by have := HJ.out; unfold maxLen; omega) (by have := HJ.out; omega) (by omega) _ rfl ?_; intro g4 uc4 w4 hown4 hgrow4 hlie4 hlt4; obtain ⟨a4, f4, hD4, hG4, hF4⟩ := DA.addN HDR.out z HZ.out.1 HZ.out.2 HJ.out (wr.heap.size) (wr.heap.size + 1) HOR1.out g4 uc4 _ w4 rfl hown4 hgrow4 hlie4; have HD4 := hid hD4; have HG4 := hid hG4; have HF4 := hid hF4; clear hD4 hG4 hF4 hown4 hgrow4 hlie4 hlt4) | (refine step_append_lies _ rfl (.tmp 29) (.tmp 35) 75 rfl 0 80 i1 (.agg #[.slice none 0 0, .slice none 0 0, .bool false]) 3 56 Try.underlying75 HI1.out HI2.out HI3.out HI4.out rfl (by decide) (.slice c.ua (nk (X.take j)).U.length c.uc) (nk (X.take j)).U.length (ck 3 (nk (X.take j)).U.length (uf c.bs (nk (X.take j)).U)) (by simp [Act.eval, Act.put]) HRU2.out ⟨wr.heap.size + 1 + 1, 0, none⟩ 1 1 [.slice (some ⟨wr.heap.size + 1, 0, none⟩) z z, .slice (some ⟨wr.heap.size, 0, none⟩) z z, .bool false] (by simp [Act.eval, Act.put]) rfl HN2.out (by simp [Value.oneCell']) (by omega) (by have := HJ.out; unfold maxLen; omega) (by have := HJ.out; omega) (by omega) _ rfl ?_; intro g4 uc4 w4 hown4 hgrow4 hlie4 hlt4; obtain ⟨a4, f4, hD4, hG4, hF4⟩ := DA.addN HDR.out z HZ.out.1 HZ.out.2 HJ.out (wr.heap.size + 1) (wr.heap.size) HOR2.out g4 uc4 _ w4 rfl hown4 hgrow4 hlie4; have HD4 := hid hD4; have HG4 := hid hG4; have HF4 := hid hF4; clear hD4 hG4 hF4 hown4 hgrow4 hlie4 hlt4))
      all_goals
        have HE := hid (show nk (X.take (j + 1)) = { nk (X.take j) with U := (nk (X.take j)).U ++ [un (z : Int)] } by rw [HTK.out]; simp [nk])
        have HBn := hid (HS.out.2.2.1.drew.trans (HG4.out.below (B := W.heap.size) (fun x hx => by
          rcases List.mem_cons.1 hx with rfl | hx
          · omega
          · exact HS.out.2.2.2 x (fp_u hx)) (by show W.heap.size ≤ wr.heap.size; omega)))
        have HFr := hid (show ∀ x ∈ fp (W.heap.size + 1) _, W.heap.size ≤ x from fun x hx => (HF4.out x hx).elim (fun h => HS.out.2.2.2 x h) (fun h => by have h9 : wr.heap.size ≤ x := h; omega))
        obtain ⟨c9, hN⟩ : ∃ c9 : Co, c9.mn = 0 ∧ DA (w4.setCell ⟨W.heap.size + 1, 0, none⟩ (.slice (some ⟨g4, 0, none⟩) ((nk (X.take j)).U.length + 1) uc4)) (W.heap.size + 1) c9 (nk (X.take (j + 1))) ∧ Below W.heap.size W (w4.setCell ⟨W.heap.size + 1, 0, none⟩ (.slice (some ⟨g4, 0, none⟩) ((nk (X.take j)).U.length + 1) uc4)) ∧ ∀ x ∈ fp (W.heap.size + 1) c9, W.heap.size ≤ x := by
          refine ⟨_, ?_, ?_, HBn.out, HFr.out⟩
          · exact HS.out.1
          · rw [HE.out]; exact HD4.out
        have HN := hid hN
        clear hN
        clear HD4 HG4 HF4 HBn HFr HE a4 f4 x0 c0 f0 hmk
        go_wp2_with fail
        go_roundw
        case rel => exact ⟨j + 1, c9, by omega, by go_num, HN⟩
        case measure => simp [intOf]; omega
    · obtain rfl : j = X.length := by omega
      have hlt' : ¬ (X.length : Int) < (X.length : Int) := by omega
      go_wp2_with fail
      go_ret2
      exact ⟨W.heap.size + 1, rfl, hid ⟨c, HS.out.1, by have := HS.out.2.1; rw [List.take_length] at this; exact this, HS.out.2.2.1, HS.out.2.2.2⟩⟩
end Go.Proofs.Ytfaeieeokelokaa
