/- Tracked: what is known of the sectors of a device, made. No conditions but those of each theorem. -/
import Derived.Test.YtfaeieeokelokaaAb
import Derived.Deep.RegionLaw
import Derived.Deep.AppendLies
namespace Go.Proofs.Ytfaeieeokelokaa
open Go.ChangeShapes Go.WideShapes Go.ChangeAt Go.RowKit
set_option linter.unusedVariables false
set_option linter.unusedSimpArgs false
/-- a track that is being built -/
structure TB (B : Nat) (W : World) (t : Nat) (ua : Option Addr) (uc n : Nat) (G : Nat → Nat × Nat) (f : Nat → Sc) : Prop where
  blk : W.ownsRow 0 93 1 (.slice (some ⟨t, 0, none⟩) 1 1) 1 [.slice ua n uc]
  row : W.ownsRow 0 95 3 (.slice ua n uc) n (ck 3 n (sf G f))
  inn : ∀ i, i < n → Row W (G i).1 (G i).2 (f i).S
  st : B ≤ t
  su : ∀ g, (Value.slice ua n uc).ownBlock = some g → B ≤ g ∧ g ≠ t
  sg : ∀ i, i < n → B ≤ (G i).1 ∧ (G i).1 ≠ t ∧ (Value.slice ua n uc).ownBlock ≠ some (G i).1
theorem TB.below {B : Nat} {W W' : World} {t : Nat} {ua : Option Addr} {uc n : Nat} {G : Nat → Nat × Nat} {f : Nat → Sc} (h : TB B W t ua uc n G f) (hb : Below W.heap.size W W') : TB B W' t ua uc n G f where
  blk := own_gr h.blk (Gr.of_below hb []) (fun _ _ => by simp)
  row := own_gr h.row (Gr.of_below hb []) (fun _ _ => by simp)
  inn i hi := (h.inn i hi).gr (Gr.of_below hb []) (by simp)
  st := h.st
  su := h.su
  sg := h.sg
theorem TB.add {B : Nat} {W : World} {t : Nat} {ua : Option Addr} {uc n : Nat} {G : Nat → Nat × Nat} {f : Nat → Sc} (h : TB B W t ua uc n G f) (hB : B ≤ W.heap.size) (x : Int) (hf : f n = ⟨[x], true, x⟩) (g uc' : Nat) (W1 W2 : World)
    (hW1 : W1 = (W.alloc (.cells #[.int .u64 x] 26)).alloc (.cells #[.slice (some ⟨W.heap.size, 0, none⟩) 1 1, .bool true, .int .u64 x] 95))
    (hr : W2.ownsRow 0 95 3 (.slice (some ⟨g, 0, none⟩) (n + 1) uc') (n + 1) (ck 3 n (sf G f) ++ [.slice (some ⟨W.heap.size, 0, none⟩) 1 1, .bool true, .int .u64 x]))
    (hg : W1.grownBy W2 (Value.slice ua n uc).ownBlock) (hlie : (Value.slice ua n uc).ownBlock = some g ∨ g = W1.heap.size) :
    W2.cell? ⟨t, 0, none⟩ = some (.slice ua n uc) ∧ W2.frozen? ⟨t, 0, none⟩ = false ∧
    TB B (W2.setCell ⟨t, 0, none⟩ (.slice (some ⟨g, 0, none⟩) (n + 1) uc')) t (some ⟨g, 0, none⟩) uc' (n + 1) (up G n (W.heap.size, 1)) f ∧ Below B W (W2.setCell ⟨t, 0, none⟩ (.slice (some ⟨g, 0, none⟩) (n + 1) uc')) := by
  have hs : W1.heap.size = W.heap.size + 2 := by rw [hW1]; simp
  have hb1 : Below W.heap.size W W1 := by rw [hW1]; exact ((Below.refl _ _).alloc (Nat.le_refl _) _).alloc (by simp) _
  have hbb : Below (W.alloc (.cells #[.int .u64 x] 26)).heap.size (W.alloc (.cells #[.int .u64 x] 26)) W1 := by rw [hW1]; exact (Below.refl _ _).alloc (Nat.le_refl _) _
  have hg1 : Gr (Value.slice ua n uc).ownBlock.toList W1 W2 := Gr.of_grown hg (fun k hk => by simp [hk])
  have hG : Gr (Value.slice ua n uc).ownBlock.toList W W2 := (Gr.of_below hb1 _).trans hg1
  have htl : t < W.heap.size := own_lt h.blk
  have hul : ∀ k, (Value.slice ua n uc).ownBlock = some k → k < W.heap.size := fun k hk => (World.ownsRow.lt h.row k hk).2
  have hgt : g ≠ t := by
    rcases hlie with e | e
    · exact (h.su g e).2
    · omega
  have hgB : B ≤ g := by
    rcases hlie with e | e
    · exact (h.su g e).1
    · omega
  have hgW : ∀ i, i < n → (G i).1 ≠ g := fun i hi e => by
    rcases hlie with e2 | e2
    · exact (h.sg i hi).2.2 (by rw [e2, e])
    · have := (h.inn i hi).lt; omega
  have hgn : W.heap.size ≠ g := by
    rcases hlie with e2 | e2
    · have := hul g e2; omega
    · omega
  have tn : t ∉ (Value.slice ua n uc).ownBlock.toList := fun hx => (h.su t (by simpa using hx)).2 rfl
  have b2 := own_gr h.blk hG (fun k hk => by cases hk; exact tn)
  have b3 := (World.ownsRow.stored b2 0 (.slice (some ⟨g, 0, none⟩) (n + 1) uc')).1
  have e1 : ck 3 n (sf G f) ++ [.slice (some ⟨W.heap.size, 0, none⟩) 1 1, .bool true, .int .u64 x] = ck 3 (n + 1) (sf (up G n (W.heap.size, 1)) f) := by
    have e : [Value.slice (some ⟨W.heap.size, 0, none⟩) 1 1, .bool true, .int .u64 x] = ck 3 1 (fun _ j => if j = 0 then .slice (some ⟨W.heap.size, 0, none⟩) 1 1 else if j = 1 then .bool true else .int .u64 x) := by
      simp [ck, List.range_succ]
    rw [e, ck_app]
    refine ck_congr fun i j hi hj => ?_
    by_cases hlt : i < n
    · rw [if_pos hlt]; unfold sf; rw [up_ne _ (by omega)]
    · obtain rfl : i = n := by omega
      rw [if_neg hlt]; unfold sf; rw [up_eq, hf]; rfl
  have r3 := own_gr hr (set_gr W2 t 0 (.slice (some ⟨g, 0, none⟩) (n + 1) uc')) (fun k hk => by cases hk; simpa using hgt)
  rw [e1] at r3
  refine ⟨World.ownsRow.cellAt b2 0 (by omega), World.ownsRow.frozenAt b2 0, ⟨b3, r3, fun i hi => ?_, h.st, fun k hk => by cases hk; exact ⟨hgB, hgt⟩, fun i hi => ?_⟩, (hG.below (B := B) (fun k hk => (h.su k (by simpa using hk)).1) hB).trans ((set_gr W2 t 0 _).below (fun k hk => by obtain rfl := List.mem_singleton.1 hk; exact h.st) (by have := hG.size; omega))⟩
  · by_cases e : i = n
    · subst e
      rw [up_eq, hf]
      have q := ((row_one W x).gr (Gr.of_below hbb []) (by simp)).gr hg1 (fun hx => by have := hul _ (by simpa using hx); omega)
      exact q.gr (set_gr W2 t 0 _) (by simp; omega)
    · rw [up_ne _ e]
      have hi' : i < n := by omega
      exact ((h.inn i hi').gr hG (fun hx => (h.sg i hi').2.2 (by simpa using hx))).gr (set_gr W2 t 0 _) (by simpa using (h.sg i hi').2.1)
  · by_cases e : i = n
    · subst e; rw [up_eq]; exact ⟨hB, by show W.heap.size ≠ t; omega, fun hx => by cases hx; exact hgn rfl⟩
    · rw [up_ne _ e]
      have hi' : i < n := by omega
      exact ⟨(h.sg i hi').1, (h.sg i hi').2.1, fun hx => by injection hx with hx; exact hgW i hi' hx.symm⟩
set_option maxRecDepth 100000 in
set_option maxHeartbeats 8000000 in
theorem tracked_ok {W : World} {p cp : Nat} {X : List Int} (hX : Row W p cp X) (h1 : 1 ≤ X.length) (hn : X.length ≤ 1000) :
    Calls Try.prog 26 #[.slice (some ⟨p, 0, none⟩) X.length cp] W fun e W' => ∃ (t : Nat), e = .returned (.pointer (some ⟨t, 0, none⟩)) ∧ Hid (∃ (b cb : Nat) (G : Nat → Nat × Nat), TK W' t b cb X.length G (fun i => ⟨[ge X i], true, ge X i⟩) ∧ Below W.heap.size W W' ∧ W.heap.size ≤ t ∧ W.heap.size ≤ b ∧ ∀ i, i < X.length → W.heap.size ≤ (G i).1) := by
  obtain ⟨i1, hi1, hi2, hi3, hi4⟩ := info_parts (show (Try.prog.info? 95).map (fun i => (i.zero, i.size, i.bytes)) = some (some (.agg #[.slice none 0 0, .bool false, .int .u64 0]), 3, 40) by kernel_rfl)
  have HI1 := hid hi1; have HI2 := hid hi2; have HI3 := hid hi3; have HI4 := hid hi4
  have HX := hid hX
  have hpl := hX.lt
  clear hi1 hi2 hi3 hi4 hX
  go_enter Try.func26, Try.ntmps26
  go_wp2_with fail
  have hb0 := (Below.refl W.heap.size W).alloc (Nat.le_refl _) (.cells #[.slice none 0 0] 93)
  have hT0 : TB W.heap.size (W.alloc (.cells #[.slice none 0 0] 93)) W.heap.size none 0 0 (fun _ => (0, 0)) (fun i => ⟨[ge X i], true, ge X i⟩) := {
    blk := World.ownsRow_lit (base := 0) (e := 93) (size := 1) W #[.slice none 0 0] 1 (Nat.zero_le _) (by unfold maxLen; omega) rfl
    row := World.ownsRow_nil _ _ _ _
    inn := fun i hi => by omega
    st := Nat.le_refl _
    su := fun g hg => by cases hg
    sg := fun i hi => by omega }
  have HT0 := hid hT0; have HB0 := hid hb0
  clear hT0 hb0
  generalize W.alloc (.cells #[.slice none 0 0] 93) = W0 at *
  go_loopw [4] (fun iv wr => ∃ (k : Nat) (ua : Option Addr) (uc : Nat) (G : Nat → Nat × Nat), k ≤ X.length ∧ iv = .int .i64 (k : Int) ∧ Hid (TB W.heap.size wr W.heap.size ua uc k G (fun i => ⟨[ge X i], true, ge X i⟩) ∧ Below W.heap.size W wr)) (fun iv _ => X.length - (intOf iv).toNat)
  case atStart => exact ⟨0, none, 0, _, by omega, rfl, hid ⟨HT0.out, HB0.out⟩⟩
  case round =>
    obtain ⟨k, ua, uc, G, hk, rfl, HS⟩ := hrel
    have c0 := (World.ownsRow.cellAt HS.out.1.blk 0 (by omega)).trans (show _ = some (Value.slice ua k uc) from rfl)
    have hsz := HS.out.2.size
    have htl : W.heap.size < wr.heap.size := own_lt HS.out.1.blk
    by_cases hlt : k < X.length
    · have hlt' : (k : Int) < (X.length : Int) := by omega
      have HXR := hid (HX.out.gr (Gr.of_below HS.out.2 []) (by simp))
      have x0 := HXR.out.at k hlt
      go_wp2_with fail
      have HDR := hid (HS.out.1.below (W' := wr.drew) (Below.refl _ _).drew)
      have HBD := hid (show Below W.heap.size W wr.drew from HS.out.2.drew)
      have hru : ((wr.drew.alloc (.cells #[.int .u64 (ge X k)] 26)).alloc (.cells #[.slice (some ⟨wr.heap.size, 0, none⟩) 1 1, .bool true, .int .u64 (ge X k)] 95)).ownsRow 0 95 3 (.slice ua k uc) k (ck 3 k (sf G (fun i => ⟨[ge X i], true, ge X i⟩))) := (HDR.out.row.alloc _).alloc _
      have n1 := World.news_of_block (w := (wr.drew.alloc (.cells #[.int .u64 (ge X k)] 26)).alloc (.cells #[.slice (some ⟨wr.heap.size, 0, none⟩) 1 1, .bool true, .int .u64 (ge X k)] 95)) (cs := #[.slice (some ⟨wr.heap.size, 0, none⟩) 1 1, .bool true, .int .u64 (ge X k)]) (t := 95) (fr := (0, 0)) (B := wr.heap.size + 1) (by have := heap_alloc_new (wr.drew.alloc (.cells #[.int .u64 (ge X k)] 26)) (.cells #[.slice (some ⟨wr.heap.size, 0, none⟩) 1 1, .bool true, .int .u64 (ge X k)] 95); rw [World.size_alloc] at this; exact this)
      have HN1 := hid n1; have HRU := hid hru
      have HKN := hid (show k + 1 ≤ 1000 by omega)
      clear n1 hru
      have hpw : p < wr.heap.size := by omega
      have hpw2 : p < wr.heap.size + 1 := by omega
      have htl2 : W.heap.size < wr.heap.size + 1 := by omega
      go_region_law (first | (refine step_append_lies _ rfl (.tmp 17) (.tmp 28) 91 rfl 0 95 i1 (.agg #[.slice none 0 0, .bool false, .int .u64 0]) 3 40 Try.underlying91 HI1.out HI2.out HI3.out HI4.out rfl (by decide) (.slice ua k uc) k (ck 3 k (sf G (fun i => ⟨[ge X i], true, ge X i⟩))) (by simp [Act.eval, Act.put]) HRU.out ⟨wr.heap.size + 1, 0, none⟩ 1 1 [.slice (some ⟨wr.heap.size, 0, none⟩) 1 1, .bool true, .int .u64 (ge X k)] (by simp [Act.eval, Act.put]) rfl HN1.out (by simp [Value.oneCell']) (by omega) (by have := HKN.out; unfold maxLen; omega) (by have := HKN.out; omega) (by omega) _ rfl ?_; intro g4 uc4 w4 hown4 hgrow4 hlie4 hlt4; obtain ⟨a4, f4, hD4, hB4⟩ := TB.add HDR.out hsz (ge X k) rfl g4 uc4 _ w4 rfl hown4 hgrow4 hlie4; have HD4 := hid hD4; have HB4 := hid (HBD.out.trans hB4); clear hD4 hB4 hown4 hgrow4 hlie4 hlt4))
      all_goals
        clear a4 f4 c0 x0
        go_wp2_with fail
        go_roundw
        case rel => exact ⟨k + 1, some ⟨g4, 0, none⟩, uc4, _, by omega, by go_num, hid ⟨HD4.out, HB4.out⟩⟩
        case measure => simp [intOf]; omega
    · obtain rfl : k = X.length := by omega
      have hlt' : ¬ (X.length : Int) < (X.length : Int) := by omega
      obtain ⟨b, rfl⟩ := own_pos HS.out.1.row (by omega)
      go_wp2_with fail
      go_ret
      refine ⟨W.heap.size, rfl, hid ⟨b, uc, G, ⟨HS.out.1.blk, HS.out.1.row, HS.out.1.inn, fun e => (HS.out.1.su b rfl).2 e.symm, fun i hi => ⟨(HS.out.1.sg i hi).2.1, fun e => (HS.out.1.sg i hi).2.2 (by rw [e]; rfl)⟩, hn⟩, HS.out.2, Nat.le_refl _, (HS.out.1.su b rfl).1, fun i hi => (HS.out.1.sg i hi).1⟩⟩
end Go.Proofs.Ytfaeieeokelokaa
