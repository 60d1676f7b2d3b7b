/- For all lists of numbers: NamesApart returns true. No condition. -/
import Derived.Test.YtdpclmogfnigdaaRows
import Derived.WalkKit
import Derived.ProofKit
import Derived.OpenShut
import Derived.ShutString
import Derived.ChangeOld
import Derived.Below
import Derived.Carry
import Derived.Test.YtdpclmogfnigdaaC
import Derived.Test.YtdpclmogfnigdaaP
import Derived.Test.YtdpclmogfnigdaaPV
import Derived.Test.YtdpclmogfnigdaaD
import Derived.Test.YtdpclmogfnigdaaE
import Derived.Test.YtdpclmogfnigdaaF
import Derived.Test.YtdpclmogfnigdaaG
import Derived.Test.YtdpclmogfnigdaaH
import Derived.Test.YtdpclmogfnigdaaI
import Derived.Test.YtdpclmogfnigdaaJ
import Derived.Test.YtdpclmogfnigdaaK
import Derived.Test.YtdpclmogfnigdaaL
import Derived.Test.YtdpclmogfnigdaaM
namespace Go.Proofs.Ytdpclmogfnigdaa.namesApart
open Go.ChangeShapes Go.WideShapes Go.ChangeAt Go.RowKit
open Go.ChangeMaps (open_string shut_string)
set_option linter.unusedVariables false

theorem own : ownKnob Try.prog.godebug = none := by kernel_rfl
theorem laidOut : laidOutB Try.prog = true := by kernel_rfl

set_option linter.unusedSimpArgs false
theorem below_drewN (k : Nat) (w : World) (n : Nat) : Below k w (w.drewN n) := ⟨rfl, rfl, rfl, Nat.le_refl _, fun _ _ => rfl⟩
theorem info_parts {o : Option TypeInfo} {z : Option Value} {s b : Nat} (h : o.map (fun i => (i.zero, i.size, i.bytes)) = some (z, s, b)) : ∃ i, o = some i ∧ i.zero = z ∧ i.size = s ∧ i.bytes = b := by
  cases o with
  | none => cases h
  | some i => simp at h; exact ⟨i, rfl, h.1, h.2.1, h.2.2⟩
theorem Try.info9 : (Try.prog.info? 9).map (fun i => (i.zero, i.size, i.bytes)) = some (some (.string ⟨#[]⟩), 1, 16) := by kernel_rfl
theorem own_base {w : World} {base : Nat} {e : TypeId} {size : Nat} {v : Value} {n : Nat} {xs : List Value} (h : w.ownsRow base e size v n xs) : ∀ k, v.ownBlock = some k → base ≤ k := by
  intro k hk
  rcases h.2 with ⟨rfl, _⟩ | ⟨g, cap, cur, rfl, hg, _⟩
  · simp [Value.ownBlock] at hk
  · simp [Value.ownBlock] at hk; omega
theorem own_slice {w : World} {base e size : Nat} {v : Value} {n : Nat} {xs : List Value} (h : w.ownsRow base e size v n xs) : ∃ a cap, v = .slice a n cap := by
  rcases h.2 with ⟨hv, h0⟩ | ⟨g, cap, cur, hv, _⟩
  · exact ⟨none, 0, by rw [hv, h0]⟩
  · exact ⟨_, cap, hv⟩
theorem own_below {W W' : World} {base e size n : Nat} {v : Value} {xs : List Value} (h : W.ownsRow base e size v n xs) (hb : Below W.heap.size W W') : W'.ownsRow base e size v n xs := by
  refine ⟨h.1, h.2.imp id fun ⟨g, cap, cur, hv, h1, hh, rest⟩ => ⟨g, cap, cur, hv, h1, ?_, rest⟩⟩
  rw [hb.block g (Array.getElem?_eq_some_iff.1 hh).1]; exact hh

/-- an answer of Leg or Part: the name of rank r, or none -/
def AnsR (x y : List UInt8) (r : Nat) (a : List UInt8) (e : Int) : Prop := (e = 0 ∧ ((r % 3 = 2 → x ≠ y) → VR x y r ∧ a = tR x y r)) ∨ e ≠ 0
theorem ansr_leg (x y : List UInt8) (j : Nat) (h : j < 8) : AnsR x y (3 * j) (legT x j).1 (legT x j).2 := by
  rcases leg_cases x j with ⟨h1, h2, h3, h4, h5, h6⟩ | h
  · rw [h6]
    exact .inl ⟨rfl, fun _ => ⟨(rank_leg j h).1, (rank_leg (x := x) (y := y) j h).2.symm⟩⟩
  · exact .inr h.2
theorem ansr_two (x y : List UInt8) (j : Nat) (h : j < 8) : AnsR x y (3 * j + 2) (legT y j).1 (legT y j).2 := by
  rcases leg_cases y j with ⟨h1, h2, h3, h4, h5, h6⟩ | h7
  · rw [h6]
    exact .inl ⟨rfl, fun hne => ⟨(rank_two j h (hne (by omega))).1, (rank_two (x := x) (y := y) j h (hne (by omega))).2.symm⟩⟩
  · exact .inr h7.2
theorem ansr_part (x y : List UInt8) (j : Nat) : AnsR x y (3 * j + 1) (partL x j).1 (partL x j).2 := by
  rcases part_cases x j with ⟨h1, h2, h3, h4, h5, h6⟩ | h
  · rw [h6]
    have e : ((j : Int) - 1).toNat = j - 1 := by omega
    rw [e]
    exact .inl ⟨rfl, fun _ => ⟨(rank_part j (by omega) (by omega)).1, (rank_part (x := x) (y := y) j (by omega) (by omega)).2.symm⟩⟩
  · exact .inr h.2
/-- the texts of ranks -/
def tv (x y : List UInt8) (l : List Nat) : List Value := l.map fun r => .string (bs (tR x y r))
theorem tv_len (x y : List UInt8) (l : List Nat) : (tv x y l).length = l.length := by simp [tv]
theorem tv_app (x y : List UInt8) (l : List Nat) (r : Nat) : tv x y (l ++ [r]) = tv x y l ++ [.string (bs (tR x y r))] := by simp [tv]
/-- the list on the way -/
structure Way (w wr : World) (av : Value) (x y : List UInt8) (m : Nat) (l : List Nat) : Prop where
  rl : RL x y m l
  row : wr.ownsRow w.heap.size 9 1 av l.length (tv x y l)
  below : Below w.heap.size w wr
theorem Way.skip {w wr : World} {av : Value} {x y : List UInt8} {m : Nat} {l : List Nat} (h : Way w wr av x y m l) : Way w wr av x y (m + 1) l := ⟨h.rl.skip, h.row, h.below⟩
theorem Way.call {w wr w' : World} {av : Value} {x y : List UInt8} {m : Nat} {l : List Nat} (h : Way w wr av x y m l) (hb : Below wr.heap.size wr w') : Way w w' av x y m l := ⟨h.rl, own_below h.row hb, h.below.trans (hb.mono h.below.size)⟩
theorem Way.app {w wr w1 : World} {av v' : Value} {x y : List UInt8} {m : Nat} {l : List Nat} {o : Obj} (h : Way w wr av x y m l) (hm : VR x y m) (hown : w1.ownsRow w.heap.size 9 1 v' (l.length + 1) (tv x y l ++ [.string (bs (tR x y m))])) (hg : (wr.alloc o).grownBy w1 av.ownBlock) : Way w w1 v' x y (m + 1) (l ++ [m]) := by
  have hb : ∀ k, av.ownBlock = some k → w.heap.size ≤ k := own_base h.row
  refine ⟨h.rl.add hm, by rw [tv_app]; simpa using hown, ?_⟩
  exact (h.below.alloc h.below.size o).grown hg (by have := h.below.size; simp; omega) (fun k e => hb k e)

set_option maxRecDepth 100000 in
set_option maxHeartbeats 4000000 in
theorem walk (a0 : Option Addr) (len0 cap0 : Nat) (z0 : List Int) (w : World) (w0 : IsRow .i64 w a0 len0 cap0 z0) :
    Calls Try.prog 7 #[.slice a0 len0 cap0] w fun e w' => e = .returned (.bool true) ∧ Below w.heap.size w w' := by
  obtain ⟨hn, hl, hc⟩ := nums_of w0
  unfold maxLen at hc
  obtain ⟨i0, hi, hz0, hz1, hz2⟩ := info_parts Try.info9
  have HI := hid hi; have HZ0 := hid hz0; have HZ1 := hid hz1; have HZ2 := hid hz2
  have HN := hid (new_ok a0 len0 cap0 w hn hl hc)
  have HAw := hid awake_any
  clear w0 hn hl hc hi hz0 hz1 hz2
  go_enter Try.func7, Try.ntmps7
  go_wp2_with fail
  refine HN.out.mono ?_
  rintro e w1 ⟨rfl, HS, hb1⟩
  have HB1 := hid hb1
  have HBt := hid (built_ok w.heap.size w.heap.size (Nat.le_refl _) w1 hb1.size HS.out)
  clear hb1 HN
  go_wp2_with fail
  refine HBt.out.mono ?_
  rintro e w2 ⟨x, hx, rfl, H2⟩
  have HB2 := hid (HB1.out.grown H2.out.1 HB1.out.size (fun k e => by cases e; exact Nat.le_refl _))
  have HBt2 := hid (built_ok w.heap.size w.heap.size (Nat.le_refl _) w2 HB2.out.size H2.out.2)
  clear H2 HBt HS
  go_wp2_with fail
  refine HBt2.out.mono ?_
  rintro e w3 ⟨y, hy, rfl, H3⟩
  have HB3 := hid (HB2.out.grown H3.out.1 HB2.out.size (fun k e => by cases e; exact Nat.le_refl _))
  clear H3 HBt2
  have HLx := hid (fun j : Nat => leg_any x (j : Int) (by omega))
  have HPx := hid (fun j : Nat => part_any x (j : Int) (by omega))
  have HLy := hid (fun j : Nat => leg_any y (j : Int) (by omega))
  have HW0 := hid (show Way w w3 (.slice none 0 0) x.data.toList y.data.toList 0 [] from ⟨RL.nil _ _, World.ownsRow_nil _ _ _ _, HB3.out⟩)
  have hxy : (x.toList == y.toList) = false → x.data.toList ≠ y.data.toList := fun h e => by rw [Lib.toList_data, Lib.toList_data, e] at h; simp at h
  obtain ⟨X, hX⟩ : ∃ X, X = x.data.toList := ⟨_, rfl⟩
  obtain ⟨Y, hY⟩ : ∃ Y, Y = y.data.toList := ⟨_, rfl⟩
  rw [← hX] at HLx HPx HW0 hxy
  rw [← hY] at HLy HW0 hxy
  clear hX hY
  go_wp2_with fail
  go_loopw [6, 7] (fun av iv wr => ∃ (i : Nat) (l : List Nat), i ≤ 8 ∧ iv = .int .i64 (i : Int) ∧ Hid (Way w wr av X Y (3 * i) l)) (fun _ iv _ => 8 - (intOf iv).toNat)
  case atStart => exact ⟨0, [], by omega, rfl, HW0⟩
  case round =>
    obtain ⟨i, l, hi, rfl, HW⟩ := hrel
    by_cases h8 : i < 8
    · have h8' : (i : Int) < 8 := by omega
      have A1 := hid (ansr_leg X Y i h8)
      have A2 := hid (ansr_part X Y i)
      have A3 := hid (ansr_two X Y i h8)
      have HL1 := hid (HLx.out i)
      have HP1 := hid (HPx.out i)
      have HL2 := hid (HLy.out i)
      generalize legT X i = la at *
      generalize partL X i = pa at *
      generalize legT Y i = lb at *
      obtain ⟨a, ea⟩ := la
      obtain ⟨b, eb⟩ := pa
      obtain ⟨c, ec⟩ := lb
      simp only at HL1 HP1 HL2 A1 A2 A3
      clear HLx HPx HLy
      go_wp2_with fail
      refine (HL1.out _).mono ?_
      rintro e v1 ⟨rfl, hb1⟩
      replace HW := hid (HW.out.call hb1)
      clear hb1
      rcases A1.out with ⟨rfl, hA⟩ | hA
      obtain ⟨hV, rfl⟩ := hA (by omega)
      have HV := hid hV
      obtain ⟨va, vc, rfl⟩ := own_slice HW.out.row
      have hown := hid HW.out.row
      have hlen := HW.out.rl.len
      have hC5 := hid (show w.heap.size ≤ (v1.alloc (.cells #[.string (bs (tR X Y (3 * i)))] 9)).heap.size by have := HW.out.below.size; simp; omega)
      clear hV hA
      go_wp2_with (first | (at_builtin; refine wpList_append_own _ rfl _ _ 35 rfl w.heap.size 9 i0 (.string ⟨#[]⟩) 1 16 Try.underlying35 HI.out HZ0.out HZ1.out HZ2.out rfl (by decide) _ _ _ rfl (hown.out.alloc _) ⟨v1.heap.size, 0, none⟩ 1 1 [.string (bs (tR X Y (3 * i)))] rfl rfl (cell_one_new _ _ _) (by simp [Value.oneCell']) (by unfold maxLen; omega) (by omega) hC5.out ?_; intro y4 w4 hown4 hgrow4 _; have HWb := hid (HW.out.app HV.out hown4 hgrow4); clear hown4 hgrow4))
      obtain ⟨l1, HWc⟩ : ∃ l1, Hid (Way w w4 y4 X Y (3 * i + 1) l1) := ⟨_, HWb⟩
      clear hown hC5 HV hlen HW HWb
      rotate_left
      have hA1 : ¬ ea = 0 := hA
      clear hA
      go_wp2_with fail
      obtain ⟨l1, HWc⟩ : ∃ l1, Hid (Way w _ _ X Y (3 * i + 1) l1) := ⟨_, hid HW.out.skip⟩
      clear HW
      all_goals
        refine (HP1.out _).mono ?_
        rintro e v2 ⟨rfl, hb2⟩
        have HW := hid (HWc.out.call hb2)
        clear hb2 HWc
        rcases A2.out with ⟨rfl, hA⟩ | hA
        obtain ⟨hV, rfl⟩ := hA (by omega)
        have HV := hid hV
        obtain ⟨va, vc, rfl⟩ := own_slice HW.out.row
        have hown := hid HW.out.row
        have hlen := HW.out.rl.len
        have hC5 := hid (show w.heap.size ≤ (v2.alloc (.cells #[.string (bs (tR X Y (3 * i + 1)))] 9)).heap.size by have := HW.out.below.size; simp; omega)
        clear hV hA
        go_wp2_with (first | (at_builtin; refine wpList_append_own _ rfl _ _ 35 rfl w.heap.size 9 i0 (.string ⟨#[]⟩) 1 16 Try.underlying35 HI.out HZ0.out HZ1.out HZ2.out rfl (by decide) _ _ _ rfl (hown.out.alloc _) ⟨v2.heap.size, 0, none⟩ 1 1 [.string (bs (tR X Y (3 * i + 1)))] rfl rfl (cell_one_new _ _ _) (by simp [Value.oneCell']) (by unfold maxLen; omega) (by omega) hC5.out ?_; intro y4 w4 hown4 hgrow4 _; have HWb := hid (HW.out.app HV.out hown4 hgrow4); clear hown4 hgrow4))
        obtain ⟨l2, HWc⟩ : ∃ l2, Hid (Way w w4 y4 X Y (3 * i + 1 + 1) l2) := ⟨_, HWb⟩
        clear hown hC5 HV hlen HW HWb
        rotate_left
        have hA2 : ¬ eb = 0 := hA
        clear hA
        go_wp2_with fail
        obtain ⟨l2, HWc⟩ : ∃ l2, Hid (Way w _ _ X Y (3 * i + 1 + 1) l2) := ⟨_, hid HW.out.skip⟩
        clear HW
      all_goals
        refine (HL2.out _).mono ?_
        rintro e v3 ⟨rfl, hb3⟩
        have HW := hid (HWc.out.call hb3)
        clear hb3 HWc
        rcases A3.out with ⟨rfl, hA⟩ | hA
        · by_cases hE : (x.toList == y.toList) = true
          · clear hA
            go_wp2_with fail
            obtain ⟨l3, HWc⟩ : ∃ l3, Hid (Way w _ _ X Y (3 * i + 2 + 1) l3) := ⟨_, hid HW.out.skip⟩
            clear HW
            go_roundw
            case rel => exact ⟨i + 1, l3, by omega, by go_num, HWc⟩
            case measure => simp [intOf]; omega
          · have hE : (x.toList == y.toList) = false := by simpa using hE
            have hne := hid (hxy hE)
            obtain ⟨hV, rfl⟩ := hA (fun _ => hne.out)
            have HV := hid hV
            obtain ⟨va, vc, rfl⟩ := own_slice HW.out.row
            have hown := hid HW.out.row
            have hlen := HW.out.rl.len
            have hC5 := hid (show w.heap.size ≤ (v3.alloc (.cells #[.string (bs (tR X Y (3 * i + 2)))] 9)).heap.size by have := HW.out.below.size; simp; omega)
            clear hV hA
            go_wp2_with (first | (at_builtin; refine wpList_append_own _ rfl _ _ 35 rfl w.heap.size 9 i0 (.string ⟨#[]⟩) 1 16 Try.underlying35 HI.out HZ0.out HZ1.out HZ2.out rfl (by decide) _ _ _ rfl (hown.out.alloc _) ⟨v3.heap.size, 0, none⟩ 1 1 [.string (bs (tR X Y (3 * i + 2)))] rfl rfl (cell_one_new _ _ _) (by simp [Value.oneCell']) (by unfold maxLen; omega) (by omega) hC5.out ?_; intro y4 w4 hown4 hgrow4 _; have HWb := hid (HW.out.app HV.out hown4 hgrow4); clear hown4 hgrow4))
            obtain ⟨l3, HWc⟩ : ∃ l3, Hid (Way w w4 y4 X Y (3 * i + 2 + 1) l3) := ⟨_, HWb⟩
            clear hown hC5 HV hlen HW HWb
            go_roundw
            case rel => exact ⟨i + 1, l3, by omega, by go_num, HWc⟩
            case measure => simp [intOf]; omega
        · have hA3 : ¬ ec = 0 := hA
          clear hA
          go_wp2_with fail
          obtain ⟨l3, HWc⟩ : ∃ l3, Hid (Way w _ _ X Y (3 * i + 2 + 1) l3) := ⟨_, hid HW.out.skip⟩
          clear HW
          go_roundw
          case rel => exact ⟨i + 1, l3, by omega, by go_num, HWc⟩
          case measure => simp [intOf]; omega
    · obtain rfl : i = 8 := by omega
      obtain ⟨va, vc, rfl⟩ := own_slice HW.out.row
      have hlen := HW.out.rl.len
      go_wp2_with fail
      go_loopw [14] (fun iv wr => ∃ i : Nat, i ≤ l.length ∧ iv = .int .i64 (i : Int) ∧ Hid (Way w wr (.slice va l.length vc) X Y 24 l)) (fun iv _ => l.length - (intOf iv).toNat)
      case atStart => exact ⟨0, by omega, rfl, HW⟩
      case round =>
        clear HW
        obtain ⟨i, hi, rfl, HW⟩ := hrel
        by_cases hil : i < l.length
        · have hil' : (i : Int) < (l.length : Int) := by omega
          go_wp2_with fail
          go_loopw [15] (fun kv wr => ∃ k : Nat, k ≤ i ∧ kv = .int .i64 (k : Int) ∧ Hid (Way w wr (.slice va l.length vc) X Y 24 l)) (fun kv _ => i - (intOf kv).toNat)
          case atStart => exact ⟨0, by omega, rfl, HW⟩
          case round =>
            clear HW
            obtain ⟨k, hk, rfl, HW⟩ := hrel
            by_cases hki : k < i
            · have hki' : (k : Int) < (i : Int) := by omega
              obtain ⟨g, hva⟩ : ∃ g, va = some ⟨g, 0, none⟩ := by
                rcases HW.out.row.2 with ⟨_, h0⟩ | ⟨g, cap, cur, hv, _⟩
                · omega
                · cases hv; exact ⟨g, rfl⟩
              subst hva
              have c1 : _ = some (Value.string (bs (tR X Y l[i]))) := (HW.out.row.cellAt i (by omega)).trans (by simp [tv, List.getElem?_eq_getElem hil])
              have c2 : _ = some (Value.string (bs (tR X Y (l[k]'(by omega))))) := (HW.out.row.cellAt k (by omega)).trans (by simp [tv, List.getElem?_eq_getElem (show k < l.length by omega)])
              have hne := HW.out.rl.apart hil hki
              have hE : ((bs (tR X Y l[i])).toList == (bs (tR X Y (l[k]'(by omega)))).toList) = false := by
                rw [bs_list, bs_list, beq_eq_false_iff_ne]; exact hne
              clear hne
              generalize bs (tR X Y l[i]) = s1 at *
              generalize bs (tR X Y (l[k]'(by omega))) = s2 at *
              have hkl' : (k : Int) < (l.length : Int) := by omega
              go_wp2_with fail
              go_quiet (fail)
              go_wp2_with fail
              go_roundw
              case rel => exact ⟨k + 1, by omega, by go_num, hid (HW.out.call (below_drewN _ _ _))⟩
              case measure => simp [intOf]; omega
            · obtain rfl : k = i := by omega
              have hki' : ¬ (k : Int) < (k : Int) := by omega
              go_wp2_with fail
              go_roundw
              case rel => exact ⟨k + 1, by omega, by go_num, HW⟩
              case measure => simp [intOf]; omega
        · obtain rfl : i = l.length := by omega
          have hil' : ¬ (l.length : Int) < (l.length : Int) := by omega
          go_wp2_with fail
          refine (HAw.out _).mono ?_
          rintro e v8 ⟨rfl, hb8⟩
          have HB8 := hid (HW.out.below.trans (hb8.mono HW.out.below.size))
          clear hb8
          go_wp2_with fail
          go_ret
          exact ⟨rfl, HB8.out⟩

set_option maxRecDepth 100000 in
theorem lifted (os : Os) (started : os.Started) (H : Type) (enc : TypeId × Value → H) :
    ReturnsInHanded {} Try.checked os 7 .any (Rows.namesApartSpec.pre6 enc Try.prog Try.f7 Rows.namesApartRow.domain false) (Rows.namesApartSpec.post enc Try.prog Try.f7 false true false false) := by
  refine returnsInHanded_of_change (C := Try.checked) own started (by kernel_rfl) Try.func7
    (ChangeSpec.witness6 (enc := enc) (C := Try.checked) false ⟨#[], #[.slice none 0 0], []⟩ 8 (by kernel_rfl) (by kernel_rfl) (by kernel_rfl) (by kernel_rfl)) ?_
  intro W base args ds gs before hval0 hW hcnd _
  have hval : ∀ (j : Nat) t v, Try.f7.params[j]? = some t → args[j]? = some v → Value.okWide Try.prog W .any base t v := hval0
  have hW' := hW
  obtain ⟨p, q, hA0, hV, rfl, hfz, hnd⟩ := hW
  have hA : DataW.TrodAll enc Try.prog W 0 (fun _ => true) true Try.f7.params.toList args.toList ds p := hA0
  rw [Try.params7] at hA hval
  obtain ⟨v0, vs0, d0, ds0, p0, q0, hargs, rfl, rfl, h0, r0⟩ := trodAll_cons hA
  obtain ⟨rfl, rfl, rfl⟩ := trodAll_nil r0
  obtain rfl : args = #[v0] := by cases args; simp_all
  obtain ⟨rfl, rfl⟩ := trodVars_none hV
  obtain ⟨a0, len0, cap0, rfl⟩ := okWide_slice Try.underlying24 (hval 0 24 v0 rfl rfl)
  have k0 := h0
  have lt0 : ∀ x ∈ p0, x.block < W.heap.size := by obtain ⟨m, hm⟩ := k0; exact DataW.trod_lt m _ _ _ hm
  obtain ⟨z0, w0⟩ : ∃ zs, IsRow .i64 W a0 len0 cap0 zs := by
    obtain ⟨fuel, hf⟩ := h0
    rcases open_ints Try.underlying24 Try.underlying3 (by kernel_rfl) hf with ⟨hcs, _⟩ | ⟨x, l, c, zs, hcs, _, hl, hm, hz, _, hcell, hwz⟩
    · simp [Value.cells] at hcs
      obtain ⟨rfl, rfl, rfl⟩ := hcs
      exact ⟨[], .inl ⟨rfl, rfl, rfl, rfl⟩⟩
    · simp [Value.cells] at hcs
      obtain ⟨rfl, rfl, rfl⟩ := hcs
      exact ⟨zs, .inr ⟨_, rfl, hl, hm, by simpa using hz, hcell, hwz⟩⟩
  clear hA0 hval0
  refine (walk a0 len0 cap0 z0 W w0).mono fun e W' ⟨he, bel⟩ => ?_
  subst he
  exact ⟨_, rfl, _, _, _, [], _, [], hW', trodAll_mk1 (shut_bool Try.underlying4 _), (trodAll_cons_mk (Below.trod laidOut (by kernel_rfl) (of_decide_eq_true (by kernel_rfl)) k0 bel lt0) trodAll_mk0), rfl, bel.frame _, fun h => by cases h⟩

theorem over : Rows.namesApartRow.holds Try.pinned (OpenSpec.ofChange Rows.namesApartSpec) :=
  OpenClaim.holds_of_wide 7 Try.f7 rfl rfl rfl rfl rfl rfl rfl ⟨rfl, rfl, rfl, rfl, rfl⟩ rfl rfl rfl rfl rfl (by kernel_rfl) Try.func7 (by kernel_rfl)
    (of_decide_eq_true (by kernel_rfl)) (by unfold Func.isWrapper; first | (rw [if_pos (by decide +kernel)]; kernel_rfl) | (rw [if_neg (by decide +kernel)]; exact ⟨rfl, rfl⟩))
    (fun os started H enc _ => lifted os started H enc)

theorem proved : Rows.NamesApartSaid := over
#print axioms proved
end Go.Proofs.Ytdpclmogfnigdaa.namesApart
