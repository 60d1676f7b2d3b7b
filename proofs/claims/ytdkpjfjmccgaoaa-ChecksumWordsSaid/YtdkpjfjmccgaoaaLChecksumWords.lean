/- For all words: ChecksumWords returns true and leaves its argument as it was. No condition. -/
import Derived.Test.YtdkpjfjmccgaoaaRows
import Derived.WalkKit
import Derived.ProofKit
import Derived.OpenShut
import Derived.ShutString
import Derived.ChangeOld
import Derived.Below
import Derived.Carry
import Derived.Test.YtdkpjfjmccgaoaaC
import Derived.Test.YtdkpjfjmccgaoaaD
import Derived.Test.YtdkpjfjmccgaoaaI
import Derived.Test.YtdkpjfjmccgaoaaM
import Derived.Test.YtdkpjfjmccgaoaaE
import Derived.Test.YtdkpjfjmccgaoaaX
import Derived.Test.YtdkpjfjmccgaoaaF
import Derived.Test.YtdkpjfjmccgaoaaG
import Derived.Test.YtdkpjfjmccgaoaaH
import Derived.Test.YtdkpjfjmccgaoaaQ
namespace Go.Proofs.Ytdkpjfjmccgaoaa.checksumWords
open Go.ChangeShapes Go.WideShapes Go.ChangeAt Go.RowKit
open Go.ChangeMaps (open_string shut_string)
set_option linter.unusedVariables false

theorem own : ownKnob Try.prog.godebug = none := by kernel_rfl
theorem laidOut : laidOutB Try.prog = true := by kernel_rfl

theorem Try.info5 : (Try.prog.info? 5).map (fun i => (i.zero, i.size, i.bytes)) = some (some (.int .u8 0), 1, 1) := by kernel_rfl

def bvs (bs : List B8) : List Value := bs.map (fun (x : B8) => Value.int .u8 (x.1 : Int))

theorem fds_map (r : Nat) (bs : List B8) (k : Nat) (hk : k ≤ bs.length) : fds r (bs.map Subtype.val) k = fdl' r (bs.take k) := by
  induction k with
  | zero => rfl
  | succ k ih =>
    have hlt : k < bs.length := by omega
    rw [fds, ih (by omega), List.take_succ_eq_append_getElem hlt, fdl_append]
    simp [fdl', List.getD_eq_getElem?_getD, List.getElem?_eq_getElem hlt]

theorem bytes_words (ws : List Nat) (len : Nat) : nt (fds 4294967295 ((upto (bt8 ws) (8 * len)).map Subtype.val) (8 * len)) = ext 0 ws len := by
  rw [fds_map _ _ _ (by rw [upto_length]; omega), List.take_of_length_le (by rw [upto_length]; omega), wds_fdl]
  unfold ext
  rw [nt_zero]

theorem own_bytes {w : World} {base : Nat} {v : Value} {n : Nat} {bs : List B8} (h : w.ownsRow base 5 1 v n (bvs bs)) : ∃ a cap, v = .slice a n cap ∧ By w a n (bs.map Subtype.val) := by
  have hlen : bs.length = n := by have := h.1; simp [bvs] at this; exact this
  rcases h.2 with ⟨hv, h0⟩ | ⟨g, cap, cur, hv, hg, hh, hc, hm, _⟩
  · subst h0
    exact ⟨none, 0, hv, fun j hj => by omega⟩
  · refine ⟨some ⟨g, 0, none⟩, cap, hv, fun j hj => ?_⟩
    have hjl : j < bs.length := by omega
    have e : (bs.map Subtype.val).getD j 0 = (bs[j]).1 := by simp [List.getD_eq_getElem?_getD, List.getElem?_eq_getElem hjl]
    rw [e]
    refine ⟨(bs[j]).2, g, 0, rfl, ?_⟩
    rw [hv] at h
    rw [Nat.zero_add, h.cellAt j (by omega)]
    simp [bvs, List.getElem?_eq_getElem hjl]

theorem bvs_snoc (bs : List B8) (x : B8) : bvs (bs ++ [x]) = bvs bs ++ [.int .u8 (x.1 : Int)] := by simp [bvs]

set_option maxHeartbeats 1000000 in
theorem walk (a0 : Option Addr) (len0 cap0 : Nat) (z0 : List Int) (w : World) (w0 : IsRow .u64 w a0 len0 cap0 z0) :
    Calls Try.prog 5 #[.slice a0 len0 cap0] w fun e w' => e = .returned (.bool true) ∧ Below w.heap.size w w' := by
  obtain ⟨i0, hi, hz0, hz1, hz2⟩ := info_parts Try.info5
  have HI := hid hi; have HZ0 := hid hz0; have HZ1 := hid hz1; have HZ2 := hid hz2
  clear hi hz0 hz1 hz2
  obtain ⟨hA, _⟩ := wo_of w0
  generalize z0.map Int.toNat = ws at hA
  have HA := hid hA
  clear w0 hA
  by_cases h0 : (len0 : Int) ≤ 40
  · have t0 : ¬ 40 < (len0 : Int) := by omega
    have hr0 : len0 * 8 ≤ 140737488351232 := by omega
    go_enter Try.func5, Try.ntmps5
    go_wp2_with fail
    go_loopw [3, 4] (fun v i wr => ∃ k : Nat, k ≤ len0 ∧ i = .int .i64 (k : Int) ∧ wr.ownsRow w.heap.size 5 1 v (8 * k) (bvs (upto (bt8 ws) (8 * k))) ∧ Below w.heap.size w wr) (fun _ i _ => len0 - (intOf i).toNat)
    case atStart => exact ⟨0, by omega, rfl, World.ownsRow_nil _ _ _ _, Below.refl _ _⟩
    case round =>
      obtain ⟨k, hk, rfl, hown, hb⟩ := hrel
      have HB := hid hb
      have HOW := hid hown
      clear hb hown
      by_cases hlt : k < len0
      · have hlt2 : (k : Int) < (len0 : Int) := by omega
        go_wp2_with fail
        go_loopw [3, 5] (fun v j w5 => ∃ i : Nat, i ≤ 8 ∧ j = .int .i64 (i : Int) ∧ w5.ownsRow w.heap.size 5 1 v (8 * k + i) (bvs (upto (bt8 ws) (8 * k + i))) ∧ Below w.heap.size w w5) (fun _ j _ => 8 - (intOf j).toNat)
        case atStart => exact ⟨0, by omega, rfl, HOW.out, HB.out⟩
        case round =>
          rename_i v0 _ _ _
          obtain ⟨i, hi8, rfl, hown5, hb5⟩ := hrel
          by_cases hi : i < 8
          · have hi2 : (i : Int) < 8 := by omega
            obtain ⟨b, off, rfl, _, hall⟩ := (Wo.kept HA.out hb5).2.resolve_left (by omega)
            have hck := hall k hlt
            have hv := (HA.out.1 k hlt)
            clear hall
            generalize hword : ws[k]?.getD 0 = word at hck hv
            have HBT := hid (bt8_at ws k i _ hi (by rw [hword]))
            have hsz := hb5.size
            have C1 := hid (show 8 * k + i + 1 ≤ maxLen by unfold maxLen; omega)
            have C2 := hid (show (8 * k + i + 1) * 1 ≤ 140737488355328 by omega)
            have harg : ((word : Int) / 2 ^ (8 * i) % 256) = ((word / 256 ^ i % 256 : Nat) : Int) := by
              rw [Int.natCast_emod, Int.natCast_ediv, show (256 : Nat) ^ i = 2 ^ (8 * i) by rw [Nat.pow_mul], Int.natCast_pow]; rfl
            have HARG := hid harg
            clear harg
            have HB5 := hid hb5
            have HSZ := hid hsz
            have HOWN5 := hid hown5
            clear hb5 hsz hown5
            go_wp2_with (first | (at_builtin; refine wpList_append_own _ rfl _ _ 22 rfl w.heap.size 5 i0 (.int .u8 0) 1 1 Try.underlying22 HI.out HZ0.out HZ1.out HZ2.out rfl (by decide) _ _ _ rfl (HOWN5.out.alloc _) ⟨_, 0, none⟩ 1 1 [.int .u8 ((word : Int) / 2 ^ (8 * i) % 256)] rfl rfl (cell_one_new _ _ _) (by simp [Value.oneCell']) C1.out C2.out (by have := HSZ.out; simp; omega) ?_; intro v2 w2 hown2 hgrow2 _))
            go_roundw
            case rel =>
              rw [HARG.out] at hown2
              refine ⟨i + 1, by omega, by go_num, ?_, ?_⟩
              · rw [show 8 * k + (i + 1) = 8 * k + i + 1 by omega, upto_succ, HBT.out, bvs_snoc]
                exact hown2
              · exact (HB5.out.alloc HSZ.out _).trans (Below.grown (Below.refl _ _) hgrow2 (by have := HSZ.out; simp; omega) (own_base HOWN5.out))
            case measure => simp [intOf]; omega
          · obtain rfl : i = 8 := by omega
            have hi2 : ¬ ((8 : Nat) : Int) < 8 := by omega
            have HB5 := hid hb5
            have HOWN5 := hid hown5
            clear hb5 hown5
            go_wp2_with fail
            go_roundw
            case rel => exact ⟨k + 1, by omega, by go_num, HOWN5.out, HB5.out⟩
            case measure => simp [intOf]; omega
      · obtain rfl : k = len0 := by omega
        have hlt2 : ¬ (k : Int) < (k : Int) := by omega
        obtain ⟨a, cap, rfl, hby⟩ := own_bytes HOW.out
        have HBY := hid hby
        clear hby
        have HWO := hid (Wo.kept HA.out HB.out)
        go_wp2_with fail
        refine (words_ok _ _ _ _ hr0 _ HWO.out).mono ?_
        rintro e w4 ⟨rfl, hb4⟩
        have HB4 := hid hb4
        clear hb4
        go_wp2_with fail
        have HBZ := hid (bytes_any a (8 * k) cap _ w4 (by omega) (By.kept HBY.out HB4.out))
        rw [bytes_words] at HBZ
        refine HBZ.out.mono ?_
        rintro e w6 ⟨rfl, hb6⟩
        have HB6 := hid hb6
        clear hb6
        generalize ext 0 ws k = s at *
        go_wp2_with fail
        refine (awake_ok _).mono ?_
        rintro e w7 ⟨rfl, hb7⟩
        have HB7 := hid hb7
        clear hb7
        go_wp2_with fail
        go_ret
        exact ⟨rfl, bt (bt (bt HB.out HB4.out) (HB6.out)) HB7.out⟩
  · have t0 : 40 < (len0 : Int) := by omega
    clear h0
    go_enter Try.func5, Try.ntmps5
    go_wp2_with fail
    refine (awake_ok _).mono ?_
    rintro e w4 ⟨rfl, hb4⟩
    go_wp2_with fail
    go_ret
    exact ⟨rfl, hb4⟩

set_option maxRecDepth 100000 in
theorem lifted (os : Os) (started : os.Started) (H : Type) (enc : TypeId × Value → H) :
    ReturnsInHanded {} Try.checked os 5 .any (Rows.checksumWordsSpec.pre6 enc Try.prog Try.f5 Rows.checksumWordsRow.domain false) (Rows.checksumWordsSpec.post enc Try.prog Try.f5 false true false false) := by
  refine returnsInHanded_of_change (C := Try.checked) own started (by kernel_rfl) Try.func5
    (ChangeSpec.witness6 (enc := enc) (C := Try.checked) false ⟨#[], #[.slice none 0 0], []⟩ 8 (by kernel_rfl) (by kernel_rfl) (by kernel_rfl) (by kernel_rfl)) ?_
  intro W base args ds gs before hval0 hW hcnd _
  have hval : ∀ (j : Nat) t v, Try.f5.params[j]? = some t → args[j]? = some v → Value.okWide Try.prog W .any base t v := hval0
  have hW' := hW
  obtain ⟨p, q, hA0, hV, rfl, hfz, hnd⟩ := hW
  have hA : DataW.TrodAll enc Try.prog W 0 (fun _ => true) true Try.f5.params.toList args.toList ds p := hA0
  rw [Try.params5] at hA hval
  obtain ⟨v0, vs0, d0, ds0, p0, q0, hargs, rfl, rfl, h0, r0⟩ := trodAll_cons hA
  obtain ⟨rfl, rfl, rfl⟩ := trodAll_nil r0
  obtain rfl : args = #[v0] := by cases args; simp_all
  obtain ⟨rfl, rfl⟩ := trodVars_none hV
  obtain ⟨a0, len0, cap0, rfl⟩ := okWide_slice Try.underlying23 (hval 0 23 v0 rfl rfl)
  have k0 := h0
  have lt0 : ∀ x ∈ p0, x.block < W.heap.size := by obtain ⟨m, hm⟩ := k0; exact DataW.trod_lt m _ _ _ hm
  obtain ⟨z0, w0⟩ : ∃ zs, IsRow .u64 W a0 len0 cap0 zs := by
    obtain ⟨fuel, hf⟩ := h0
    rcases open_ints Try.underlying23 Try.underlying33 (by kernel_rfl) hf with ⟨hcs, _⟩ | ⟨x, l, c, zs, hcs, _, hl, hm, hz, _, hcell, hwz⟩
    · simp [Value.cells] at hcs
      obtain ⟨rfl, rfl, rfl⟩ := hcs
      exact ⟨[], .inl ⟨rfl, rfl, rfl, rfl⟩⟩
    · simp [Value.cells] at hcs
      obtain ⟨rfl, rfl, rfl⟩ := hcs
      exact ⟨zs, .inr ⟨_, rfl, hl, hm, by simpa using hz, hcell, hwz⟩⟩
  clear hA0 hval0
  refine (walk a0 len0 cap0 z0 W w0).mono fun e W' ⟨he, bel⟩ => ?_
  subst he
  exact ⟨_, rfl, _, _, _, [], _, [], hW', trodAll_mk1 (shut_bool Try.underlying4 _), (trodAll_cons_mk (Below.trod laidOut (by kernel_rfl) (of_decide_eq_true (by kernel_rfl)) k0 bel lt0) trodAll_mk0), rfl, bel.frame _, fun h => by cases h⟩

theorem over : Rows.checksumWordsRow.holds Try.pinned (OpenSpec.ofChange Rows.checksumWordsSpec) :=
  OpenClaim.holds_of_wide 5 Try.f5 rfl rfl rfl rfl rfl rfl rfl ⟨rfl, rfl, rfl, rfl, rfl⟩ rfl rfl rfl rfl rfl (by kernel_rfl) Try.func5 (by kernel_rfl)
    (of_decide_eq_true (by kernel_rfl)) (by unfold Func.isWrapper; first | (rw [if_pos (by decide +kernel)]; kernel_rfl) | (rw [if_neg (by decide +kernel)]; exact ⟨rfl, rfl⟩))
    (fun os started H enc _ => lifted os started H enc)

theorem proved : Rows.ChecksumWordsSaid := over
#print axioms proved
end Go.Proofs.Ytdkpjfjmccgaoaa.checksumWords
