/- StripeSound: no disks, many disks, many requests; what comes in. No conditions but those of each theorem. -/
import Derived.Test.YtbgbjgedjmhcaaaSyZ
import Derived.KernelRfl
import Derived.Test.YtbgbjgedjmhcaaaSD
import Derived.Below
import Derived.WalkKit
import Derived.OpenShut
namespace Go.Proofs.Ytbgbjgedjmhcaaa
open Go.RowKit
open OldD (Dk Un Wr Sc hs hd chk3 chk4 rdV wrE wrK flK reK up upto pFail pFlush ge gu)
set_option linter.unusedVariables false
set_option linter.unnecessarySimpa false
set_option linter.unusedSimpArgs false
set_option maxRecDepth 10000
set_option maxHeartbeats 4000000 in
theorem sfr0 (ch : Int) (hch : 0 ≤ ch ∧ ch ≤ 255) (l : List Stp) (hl : l.length ≤ 24) : CallOK Try.prog 7 [.sl 1 0 1 0 none, .val (.int .u8 ch), .sl 2 0 4 l.length none] [(1, .ro 1 0 (rowG enc8 [])), (2, .ro 4 l.length (rowG encSt l))] (B true) [] := by
  refine CallOK.intro Try.call7 Try.func7 rfl rfl ⟨rfl, fun _ => rfl, rfl, fun _ => rfl, trivial⟩ ?_
  have fw := few_any l
  rw [decide_eq_true (show (l.length : Int) ≤ 24 by omega)] at fw
  have ld := loadedNil
  have sp := spansG 0 0 (szL []) (dkN []) (by omega) rfl (fun i hi => by omega)
  have hcb : 1 ≤ 1 + ch % 4 ∧ 1 + ch % 4 ≤ 4 := by omega
  have nws := snew_no 0 (dkN []) (1 + ch % 4) (by omega) (by omega)
  have rs := rsize_no (1 + ch % 4) (by omega) (by omega)
  have sp : CallOK Try.prog 22 [.ptr 0 0 0 0] [(0, .box (dbox 0 (dkN [])))] (.sl 10 0 1 0 none) [(0, some (.box (dbox 0 (dkN [])))), (10, some (.vec 43 1 0 (rowN encSp 0 [])))] := sp
  refine Safe.ends mixed Try.func7 45 [⟨1100, []⟩, ⟨1200, [(5, .call [2] (B true) [])]⟩, ⟨1300, []⟩, ⟨1400, []⟩, ⟨1500, []⟩, ⟨1600, []⟩, ⟨1700, [(1, .call [] (.ptr 1755 0 0 0) [(1755, some (.box (dbox (0 : Nat) (dkN []))))])]⟩, ⟨1800, []⟩, ⟨1900, []⟩, ⟨2000, [(1, .call [1755] (.sl 2055 0 1 0 none) [(1755, some (.box (dbox (0 : Nat) (dkN [])))), (2055, some (.vec 43 1 0 (rowN encSp (1755 : Nat) [])))]), (3, .call [1755, 2055] (.tup [.val Value.nilIface, I 1]) [])]⟩, ⟨2100, [(2, .call [] (.tup [I 0, I 1]) [])]⟩, ⟨2200, []⟩, ⟨2300, []⟩, ⟨2400, [(0, .call [] (B true) [])]⟩] (r := B true) (hp := [(1, .ro 1 0 (rowG enc8 [])), (2, .ro 4 l.length (rowG encSt l))]) (ob := [CallOK Try.prog (33 : Nat) ([] ++ [AV.sl (2 : Nat) (0 : Nat) (4 : Nat) l.length none] ++ []) [((2 : Nat), Ob.ro (4 : Nat) l.length (rowG encSt l))] (AV.val (Value.bool true)) [], CallOK Try.prog (21 : Nat) ([] ++ [AV.val (Value.slice none (0 : Nat) (0 : Nat))] ++ []) [] (AV.ptr (1755 : Nat) (0 : Nat) (0 : Nat) (0 : Nat)) [((1755 : Nat), some (Ob.box (dbox (0 : Nat) (dkN []))))], (0 : Int) ≤ ch ∧ (0 : Int) < (4 : Int), inK IntKind.i64 (ch % (4 : Int)), inK IntKind.i64 ((1 : Int) + ch % (4 : Int)), CallOK Try.prog (22 : Nat) ([] ++ [AV.ptr (1755 : Nat) (0 : Nat) (0 : Nat) (0 : Nat)] ++ []) [((1755 : Nat), Ob.box (dbox (0 : Nat) (dkN [])))] (AV.sl (2055 : Nat) (0 : Nat) (1 : Nat) (0 : Nat) none) [((1755 : Nat), some (Ob.box (dbox (0 : Nat) (dkN [])))), ((2055 : Nat), some (Ob.vec (43 : Nat) (1 : Nat) (0 : Nat) (rowN encSp (1755 : Nat) [])))], CallOK Try.prog (36 : Nat) ([] ++ [AV.sl (2055 : Nat) (0 : Nat) (1 : Nat) (0 : Nat) none, AV.val (Value.int IntKind.i64 ((1 : Int) + ch % (4 : Int)))] ++ []) [((1755 : Nat), Ob.box (dbox (0 : Nat) (dkN []))), ((2055 : Nat), Ob.vec (43 : Nat) (1 : Nat) (0 : Nat) (rowN encSp (1755 : Nat) []))] (AV.tup [AV.val Value.nilIface, AV.val (Value.int IntKind.i64 (1 : Int))]) [], CallOK Try.prog (37 : Nat) ([] ++ [AV.val (Value.int IntKind.i64 ((1 : Int) + ch % (4 : Int))), AV.val (Value.slice none (0 : Nat) (0 : Nat))] ++ []) [] (AV.tup [AV.val (Value.int IntKind.i64 (0 : Int)), AV.val (Value.int IntKind.i64 (1 : Int))]) [], CallOK Try.prog (34 : Nat) ([] ++ [] ++ []) [] (AV.val (Value.bool true)) []]) rfl (by kernel_rfl) ⟨fw, (CallOK.ren ld [(10, 1755)] [10] rfl rfl rfl rfl trivial rfl ⟨rfl, trivial, trivial⟩), (by omega), (by simp only [inK]; omega), (by simp only [inK]; omega), (CallOK.ren sp [(0, 1755), (10, 2055)] [0, 10] rfl rfl rfl rfl ⟨rfl, trivial, trivial⟩ rfl ⟨rfl, trivial, rfl, fun _ => rfl, trivial⟩), (CallOK.ren (CallOK.own 43 1 (es := (1 : Nat)) (n := (0 : Nat)) (row := rowN encSp (0 : Nat) []) rfl rfl rfl nws) [(1, 2055), (0, 1755)] [1, 0] rfl rfl rfl rfl ⟨rfl, trivial, rfl, fun _ => rfl, trivial⟩ rfl ⟨rfl, trivial, rfl, fun _ => rfl, trivial⟩), rs, sawake_any, trivial⟩ rfl ⟨ObLe.refl _, ObLe.refl _, trivial⟩ ⟨rfl, fun _ => rfl, rfl, fun _ => rfl, trivial⟩ rfl
  all_goals skip
theorem s_long (S : List Int) (h : 5 ≤ S.length) (hS : S.length ≤ 9223372036854775807) (ch : Int) (l : List Stp) (hl : l.length ≤ 9223372036854775807) : CallOK Try.prog 7 [.sl 1 0 1 S.length none, .val (.int .u8 ch), .sl 2 0 4 l.length none] [(1, .ro 1 S.length (rowG enc8 S)), (2, .ro 4 l.length (rowG encSt l))] (B true) [] := by
  refine CallOK.intro Try.call7 Try.func7 rfl rfl ⟨rfl, fun _ => rfl, rfl, fun _ => rfl, trivial⟩ ?_
  have hgt : (S.length : Int) > 4 := by omega
  have fw := few_any l
  refine Safe.ends mixed Try.func7 8 [⟨1100, []⟩, ⟨1200, [(2, .tt true)]⟩, ⟨1300, [(0, .call [] (B true) [])]⟩] (r := B true) (hp := [(1, .ro 1 S.length (rowG enc8 S)), (2, .ro 4 l.length (rowG encSt l))]) (ob := [decide ((↑S.length : Int) > (4 : Int)) = true, CallOK Try.prog (34 : Nat) ([] ++ [] ++ []) [] (AV.val (Value.bool true)) []]) rfl (by kernel_rfl) ⟨(decide_eq_true hgt), sawake_any, trivial⟩ rfl ⟨ObLe.refl _, ObLe.refl _, trivial⟩ ⟨rfl, fun _ => rfl, rfl, fun _ => rfl, trivial⟩ rfl
theorem s_many (S : List Int) (h : S.length ≤ 4) (ch : Int) (l : List Stp) (hl : ¬ l.length ≤ 24) (hl2 : l.length ≤ 9223372036854775807) : CallOK Try.prog 7 [.sl 1 0 1 S.length none, .val (.int .u8 ch), .sl 2 0 4 l.length none] [(1, .ro 1 S.length (rowG enc8 S)), (2, .ro 4 l.length (rowG encSt l))] (B true) [] := by
  refine CallOK.intro Try.call7 Try.func7 rfl rfl ⟨rfl, fun _ => rfl, rfl, fun _ => rfl, trivial⟩ ?_
  have hgt : ¬ (S.length : Int) > 4 := by omega
  have fw := few_any l
  rw [decide_eq_false (show ¬ (l.length : Int) ≤ 24 by omega)] at fw
  refine Safe.ends mixed Try.func7 8 [⟨1100, []⟩, ⟨1200, [(2, .tt false), (5, .call [2] (B false) [])]⟩, ⟨1300, [(0, .call [] (B true) [])]⟩] (r := B true) (hp := [(1, .ro 1 S.length (rowG enc8 S)), (2, .ro 4 l.length (rowG encSt l))]) (ob := [decide ((↑S.length : Int) > (4 : Int)) = false, CallOK Try.prog (33 : Nat) ([] ++ [AV.sl (2 : Nat) (0 : Nat) (4 : Nat) l.length none] ++ []) [((2 : Nat), Ob.ro (4 : Nat) l.length (rowG encSt l))] (AV.val (Value.bool false)) [], CallOK Try.prog (34 : Nat) ([] ++ [] ++ []) [] (AV.val (Value.bool true)) []]) rfl (by kernel_rfl) ⟨(decide_eq_false hgt), fw, sawake_any, trivial⟩ rfl ⟨ObLe.refl _, ObLe.refl _, trivial⟩ ⟨rfl, fun _ => rfl, rfl, fun _ => rfl, trivial⟩ rfl
theorem stripe_law (S : List Int) (hS : ∀ x ∈ S, 0 ≤ x ∧ x ≤ 255) (hSl : S.length ≤ 9223372036854775807) (ch : Int) (hch : 0 ≤ ch ∧ ch ≤ 255) (l : List Stp) (hl : l.length ≤ 9223372036854775807) : CallOK Try.prog 7 [.sl 1 0 1 S.length none, .val (.int .u8 ch), .sl 2 0 4 l.length none] [(1, .ro 1 S.length (rowG enc8 S)), (2, .ro 4 l.length (rowG encSt l))] (B true) [] := by
  by_cases h5 : 5 ≤ S.length
  · exact s_long S h5 hSl ch l hl
  · by_cases h24 : l.length ≤ 24
    · match S, hS, h5 with
      | [], _, _ => exact sfr0 ch hch l h24
      | [s0], hS, _ => exact sfr1 s0 ch (hS s0 (by simp)) hch l h24
      | [s0, s1], hS, _ => exact sfr2 s0 s1 ch (hS s0 (by simp)) (hS s1 (by simp)) hch l h24
      | [s0, s1, s2], hS, _ => exact sfr3 s0 s1 s2 ch (hS s0 (by simp)) (hS s1 (by simp)) (hS s2 (by simp)) hch l h24
      | [s0, s1, s2, s3], hS, _ => exact sfr4 s0 s1 s2 s3 ch (hS s0 (by simp)) (hS s1 (by simp)) (hS s2 (by simp)) (hS s3 (by simp)) hch l h24
      | s0 :: s1 :: s2 :: s3 :: s4 :: r, _, h => exact absurd (by simp) h
    · exact s_many S (by omega) ch l h24 hl
theorem row_b_steps {W : World} {a a1 : Option Addr} {len cap c1 : Nat} {z : List Int} {l : List Stp} (h : IsRow .u8 W a len cap z) (h1 : Sts W a1 c1 l) :
    ∃ E : Env, RH E [(1, .ro 1 (z.take len).length (rowG enc8 (z.take len))), (2, .ro 4 l.length (rowG encSt l))] W ∧ RV E (.sl 1 0 1 (z.take len).length none) (.slice a len cap) ∧ RV E (.sl 2 0 4 l.length none) (.slice a1 l.length c1) := by
  obtain ⟨E, hE⟩ : ∃ E : Env, E = fun id => if id = 1 then some (inE a cap) else if id = 2 then (if c1 = 0 then some (none, 0) else some (a1, c1)) else none := ⟨_, rfl⟩
  have k1 := h.roB (E := E) (id := 1) (by rw [hE]; rfl)
  have k2 := h1.ro (E := E) (id := 2) (by rw [hE]; rfl)
  refine ⟨E, RH.ros (fun id o ho => ?_) (fun id o ho => ?_), k1.2, ?_⟩
  · rcases find2 ho with ⟨rfl, rfl⟩ | ⟨rfl, _, rfl⟩
    · exact k1.1
    · exact k2.1
  · rcases find2 ho with ⟨rfl, rfl⟩ | ⟨rfl, _, rfl⟩ <;> rfl
  · simp only [RV]
    refine ⟨_, _, ?_, k2.2⟩
    rw [hE]
    by_cases e : c1 = 0 <;> simp [e]
end Go.Proofs.Ytbgbjgedjmhcaaa
