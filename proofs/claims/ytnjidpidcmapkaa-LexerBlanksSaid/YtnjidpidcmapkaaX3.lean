/- The builder of texts: its check, a byte written, a text written, its text. No conditions but those of each theorem. -/
import Derived.Test.YtnjidpidcmapkaaSyZ
import Derived.KernelRfl
import Derived.Test.YtnjidpidcmapkaaX2
namespace Go.Proofs.Ytnjidpidcmapkaa
open Go.RowKit
set_option linter.unusedVariables false
set_option linter.unnecessarySimpa false
set_option linter.unusedSimpArgs false
/-- the cells of bytes -/
def encU (z : Int) : List AV := [U8 z]
abbrev nilS : AV := .val (.slice none 0 0)
abbrev nilP : AV := .val (.pointer none)
set_option maxRecDepth 10000 in
set_option maxHeartbeats 4000000 in
theorem check_new : CallOK Try.prog 38 [.ptr 22 0 0 0] [(22, .blk 58 [nilP, nilS])] (.tup []) [(22, some (.blk 58 [.ptr 22 0 0 0, nilS]))] := by
  refine CallOK.intro Try.call38 Try.func38 rfl rfl ⟨rfl, rfl, trivial⟩ ?_
  refine Safe.ends mixed Go.Proofs.Try.func38 4 [⟨1100, []⟩, ⟨1200, [(3, .ext (.ptr ((22 : Nat)) ((0 : Nat)) ((0 : Nat)) ((0 : Nat))))]⟩] (r := .tup []) (hp := [(22, .blk ((58 : Nat)) [.ptr ((22 : Nat)) ((0 : Nat)) ((0 : Nat)) ((0 : Nat)), .val (Value.slice none (0 : Nat) (0 : Nat))])]) (ob := [ExtOK Try.prog (47 : Nat) ([] ++ [AV.ptr (22 : Nat) (0 : Nat) (0 : Nat) (0 : Nat)] ++ []) (AV.ptr (22 : Nat) (0 : Nat) (0 : Nat) (0 : Nat))]) rfl (by kernel_rfl) ⟨(noEscape_ext ((22 : Nat))), trivial⟩ rfl ⟨ObLe.refl _, trivial⟩ ⟨rfl, rfl, trivial⟩ rfl
set_option maxRecDepth 10000 in
set_option maxHeartbeats 4000000 in
theorem check_old (L : List Int) : CallOK Try.prog 38 [.ptr 22 0 0 0] [(22, .blk 58 [.ptr 22 0 0 0, .sl 23 0 1 L.length none]), (23, .vec 5 1 L.length (rowG encU L))] (.tup []) [] := by
  refine CallOK.intro Try.call38 Try.func38 rfl rfl ⟨rfl, rfl, rfl, fun _ => rfl, trivial⟩ ?_
  refine Safe.ends mixed Go.Proofs.Try.func38 7 [⟨1100, []⟩, ⟨1200, []⟩] (r := .tup []) (hp := [(22, .blk ((58 : Nat)) [.ptr ((22 : Nat)) ((0 : Nat)) ((0 : Nat)) ((0 : Nat)), .sl ((23 : Nat)) ((0 : Nat)) ((1 : Nat)) (L.length) (none)]), (23, .vec ((5 : Nat)) ((1 : Nat)) (L.length) (rowG encU L))]) (ob := []) rfl (by kernel_rfl) trivial rfl ⟨ObLe.refl _, ObLe.refl _, trivial⟩ ⟨rfl, rfl, rfl, fun _ => rfl, trivial⟩ rfl
set_option maxRecDepth 10000 in
set_option maxHeartbeats 4000000 in
theorem wbyte_new (c : Int) : CallOK Try.prog 24 [.ptr 22 0 0 0, U8 c] [(22, .blk 58 [nilP, nilS])] (.val .nilIface) [(22, some (.blk 58 [.ptr 22 0 0 0, .sl 10 0 1 ([c] : List Int).length none])), (10, some (.vec 5 1 ([c] : List Int).length (rowG encU [c])))] := by
  refine CallOK.intro Try.call24 Try.func24 rfl rfl ⟨rfl, rfl, trivial⟩ ?_
  refine Safe.gotoE mixed 8 [⟨1100, []⟩, ⟨1200, [(1, .call [22] (.tup []) [(22, some (.blk ((58 : Nat)) [.ptr ((22 : Nat)) ((0 : Nat)) ((0 : Nat)) ((0 : Nat)), .val (Value.slice none (0 : Nat) (0 : Nat))]))])]⟩, ⟨1300, []⟩, ⟨1400, []⟩] [4] [22, 1307] (sl := slotsOf 17 [(4, .val (Value.nilIface))]) (hp := [(22, .blk ((58 : Nat)) [.ptr ((22 : Nat)) ((0 : Nat)) ((0 : Nat)) ((0 : Nat)), .sl ((1307 : Nat)) ((0 : Nat)) ((1 : Nat)) ((1 : Nat)) (none)]), (1307, .vec ((5 : Nat)) ((1 : Nat)) ((1 : Nat)) (rowsOf [AV.val (Value.int IntKind.u8 c)] (1 : Nat)))]) (ob := [CallOK Try.prog (38 : Nat) ([] ++ [AV.ptr (22 : Nat) (0 : Nat) (0 : Nat) (0 : Nat)] ++ []) [((22 : Nat), Ob.blk (58 : Nat) [AV.val (Value.pointer none), AV.val (Value.slice none (0 : Nat) (0 : Nat))])] (AV.tup []) [((22 : Nat), some (Ob.blk (58 : Nat) [AV.ptr (22 : Nat) (0 : Nat) (0 : Nat) (0 : Nat), AV.val (Value.slice none (0 : Nat) (0 : Nat))]))], (0 : Nat) + (1 : Nat) ≤ (1 : Nat), (1 : Nat) ≤ (1099511627776 : Nat)]) rfl rfl (by kernel_rfl) ⟨check_new, (by omega), (by omega), trivial⟩ rfl ⟨rfl, rfl, rfl, closed_rows rfl, trivial⟩ fun td htd => ?_
  refine Safe.ren [(1307, 10)] rfl rfl rfl rfl ⟨rfl, rfl, rfl, closed_rows rfl, trivial⟩ ?_
  refine Safe.endsT Go.Proofs.Try.func24 htd (r := .val (Value.nilIface)) (hp := [(22, .blk ((58 : Nat)) [.ptr ((22 : Nat)) ((0 : Nat)) ((0 : Nat)) ((0 : Nat)), .sl ((10 : Nat)) ((0 : Nat)) ((1 : Nat)) ((1 : Nat)) (none)]), (10, .vec ((5 : Nat)) ((1 : Nat)) ((1 : Nat)) (fun q => renL [((1307 : Nat), (10 : Nat))] (rowsOf [AV.val (Value.int IntKind.u8 c)] (1 : Nat) q)))]) (ob := []) rfl (by kernel_rfl) trivial rfl ⟨?_, ?_, trivial⟩ ⟨rfl, rfl, rfl, fun _ => rfl, trivial⟩ rfl
  · exact ObLe.refl _
  · show ObLe (.vec 5 1 1 _) _
    exact ob_ren_one (σ := [(1307, 10)]) encU [] c _ rfl (fun _ => rfl) rfl
set_option maxRecDepth 10000 in
set_option maxHeartbeats 4000000 in
theorem wbyte_own (L : List Int) (c : Int) (hl : L.length ≤ 1000000) : CallOK Try.prog 24 [.ptr 22 0 0 0, U8 c] [(22, .blk 58 [.ptr 22 0 0 0, .sl 23 0 1 L.length none]), (23, .vec 5 1 L.length (rowG encU L))] (.val .nilIface) [(22, some (.blk 58 [.ptr 22 0 0 0, .sl 10 0 1 (L ++ [c]).length none])), (23, none), (10, some (.vec 5 1 (L ++ [c]).length (rowG encU (L ++ [c]))))] := by
  refine CallOK.intro Try.call24 Try.func24 rfl rfl ⟨rfl, rfl, rfl, fun _ => rfl, trivial⟩ ?_
  have e : addN L.length 1 = (L ++ [c]).length := by rw [addN_eq]; simp
  refine Safe.gotoE mixed 8 [⟨1100, []⟩, ⟨1200, [(1, .call [22, 23] (.tup []) [])]⟩, ⟨1300, []⟩, ⟨1400, []⟩] [4] [22, 1307, 23] (sl := slotsOf 17 [(4, .val (Value.nilIface))]) (hp := [(22, .blk ((58 : Nat)) [.ptr ((22 : Nat)) ((0 : Nat)) ((0 : Nat)) ((0 : Nat)), .sl ((1307 : Nat)) ((0 : Nat)) ((1 : Nat)) (addN L.length (1 : Nat)) (none)]), (1307, .vec ((5 : Nat)) ((1 : Nat)) (addN L.length (1 : Nat)) (catR L.length (rowG encU L) (rowsOf [AV.val (Value.int IntKind.u8 c)] (1 : Nat))))]) (ob := [CallOK Try.prog (38 : Nat) ([] ++ [AV.ptr (22 : Nat) (0 : Nat) (0 : Nat) (0 : Nat)] ++ []) [((22 : Nat), Ob.blk (58 : Nat) [AV.ptr (22 : Nat) (0 : Nat) (0 : Nat) (0 : Nat), AV.sl (23 : Nat) (0 : Nat) (1 : Nat) L.length none]), ((23 : Nat), Ob.vec (5 : Nat) (1 : Nat) L.length (rowG encU L))] (AV.tup []) [], (0 : Nat) + (1 : Nat) ≤ (1 : Nat), L.length = L.length, L.length + (1 : Nat) ≤ (1099511627776 : Nat)]) rfl rfl (by kernel_rfl) ⟨(check_old (L)), (by omega), (by omega), (by omega), trivial⟩ rfl ⟨rfl, rfl, rfl, closed_cat (fun _ => rfl) (closed_rows rfl), trivial⟩ fun td htd => ?_
  refine Safe.ren [(1307, 10)] rfl rfl rfl rfl ⟨rfl, rfl, rfl, closed_cat (fun _ => rfl) (closed_rows rfl), trivial⟩ ?_
  refine Safe.endsT Go.Proofs.Try.func24 htd (r := .val (Value.nilIface)) (hp := [(22, .blk ((58 : Nat)) [.ptr ((22 : Nat)) ((0 : Nat)) ((0 : Nat)) ((0 : Nat)), .sl ((10 : Nat)) ((0 : Nat)) ((1 : Nat)) (addN L.length (1 : Nat)) (none)]), (10, .vec ((5 : Nat)) ((1 : Nat)) (addN L.length (1 : Nat)) (fun q => renL [((1307 : Nat), (10 : Nat))] (catR L.length (rowG encU L) (rowsOf [AV.val (Value.int IntKind.u8 c)] (1 : Nat)) q)))]) (ob := []) rfl (by kernel_rfl) trivial rfl ⟨?_, ?_, trivial⟩ ⟨rfl, rfl, rfl, fun _ => rfl, trivial⟩ rfl
  · show ObLe (.blk 58 [.ptr 22 0 0 0, .sl 10 0 1 (addN L.length 1) none]) _
    rw [e]; exact ObLe.refl _
  · show ObLe (.vec 5 1 (addN L.length 1) _) _
    exact ob_ren_one encU L c _ (by rw [addN_eq]) (fun _ => rfl) rfl
theorem row_str {L : List Int} (h : Bts L) : RowStr (str L) L.length (rowG encU L) := by
  refine ⟨str_size L, fun q hq => ?_⟩
  unfold rowG encU strRow
  rw [str_byte h]
  simp [List.getD_eq_getElem?_getD, List.getElem?_eq_getElem hq]
set_option maxRecDepth 10000 in
set_option maxHeartbeats 4000000 in
theorem string_own (L : List Int) (h : Bts L) (h1 : 1 ≤ L.length) (hl : L.length ≤ 1000000) : CallOK Try.prog 27 [.ptr 22 0 0 0] [(22, .blk 58 [.ptr 22 0 0 0, .sl 23 0 1 L.length none]), (23, .vec 5 1 L.length (rowG encU L))] (S (str L)) [(22, none), (23, none)] := by
  refine CallOK.intro Try.call27 Try.func27 rfl rfl ⟨rfl, rfl, rfl, fun _ => rfl, trivial⟩ ?_
  have hr := row_str h
  refine Safe.ends mixed Go.Proofs.Try.func27 4 [⟨1100, []⟩, ⟨1200, [(10, .is (S (str L)))]⟩] (r := S (str L)) (hp := []) (ob := [(1 : Nat) ≤ L.length, (↑L.length : Int) = (↑L.length : Int) ∧ (1 : Nat) ≤ L.length ∧ L.length ≤ (9223372036854775807 : Nat) ∧ RowStr (str L) L.length (rowG encU L), AV.val (Value.string (str L)) = AV.val (Value.string (str L))]) rfl (by kernel_rfl) ⟨(by first | omega | rfl | exact ⟨rfl, h1, by omega, hr⟩), (by first | omega | rfl | exact ⟨rfl, h1, by omega, hr⟩), (by first | omega | rfl | exact ⟨rfl, h1, by omega, hr⟩), trivial⟩ rfl trivial trivial rfl
set_option maxRecDepth 10000 in
set_option maxHeartbeats 4000000 in
theorem string_new : CallOK Try.prog 27 [.ptr 22 0 0 0] [(22, .blk 58 [nilP, nilS])] (S { data := #[] }) [(22, none)] := by
  refine CallOK.intro Try.call27 Try.func27 rfl rfl ⟨rfl, rfl, trivial⟩ ?_
  refine Safe.ends mixed Go.Proofs.Try.func27 4 [⟨1100, []⟩, ⟨1200, []⟩] (r := S (ByteArray.empty)) (hp := []) (ob := [(↑(0 : Nat) : Int) = (0 : Int)]) rfl (by kernel_rfl) ⟨(by omega), trivial⟩ ?_ trivial trivial rfl
  exact rfl
set_option maxRecDepth 10000 in
set_option maxHeartbeats 4000000 in
theorem wstring_own (L M : List Int) (hM : Bts M) (h1 : 1 ≤ L.length) (hl : L.length ≤ 1000000) (hm : M.length ≤ 1000000) : CallOK Try.prog 25 [.ptr 22 0 0 0, S (str M)] [(22, .blk 58 [.ptr 22 0 0 0, .sl 23 0 1 L.length none]), (23, .vec 5 1 L.length (rowG encU L))] (.tup [I M.length, .val .nilIface]) [(22, some (.blk 58 [.ptr 22 0 0 0, .sl 10 0 1 (L ++ M).length none])), (23, none), (10, some (.vec 5 1 (L ++ M).length (rowG encU (L ++ M))))] := by
  refine CallOK.intro Try.call25 Try.func25 rfl rfl ⟨rfl, rfl, rfl, fun _ => rfl, trivial⟩ ?_
  have hsz := str_size M
  have e : addN L.length (str M).size = (L ++ M).length := by rw [addN_eq, hsz]; simp
  refine Safe.gotoE mixed 8 [⟨1100, []⟩, ⟨1200, [(1, .call [22, 23] (.tup []) [])]⟩, ⟨1300, []⟩, ⟨1400, []⟩] [4, 5] [22, 1306, 23] (sl := slotsOf 19 [(4, I ((↑(str M).size : Int))), (5, .val (Value.nilIface))]) (hp := [(22, .blk ((58 : Nat)) [.ptr ((22 : Nat)) ((0 : Nat)) ((0 : Nat)) ((0 : Nat)), .sl ((1306 : Nat)) ((0 : Nat)) ((1 : Nat)) (addN L.length (str M).size) (none)]), (1306, .vec ((5 : Nat)) ((1 : Nat)) (addN L.length (str M).size) (catR L.length (rowG encU L) (strRow (str M))))]) (ob := [CallOK Try.prog (38 : Nat) ([] ++ [AV.ptr (22 : Nat) (0 : Nat) (0 : Nat) (0 : Nat)] ++ []) [((22 : Nat), Ob.blk (58 : Nat) [AV.ptr (22 : Nat) (0 : Nat) (0 : Nat) (0 : Nat), AV.sl (23 : Nat) (0 : Nat) (1 : Nat) L.length none]), ((23 : Nat), Ob.vec (5 : Nat) (1 : Nat) L.length (rowG encU L))] (AV.tup []) [], L.length = L.length ∧ (1 : Nat) ≤ L.length ∧ L.length + (str M).size ≤ (1099511627776 : Nat)]) rfl rfl (by kernel_rfl) ⟨(check_old (L)), (by omega), trivial⟩ rfl ⟨rfl, rfl, rfl, closed_cat (fun _ => rfl) (fun _ => rfl), trivial⟩ fun td htd => ?_
  refine Safe.ren [(1306, 10)] rfl rfl rfl rfl ⟨rfl, rfl, rfl, closed_cat (fun _ => rfl) (fun _ => rfl), trivial⟩ ?_
  refine Safe.endsT Go.Proofs.Try.func25 htd (r := .tup [I ((↑(str M).size : Int)), .val (Value.nilIface)]) (hp := [(22, .blk ((58 : Nat)) [.ptr ((22 : Nat)) ((0 : Nat)) ((0 : Nat)) ((0 : Nat)), .sl ((10 : Nat)) ((0 : Nat)) ((1 : Nat)) (addN L.length (str M).size) (none)]), (10, .vec ((5 : Nat)) ((1 : Nat)) (addN L.length (str M).size) (fun q => renL [((1306 : Nat), (10 : Nat))] (catR L.length (rowG encU L) (strRow (str M)) q)))]) (ob := []) rfl (by kernel_rfl) trivial ?_ ⟨?_, ?_, trivial⟩ ⟨rfl, rfl, rfl, fun _ => rfl, trivial⟩ rfl
  · show AV.tup _ = AV.tup _
    rw [hsz]
  · show ObLe (.blk 58 [.ptr 22 0 0 0, .sl 10 0 1 (addN L.length (str M).size) none]) _
    rw [e]; exact ObLe.refl _
  · show ObLe (.vec 5 1 (addN L.length (str M).size) _) _
    refine ⟨rfl, rfl, e, fun q hq => ?_⟩
    dsimp only
    rw [catR_at]
    unfold rowG encU strRow
    by_cases h : q < L.length
    · rw [if_pos h]
      simp [List.getD_eq_getElem?_getD, List.getElem?_append_left h]
      rfl
    · rw [if_neg h, str_byte hM]
      simp [List.getD_eq_getElem?_getD, List.getElem?_append_right (show L.length ≤ q by omega)]
      rfl
end Go.Proofs.Ytnjidpidcmapkaa
