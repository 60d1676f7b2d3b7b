/- What is written is read back: words of a node, pure. No conditions but those of each theorem. -/
import Derived.Test.YtonjaghkiaaipaaSyZ
import Derived.KernelRfl
import Derived.Test.YtonjaghkiaaipaaW7
namespace Go.Proofs.Ytonjaghkiaaipaa
open Go.RowKit
set_option linter.unusedVariables false
set_option linter.unnecessarySimpa false
set_option linter.unusedSimpArgs false
theorem padF_full {L : List Int} (h : L.length = 16) : padF L = L := by
  unfold padF
  rw [List.take_of_length_le (by omega), show 16 - L.length = 0 by omega]
  simp
theorem wsum_twice (h s t : Int) (hh : 0 ≤ h ∧ h ≤ 18446744073709551615) (hs : 0 ≤ s ∧ s < 65536) : wsum (wsum h s) t = wsum h t := by
  rw [wsum_eq _ t (wsum_bd h s hh hs), wsum_eq h s hh, wsum_eq h t hh]
  omega
theorem set_get {L : List Int} {i : Nat} {x : Int} (j : Nat) (hj : j < L.length) : (L.set i x).getD j default = if j = i then x else L.getD j default := getD_set L i x j hj
theorem sumF_sealed {P : List Int} (hw : Wf P) (hl : P.length = 16) (s : Int) (hs : 0 ≤ s ∧ s < 65536) : sumF (P.set 0 (wsum (P.getD 0 default) s)) = sumF P := by
  unfold sumF
  rw [set_get 0 (by omega), if_pos rfl, List.set_set, wsum_twice _ _ _ (hw.at 0) hs]
theorem encF_eq (l s : Int) (L : List En) (b : Int) : encF l s L b = (wordK (hdrF 2 l L.length b) L L.length s).set 0 (wsum (hdrF 2 l L.length b) (sumF (wordK (hdrF 2 l L.length b) L L.length s))) := by
  unfold encF sealF
  rw [padF_full (wordK_len _ _ _ _), wordK_at _ _ _ _ 0 (by omega), if_pos rfl]
structure EncDec (l s : Int) (L : List En) (b : Int) : Prop where
  wf : Wf (encF l s L b)
  len : (encF l s L b).length = 16
  sealed : sealedF (encF l s L b) 2 b = 0
  cnt : cntW (encF l s L b) = (L.length : Nat)
  lev : levW (encF l s L b) = l
  seq : (encF l s L b).getD 15 default = s
  ent : entW (encF l s L b) L.length = L
  good : decGood (encF l s L b)
  head : (encF l s L b).getD 0 default = wsum (hdrF 2 l L.length b) (sumF (encF l s L b))
  rest : ∀ j, 0 < j → j < 16 → (encF l s L b).getD j default = (wordK (hdrF 2 l L.length b) L L.length s).getD j default
theorem enc_dec (l s : Int) (L : List En) (b : Int) (hk : KeyBd L) (he : encErr l s L b = 0) : EncDec l s L b := by
  obtain ⟨hv, hb1, hb2, hl1, hl2, hs1, hs2, hlen, hg⟩ := enc_good he
  have hh := hdrF_bd 2 l L.length b
  have hwf := wordK_wf L.length hh ⟨hs1, hs2⟩ hk hg
  have hP := wordK_len (hdrF 2 l L.length b) L L.length s
  have hP0 : (wordK (hdrF 2 l L.length b) L L.length s).getD 0 default = hdrF 2 l L.length b := by rw [wordK_at _ _ _ _ 0 (by omega), if_pos rfl]
  have hc := sumF_bd (wordK (hdrF 2 l L.length b) L L.length s)
  have hE := encF_eq l s L b
  have hss := sumF_sealed hwf hP (sumF (wordK (hdrF 2 l L.length b) L L.length s)) (by omega)
  rw [hP0, ← hE] at hss
  have hat := wordK_at (hdrF 2 l L.length b) L L.length s
  generalize hPP : wordK (hdrF 2 l L.length b) L L.length s = P at *
  generalize hcc : sumF P = c at *
  have hW0 : (encF l s L b).getD 0 default = wsum (hdrF 2 l L.length b) c := by rw [hE, set_get 0 (by omega), if_pos rfl]
  have hWj : ∀ j, 0 < j → j < 16 → (encF l s L b).getD j default = P.getD j default := fun j h1 h2 => by rw [hE, set_get j (by omega), if_neg (by omega)]
  have hWl : (encF l s L b).length = 16 := by rw [hE, List.length_set, hP]
  have hWwf : Wf (encF l s L b) := by rw [hE]; exact hwf.set 0 (wsum_bd _ _ hh (by omega))
  have hw := wsum_eq (hdrF 2 l L.length b) c hh
  have hhd : hdrF 2 l L.length b = 2 + 16 * l + 256 * (L.length : Int) + 4096 * b + 281474976710656 * 19796 := by unfold hdrF; omega
  rw [hhd] at hw hW0
  generalize hww : wsum (2 + 16 * l + 256 * (L.length : Int) + 4096 * b + 281474976710656 * 19796) c = w at *
  have hcnt : cntW (encF l s L b) = (L.length : Nat) := by unfold cntW; rw [hW0]; omega
  have hlev : levW (encF l s L b) = l := by unfold levW; rw [hW0]; omega
  have hseq : (encF l s L b).getD 15 default = s := by rw [hWj 15 (by omega) (by omega), hat 15 (by omega), if_neg (by omega), if_pos rfl]
  have hkey : ∀ i, i < 7 → (encF l s L b).getD (1 + i) default = if i < L.length then (L.getD i default).1 else 0 := fun i hi => by
    rw [hWj (1 + i) (by omega) (by omega), hat (1 + i) (by omega), if_neg (by omega), if_neg (by omega), if_pos (by omega), Nat.add_sub_cancel_left]
  have hval : ∀ i, i < 7 → (encF l s L b).getD (8 + i) default = if i < L.length then (L.getD i default).2 else 0 := fun i hi => by
    rw [hWj (8 + i) (by omega) (by omega), hat (8 + i) (by omega), if_neg (by omega), if_neg (by omega), if_neg (by omega), Nat.add_sub_cancel_left]
  have hent : entW (encF l s L b) L.length = L := by
    refine List.ext_getElem (entW_len _ _) fun i h1 h2 => ?_
    have : (entW (encF l s L b) L.length)[i] = ((encF l s L b).getD (1 + i) default, (encF l s L b).getD (8 + i) default) := by simp [entW]
    rw [this, hkey i (by omega), hval i (by omega), if_pos h2, if_pos h2, List.getD_eq_getElem?_getD, List.getElem?_eq_getElem h2]
    rfl
  refine ⟨hWwf, hWl, ?_, hcnt, hlev, hseq, hent, ⟨by omega, by omega, fun i hi => ?_, ?_⟩, ?_, fun j h1 h2 => (hWj j h1 h2).trans (by rw [hPP])⟩
  · unfold sealedF
    rw [if_neg (by omega), hW0, hss, if_neg (by omega), if_neg (by omega), if_neg (by omega)]
  · unfold lineOK
    have hgk := good_key hg i
    rw [hkey i hi, hval i hi, hcnt]
    by_cases h : i < L.length
    · rw [if_pos h, if_pos h]; exact ⟨fun hh => by omega, hgk.2⟩
    · rw [if_neg h, if_neg h]; exact ⟨fun _ => ⟨rfl, rfl⟩, by decide⟩
  · rw [hlev, hseq, hcnt, Int.toNat_natCast, hent, hv]
  · rw [hW0, hss, hhd, hww]
end Go.Proofs.Ytonjaghkiaaipaa
