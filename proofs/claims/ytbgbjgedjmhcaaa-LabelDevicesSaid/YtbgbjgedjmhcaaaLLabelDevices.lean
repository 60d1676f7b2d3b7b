/- LabelDevices: for every label, every list of words and every number. No condition. -/
import Derived.Test.YtbgbjgedjmhcaaaRows
import Derived.WalkKit
import Derived.ProofKit
import Derived.OpenShut
import Derived.ShutString
import Derived.ChangeOld
import Derived.Below
import Derived.Carry
import Derived.Test.YtbgbjgedjmhcaaaOD
import Derived.Test.YtbgbjgedjmhcaaaOE
import Derived.Test.YtbgbjgedjmhcaaaOA
import Derived.Test.YtbgbjgedjmhcaaaSyA
import Derived.Test.YtbgbjgedjmhcaaaSyB
import Derived.Test.YtbgbjgedjmhcaaaSyC
import Derived.Test.YtbgbjgedjmhcaaaSyD
import Derived.Test.YtbgbjgedjmhcaaaSyF
import Derived.Test.YtbgbjgedjmhcaaaSyG
import Derived.Test.YtbgbjgedjmhcaaaSyH
import Derived.Test.YtbgbjgedjmhcaaaSyI
import Derived.Test.YtbgbjgedjmhcaaaSyJ
import Derived.Test.YtbgbjgedjmhcaaaSyP
import Derived.Test.YtbgbjgedjmhcaaaSyE
import Derived.Test.YtbgbjgedjmhcaaaSyK
import Derived.Test.YtbgbjgedjmhcaaaSyL
import Derived.Test.YtbgbjgedjmhcaaaSyM
import Derived.Test.YtbgbjgedjmhcaaaSyN
import Derived.Test.YtbgbjgedjmhcaaaSyO
import Derived.Test.YtbgbjgedjmhcaaaSyQ
import Derived.Test.YtbgbjgedjmhcaaaSyR
import Derived.Test.YtbgbjgedjmhcaaaSyU
import Derived.Test.YtbgbjgedjmhcaaaSyV
import Derived.Test.YtbgbjgedjmhcaaaSyW
import Derived.Test.YtbgbjgedjmhcaaaSyX
import Derived.Test.YtbgbjgedjmhcaaaSyZ
import Derived.Test.YtbgbjgedjmhcaaaD1
import Derived.Test.YtbgbjgedjmhcaaaD2
import Derived.Test.YtbgbjgedjmhcaaaD3
import Derived.Test.YtbgbjgedjmhcaaaD4
import Derived.Test.YtbgbjgedjmhcaaaD5
import Derived.Test.YtbgbjgedjmhcaaaDK
import Derived.Test.YtbgbjgedjmhcaaaLA
import Derived.Test.YtbgbjgedjmhcaaaLB
import Derived.Test.YtbgbjgedjmhcaaaLC
import Derived.Test.YtbgbjgedjmhcaaaLD
import Derived.Test.YtbgbjgedjmhcaaaLF
import Derived.Test.YtbgbjgedjmhcaaaLG
import Derived.Test.YtbgbjgedjmhcaaaLH
import Derived.Test.YtbgbjgedjmhcaaaLI
import Derived.Test.YtbgbjgedjmhcaaaLJ
import Derived.Test.YtbgbjgedjmhcaaaDY
import Derived.Test.YtbgbjgedjmhcaaaDCb1
import Derived.Test.YtbgbjgedjmhcaaaDFl
import Derived.Test.YtbgbjgedjmhcaaaDSp
import Derived.Test.YtbgbjgedjmhcaaaLK
import Derived.Test.YtbgbjgedjmhcaaaLO
import Derived.Test.YtbgbjgedjmhcaaaLS
import Derived.Test.YtbgbjgedjmhcaaaLR
import Derived.Test.YtbgbjgedjmhcaaaLT
import Derived.Test.YtbgbjgedjmhcaaaLW
import Derived.Test.YtbgbjgedjmhcaaaLXa
import Derived.Test.YtbgbjgedjmhcaaaLXe
import Derived.Test.YtbgbjgedjmhcaaaLXh
namespace Go.Proofs.Ytbgbjgedjmhcaaa.labelDevices
open Go.ChangeShapes Go.WideShapes Go.ChangeAt Go.RowKit
open Go.ChangeMaps (open_string shut_string)
set_option linter.unusedVariables false

theorem own : ownKnob Try.prog.godebug = none := by kernel_rfl
theorem laidOut : laidOutB Try.prog = true := by kernel_rfl

set_option maxRecDepth 100000 in
theorem walk {H : Type} {enc : TypeId × Value → H} {base : Nat} {d0 : DataW H} {p0 : List MemPlace} (v0 : Value) (a1 : Option Addr) (len1 cap1 : Nat) (z1 : List Int) (a2 : Int) (w : World) (ok0 : Value.okWide Try.prog w .any base 24 v0) (k0 : DataW.Trod enc Try.prog w 0 (fun _ => true) true 24 v0 d0 p0) (w1 : IsRow .u64 w a1 len1 cap1 z1) (w2 : (Lit.int .u8 a2).wf = true) :
    Calls Try.prog 4 #[v0, .slice a1 len1 cap1, .int .u8 a2] w fun e w' => e = .returned (.bool true) ∧ Below w.heap.size w w' := by
  obtain ⟨i, s, t, a, g, rfl, hi, hg, _⟩ := open_label ok0 k0
  obtain ⟨_, hlen, hmax, hS⟩ := w1.factsU
  obtain ⟨E, rh, rv⟩ := one_rowU w1 1
  refine CallOK.lawB (lde_any i s t a g a2 (z1.take len1) hi hg hS (by rw [hlen]; exact hmax)) (fun id o ho => ?_) (cargs := [_, _, _]) (E := E) ?_ rh
  · obtain ⟨rfl, rfl⟩ := find_one ho; rfl
  · exact ⟨_, _, rfl, ⟨[.int .u64 i, .int .i64 s, .int .i64 t, .int .i64 a, .int .u64 g], rfl, _, _, rfl, rfl, _, _, rfl, rfl, _, _, rfl, rfl, _, _, rfl, rfl, _, _, rfl, rfl, rfl⟩, _, _, rfl, rv, _, _, rfl, rfl, rfl⟩

set_option maxRecDepth 100000 in
theorem lifted (os : Os) (started : os.Started) (H : Type) (enc : TypeId × Value → H) :
    ReturnsInHanded {} Try.checked os 4 .any (Rows.labelDevicesSpec.pre6 enc Try.prog Try.f4 Rows.labelDevicesRow.domain false) (Rows.labelDevicesSpec.post enc Try.prog Try.f4 false true false false) := by
  refine returnsInHanded_of_change (C := Try.checked) own started (by kernel_rfl) Try.func4
    (ChangeSpec.witness6 (enc := enc) (C := Try.checked) false ⟨#[], #[.agg #[.int .u64 0, .int .i64 0, .int .i64 0, .int .i64 0, .int .u64 0], .slice none 0 0, .int .u8 0], []⟩ 8 (by kernel_rfl) (by kernel_rfl) (by kernel_rfl) (by kernel_rfl)) ?_
  intro W base args ds gs before hval0 hW hcnd _
  have hval : ∀ (j : Nat) t v, Try.f4.params[j]? = some t → args[j]? = some v → Value.okWide Try.prog W .any base t v := hval0
  have hW' := hW
  obtain ⟨p, q, hA0, hV, rfl, hfz, hnd⟩ := hW
  have hA : DataW.TrodAll enc Try.prog W 0 (fun _ => true) true Try.f4.params.toList args.toList ds p := hA0
  rw [Try.params4] at hA hval
  obtain ⟨v0, vs0, d0, ds0, p0, q0, hargs, rfl, rfl, h0, r0⟩ := trodAll_cons hA
  obtain ⟨v1, vs1, d1, ds1, p1, q1, rfl, rfl, rfl, h1, r1⟩ := trodAll_cons r0
  obtain ⟨v2, vs2, d2, ds2, p2, q2, rfl, rfl, rfl, h2, r2⟩ := trodAll_cons r1
  obtain ⟨rfl, rfl, rfl⟩ := trodAll_nil r2
  obtain rfl : args = #[v0, v1, v2] := by cases args; simp_all
  obtain ⟨rfl, rfl⟩ := trodVars_none hV
  have k0 := h0
  have lt0 : ∀ x ∈ p0, x.block < W.heap.size := by obtain ⟨m, hm⟩ := k0; exact DataW.trod_lt m _ _ _ hm
  have ok0 := hval 0 24 v0 rfl rfl
  obtain ⟨a1, len1, cap1, rfl⟩ := okWide_slice Try.underlying25 (hval 1 25 v1 rfl rfl)
  have k1 := h1
  have lt1 : ∀ x ∈ p1, x.block < W.heap.size := by obtain ⟨m, hm⟩ := k1; exact DataW.trod_lt m _ _ _ hm
  obtain ⟨z1, w1⟩ : ∃ zs, IsRow .u64 W a1 len1 cap1 zs := by
    obtain ⟨fuel, hf⟩ := h1
    rcases open_ints Try.underlying25 Try.underlying22 (by kernel_rfl) hf with ⟨hcs, _⟩ | ⟨x, l, c, zs, hcs, _, hl, hm, hz, _, hcell, hwz⟩
    · simp [Value.cells] at hcs
      obtain ⟨rfl, rfl, rfl⟩ := hcs
      exact ⟨[], .inl ⟨rfl, rfl, rfl, rfl⟩⟩
    · simp [Value.cells] at hcs
      obtain ⟨rfl, rfl, rfl⟩ := hcs
      exact ⟨zs, .inr ⟨_, rfl, hl, hm, by simpa using hz, hcell, hwz⟩⟩
  obtain ⟨a2, rfl, rfl, rfl, w2⟩ := open_int Try.underlying5 (hval 2 5 v2 rfl rfl) h2
  clear hA0 hval0
  refine (walk v0 a1 len1 cap1 z1 a2 W ok0 k0 w1 w2).mono fun e W' ⟨he, bel⟩ => ?_
  subst he
  exact ⟨_, rfl, _, _, _, [], _, [], hW', trodAll_mk1 (shut_bool Try.underlying4 _), (trodAll_cons_mk (Below.trod laidOut (by kernel_rfl) (of_decide_eq_true (by kernel_rfl)) k0 bel lt0) (trodAll_cons_mk (Below.trod laidOut (by kernel_rfl) (of_decide_eq_true (by kernel_rfl)) k1 bel lt1) (trodAll_cons_mk (shut_int Try.underlying5 w2) trodAll_mk0))), rfl, bel.frame _, fun h => by cases h⟩

theorem over : Rows.labelDevicesRow.holds Try.pinned (OpenSpec.ofChange Rows.labelDevicesSpec) :=
  OpenClaim.holds_of_wide 4 Try.f4 rfl rfl rfl rfl rfl rfl rfl ⟨rfl, rfl, rfl, rfl, rfl⟩ rfl rfl rfl rfl rfl (by kernel_rfl) Try.func4 (by kernel_rfl)
    (of_decide_eq_true (by kernel_rfl)) (by unfold Func.isWrapper; first | (rw [if_pos (by decide +kernel)]; kernel_rfl) | (rw [if_neg (by decide +kernel)]; exact ⟨rfl, rfl⟩))
    (fun os started H enc _ => lifted os started H enc)

theorem proved : Rows.LabelDevicesSaid := over
#print axioms proved
end Go.Proofs.Ytbgbjgedjmhcaaa.labelDevices
