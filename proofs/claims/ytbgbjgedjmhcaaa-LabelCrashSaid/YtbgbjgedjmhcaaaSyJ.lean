/- The engine, part J: new slices, literals of slices, least and greatest. No conditions but those of each theorem. -/
import Derived.Test.YtbgbjgedjmhcaaaSyI
namespace Go.Proofs.Ytbgbjgedjmhcaaa
open Go.RowKit
set_option linter.unusedVariables false
set_option linter.unusedSimpArgs false
section
variable {P : Program} {E : Env} {s : St} {W : World} {sem : Sem Value}
/-- a new slice whose block is made now -/
theorem newVec (r : RH E s.heap W) {nm e es n cap : Nat} {row : Nat → List AV} {cur : Array Value} (h : sem.run P W = .ok (.slice (some ⟨W.heap.size, 0, none⟩) n cap) (W.alloc (.cells cur e))) (hc : cur.size = cap * es) (hn : n ≤ cap) (hm : cap ≤ maxLen)
    (h1 : ∀ u ∈ cur.toList.take (n * es), u.oneCell' = true) (hr : RowsOK E es n row (cur.toList.take (n * es))) : SemAt P E s W sem (.new nm (.vec e es n row) (.ret (.sl nm 0 es n none))) := by
  have hle : n * es ≤ cap * es := Nat.mul_le_mul_right _ hn
  refine SemAt.new r (k := cap) h fun E' he hnm => ⟨⟨_, _, cur.toList.take (n * es), hnm, ⟨by rw [List.length_take, Array.length_toList]; omega, .inr ⟨W.heap.size, cap, cur, rfl, Nat.zero_le _, heap_alloc_new W _, hn, hm, hc, rfl⟩⟩, h1, hr.mono he⟩, ?_⟩
  simp only [RV]
  exact ⟨_, _, hnm, 0, cap, rfl, hn, by omega, fun _ => by simp, by simp⟩
def mkSliceA (P : Program) (nm : Nat) (t : TypeId) (l c : AV) : Ac AV := match P.underlying t with
  | some (.slice e) => match infoOK P e, zeroA P e with
    | some es, some zs => match l, c, allB one1 zs with
      | .val (.int _ zl), .val (.int _ zc), true => .need (0 ≤ zl ∧ zl ≤ zc ∧ zc ≤ 1099511627776) (.new nm (.vec e es zl.toNat (fun _ => zs)) (.ret (.sl nm 0 es zl.toNat none)))
      | _, _, _ => .fail
    | _, _ => .fail
  | _ => .fail
theorem mkSlice_ok (r : RH E s.heap W) (nm : Nat) (t : TypeId) {l c : AV} {cl cc : Value} (hl : RV E l cl) (hc : RV E c cc) : SemAt P E s W (Instr.makeSlice t cl cc) (mkSliceA P nm t l c) := by
  unfold mkSliceA
  split
  case h_2 => exact SemAt.fail
  rename_i e ht
  split
  case h_2 => exact SemAt.fail
  rename_i es zs hi hzs
  split
  case h_2 => exact SemAt.fail
  rename_i kl zl kc zc h1
  simp only [RV] at hl hc
  subst hl hc
  obtain ⟨i, z, hi1, hz, hsz, hby, hzc, hpos⟩ := infoOK_ok hi
  obtain ⟨i', z', hi1', hz', rfl⟩ := zeroA_ok hzs
  rw [hi1] at hi1'
  obtain rfl := Option.some.inj hi1'
  rw [hz] at hz'
  obtain rfl := Option.some.inj hz'
  refine SemAt.need fun hb => ?_
  have hbz : (i.bytes : Int) * zc ≤ 281474976710656 := by
    have h2 : i.bytes * zc.toNat ≤ 128 * 1099511627776 := Nat.mul_le_mul hby (by omega)
    have h3 : (i.bytes : Int) * zc = ((i.bytes * zc.toNat : Nat) : Int) := by rw [Int.natCast_mul, Int.toNat_of_nonneg (by omega)]
    rw [h3]; omega
  have hr := run_make (P := P) W t e i z ht hi1 hz kl kc zl zc hb.1 hb.2.1 hbz (by omega)
  rw [hsz] at hr
  have hcell : ∀ j, j < zc.toNat * es → (madeCells z.cells (zc.toNat * es)).toList[j]? = z.cells.toList[j % es]? := fun j hj => by
    have hlt : j % es < z.cells.size := by rw [hzc]; exact Nat.mod_lt _ hpos
    simp only [madeCells, Array.toList_map, Array.toList_range, List.getElem?_map, List.getElem?_range hj, Option.map_some, hzc]
    rw [getElem!_pos z.cells (j % es) hlt]
    simp [hlt]
  refine newVec r hr (size_madeCells _ _) (by omega) (by unfold maxLen; omega) (fun u hu => ?_) (fun q hq => ?_)
  · obtain ⟨j, hj⟩ := List.getElem?_of_mem hu
    rw [List.getElem?_take] at hj
    split at hj
    · rename_i hj2
      have hle : zl.toNat * es ≤ zc.toNat * es := Nat.mul_le_mul_right _ (by omega)
      rw [hcell j (by omega)] at hj
      have hm := List.mem_of_getElem? hj
      have := allB_ok h1 (.val u) (List.mem_map.2 ⟨u, hm, rfl⟩)
      simpa [one1] using this
    · cases hj
  · have hle : zl.toNat * es ≤ zc.toNat * es := Nat.mul_le_mul_right _ (by omega)
    have hq2 : q * es + es ≤ zl.toNat * es := by rw [← Nat.succ_mul]; exact Nat.mul_le_mul_right _ hq
    have : cellsAt ((madeCells z.cells (zc.toNat * es)).toList.take (zl.toNat * es)) es q = z.cells.toList := by
      apply List.ext_getElem?
      intro d
      unfold cellsAt
      rw [List.getElem?_take]
      by_cases hd : d < es
      · rw [if_pos hd, List.getElem?_drop, List.getElem?_take, if_pos (by omega), hcell _ (by omega)]
        congr 1
        rw [Nat.mul_comm, Nat.mul_add_mod]
        exact Nat.mod_eq_of_lt hd
      · rw [if_neg hd, List.getElem?_eq_none]
        rw [Array.length_toList]; omega
    rw [this]
    exact RVs.vals _
/-- the rows of a list of cells -/
def rowsOf (cs : List AV) (es : Nat) : Nat → List AV := fun q => (cs.drop (q * es)).take es
def bsA1 (P : Program) (nm : Nat) (t : TypeId) (len : Nat) (parts : List (Nat × AV)) : Ac AV := match P.underlying t with
  | some (.slice e) => match tySize P e, P.info? e with
    | some es, some i => match i.zero with
      | some z => match fillA (fun i => some (i * es, es)) (((Array.range (len * es)).map (z.cells[· % z.cells.size]!)).toList.map .val) parts with
        | some cs => match allB one1 cs, lenEq cs (len * es), Nat.ble (len * es) 16777216, Nat.ble 1 (len * es) with
          | true, true, true, true => .new nm (.vec e es len (rowsOf cs es)) (.ret (.sl nm 0 es len none))
          | _, _, _, _ => .fail
        | none => .fail
      | none => .fail
    | _, _ => .fail
  | _ => .fail
theorem bs1_ok (r : RH E s.heap W) (nm : Nat) (t : TypeId) (len : Nat) {parts : List (Nat × AV)} {vparts : Array (Nat × Value)} (h : RPs E parts vparts.toList) : SemAt P E s W (Instr.buildSlice t len vparts) (bsA1 P nm t len parts) := by
  unfold bsA1
  split
  case h_2 => exact SemAt.fail
  rename_i e ht
  split
  case h_2 => exact SemAt.fail
  rename_i es i hes hi
  split
  case h_2 => exact SemAt.fail
  rename_i z hz
  split
  case h_2 => exact SemAt.fail
  rename_i cs hcs
  split
  case h_2 => exact SemAt.fail
  rename_i h1 hl hb h0
  obtain ⟨res, q1, q2⟩ := fill_ok (cur := (Array.range (len * es)).map (z.cells[· % z.cells.size]!)) hcs h (RVs.vals _)
  have hle := lenEq_ok hl
  have hrl : res.toList.length = len * es := by rw [q2.length]; exact hle
  have hb' := Nat.le_of_ble_eq_true hb
  have h0' := Nat.le_of_ble_eq_true h0
  have hne : ¬ (len * es > 2 ^ 24) := by omega
  have hnz : ¬ (len * es = 0) := by omega
  have hrun : (Instr.buildSlice t len vparts).run P W = .ok (.slice (some ⟨W.heap.size, 0, none⟩) len len) (W.alloc (.cells res e)) := by
    have e1 : (Instr.fill (fun i => some (i * es, es)) ((Array.range (len * es)).map (z.cells[· % z.cells.size]!)) vparts.toList) = some res := q1
    simp only [Instr.buildSlice, Sem.run_bind, run_underlying ht, run_size hes, Result.andThen_ok, if_neg hne, if_neg hnz, zeroValue, typeInfo, run_program, hi, hz, Sem.run_pure, e1, newRow, newObj, Sem.run]
    rfl
  have hlen : len ≤ 16777216 := by
    have : 0 < es := Nat.pos_of_ne_zero fun e => by rw [e] at h0'; omega
    exact Nat.le_trans (Nat.le_mul_of_pos_right len this) hb'
  have htk : res.toList.take (len * es) = res.toList := List.take_of_length_le (by omega)
  refine newVec r hrun (by simpa using hrl) (Nat.le_refl _) (by unfold maxLen; omega) (fun u hu => ?_) (fun q hq => ?_)
  · rw [htk] at hu
    obtain ⟨j, hj⟩ := List.getElem?_of_mem hu
    have hj2 : j < cs.length := by have := (List.getElem?_eq_some_iff.1 hj).1; omega
    obtain ⟨y, hy, hy2⟩ := q2.get j cs[j] (by rw [nth_eq, List.getElem?_eq_getElem hj2])
    rw [hj] at hy
    obtain rfl := Option.some.inj hy
    exact one1_ok (allB_ok h1 _ (List.getElem_mem hj2)) hy2
  · rw [htk]
    exact (q2.drop _).take _
def bsA0 (P : Program) (nm : Nat) (t : TypeId) : Ac AV := match P.underlying t with
  | some (.slice e) => match tySize P e with
    | some es => .new nm (.vec e es 0 (fun _ => [])) (.ret (.sl nm 0 es 0 none))
    | none => .fail
  | _ => .fail
def bsA (P : Program) (nm : Nat) (t : TypeId) (len : Nat) (parts : List (Nat × AV)) : Ac AV := match len, parts with
  | 0, [] => bsA0 P nm t
  | _, _ => bsA1 P nm t len parts
theorem bs_ok (r : RH E s.heap W) (nm : Nat) (t : TypeId) (len : Nat) {parts : List (Nat × AV)} {vparts : Array (Nat × Value)} (h : RPs E parts vparts.toList) : SemAt P E s W (Instr.buildSlice t len vparts) (bsA P nm t len parts) := by
  unfold bsA
  split
  case h_2 => exact bs1_ok r nm t _ h
  have hv : vparts = #[] := by
    cases hv : vparts.toList with
    | nil => exact Array.toList_eq_nil_iff.1 hv
    | cons y ys => rw [hv] at h; simp [RPs] at h
  subst hv
  unfold bsA0
  split
  case h_2 => exact SemAt.fail
  rename_i e ht
  split
  case h_2 => exact SemAt.fail
  rename_i es hes
  have hrun : (Instr.buildSlice t 0 #[]).run P W = .ok (.slice (some ⟨W.heap.size, 0, none⟩) 0 0) (W.alloc (.cells #[] e)) := by
    simp only [Instr.buildSlice, Sem.run_bind, run_underlying ht, run_size hes, Result.andThen_ok, Nat.zero_mul, if_neg (show ¬ (0 > 2 ^ 24) by omega), if_true, Sem.run_pure, Instr.fill, newRow, newObj, Sem.run]
    rw [show (Array.map (fun x => (#[] : Array Value)[x % (#[] : Array Value).size]!) (Array.range 0)) = #[] from Array.eq_empty_of_size_eq_zero (by rw [Array.size_map, Array.size_range])]
    rfl
  exact newVec r hrun (by simp) (Nat.le_refl _) (by unfold maxLen; omega) (fun u hu => by simp at hu) (fun q hq => by omega)
/-- the least, the greatest -/
def minA : List AV → Ac AV
  | [.val (.int k a)] => .ret (.val (.int k a))
  | [.val (.int k a), .val (.int _ b)] => .ret (.val (.int k (min a b)))
  | [.val (.int k a), .val (.int _ b), .val (.int _ c)] => .ret (.val (.int k (min (min a b) c)))
  | _ => .fail
def maxA : List AV → Ac AV
  | [.val (.int k a)] => .ret (.val (.int k a))
  | [.val (.int k a), .val (.int _ b)] => .ret (.val (.int k (max a b)))
  | [.val (.int k a), .val (.int _ b), .val (.int _ c)] => .ret (.val (.int k (max (max a b) c)))
  | _ => .fail
theorem min_if (a b : Int) : (if b < a then b else a) = min a b := by
  by_cases h : b < a
  · rw [if_pos h]; omega
  · rw [if_neg h]; omega
theorem min_ok (r : RH E s.heap W) (l : Array TypeId) (ty : TypeId) {xs : List AV} {cs : List Value} (h : RVs E xs cs) : SemAt P E s W (Builtin.min_ l ty cs.toArray) (minA xs) := by
  unfold minA
  split
  · simp only [RVs, RV] at h
    obtain ⟨y, m, rfl, rfl, rfl⟩ := h
    exact SemAt.ret r (by simp [Builtin.min_]; rfl) (by simp only [RV])
  · simp only [RVs, RV] at h
    obtain ⟨y, m, rfl, rfl, y2, m2, rfl, rfl, rfl⟩ := h
    exact SemAt.ret r (by simp [Builtin.min_, Builtin.min2]; rfl) (by simp only [RV, min_if])
  · simp only [RVs, RV] at h
    obtain ⟨y, m, rfl, rfl, y2, m2, rfl, rfl, y3, m3, rfl, rfl, rfl⟩ := h
    exact SemAt.ret r (by simp [Builtin.min_, Builtin.min2]; rfl) (by simp only [RV, min_if])
  · exact SemAt.fail
theorem max_if (a b : Int) : (if b > a then b else a) = max a b := by
  by_cases h : b > a
  · rw [if_pos h]; omega
  · rw [if_neg h]; omega
theorem max_ok (r : RH E s.heap W) (l : Array TypeId) (ty : TypeId) {xs : List AV} {cs : List Value} (h : RVs E xs cs) : SemAt P E s W (Builtin.max_ l ty cs.toArray) (maxA xs) := by
  unfold maxA
  split
  · simp only [RVs, RV] at h
    obtain ⟨y, m, rfl, rfl, rfl⟩ := h
    exact SemAt.ret r (by simp [Builtin.max_]; rfl) (by simp only [RV])
  · simp only [RVs, RV] at h
    obtain ⟨y, m, rfl, rfl, y2, m2, rfl, rfl, rfl⟩ := h
    exact SemAt.ret r (by simp [Builtin.max_, Builtin.max2]; rfl) (by simp only [RV, max_if])
  · simp only [RVs, RV] at h
    obtain ⟨y, m, rfl, rfl, y2, m2, rfl, rfl, y3, m3, rfl, rfl, rfl⟩ := h
    exact SemAt.ret r (by simp [Builtin.max_, Builtin.max2]; rfl) (by simp only [RV, max_if])
  · exact SemAt.fail
end
end Go.Proofs.Ytbgbjgedjmhcaaa
