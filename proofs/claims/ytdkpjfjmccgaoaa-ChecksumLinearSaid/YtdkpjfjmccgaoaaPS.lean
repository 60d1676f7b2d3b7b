/- The steps of a plan with four literals, appends and assignments; late and early ones. No conditions but those of each theorem. -/
import Derived.Test.YtdkpjfjmccgaoaaPE
import Derived.Great.BuildSlice
namespace Go.Proofs.Ytdkpjfjmccgaoaa
open Go.ChangeShapes Go.WideShapes Go.ChangeAt Go.RowKit Go.Deep
set_option linter.unusedVariables false
set_option linter.unusedSimpArgs false

theorem StepD.late {P : Program} {l : List Oper} {a0 aF : Act} {er : List Nat} {J : Array Bool → Act → World → Prop} {i : Nat} {o : Oper} (he : er.contains i = false) (hg : o.guard = none) (d : Nat) (hod : o.dst = some d) (v : Value) (hv : aF.tmps[d]? = some v) (h : ∀ L a w, J L a w → (execOp aF.eval o).run P w = .ok (.value v) w) : StepD P l a0 aF er J i o :=
  ⟨hg, v, fun d' hd' => by rw [hod] at hd'; cases hd'; exact hv, fun L a w hJ => by rw [if_neg (by rw [he]; simp)]; exact h L a w hJ⟩
theorem StepD.early {P : Program} {l : List Oper} {a0 aF : Act} {er : List Nat} {J : Array Bool → Act → World → Prop} {i : Nat} {o : Oper} (he : er.contains i = true) (hg : o.guard = none) (d : Nat) (hod : o.dst = some d) (s : Nat) (ho : o.op = .move (.tmp s)) (v : Value) (h0 : a0.tmps[s]? = some v) (hv : aF.tmps[d]? = some v) : StepD P l a0 aF er J i o :=
  ⟨hg, v, fun d' hd' => by rw [hod] at hd'; cases hd'; exact hv, fun L a w hJ => by rw [if_pos he]; simp only [execOp, ho, eval_of h0]; rfl⟩

def depB (o : Oper) (j : Nat) : Bool := o.after.toList.any fun e => Region.binds .any e && e.on == j
theorem dep_of {o : Oper} {j : Nat} {L : Array Bool} (h : depB o j = true) (hd : ∀ e ∈ o.after, Region.binds .any e = true → L.getD e.on false = true) : L.getD j false = true := by
  unfold depB at h
  rw [List.any_eq_true] at h
  obtain ⟨e, he, h2⟩ := h
  simp only [Bool.and_eq_true, beq_iff_eq] at h2
  rw [← h2.2]
  exact hd e (by simpa using he) h2.1

variable {P : Program} {l : List Oper} {a0 aF : Act} {w0 : World} {base n : Nat} {v : Nat → Value} {ws : Nat → List Nat} {x : Nat → Nat}
theorem step_lit (k : Nat) (hk : k < 4) {i : Nat} (hi : i = ix k) (ie : TypeInfo) (hu : P.underlying 23 = some (.slice 33)) (hie : P.info? 33 = some ie) (hz : ie.zero = some (.int .u64 0)) (hsz : ie.size = 1) {o : Oper} (hg : o.guard = none) (s : Nat) (hop : o.op = .buildSlice 23 1 #[(0, .tmp s)]) (hdst : o.dst = some (ix k + 18)) (j : Nat) (oj : Oper) (hlj : l[j]? = some oj) (hjd : oj.dst = some s) (hjs : SP.contains j = false) (hdep : depB o j = true) (hF : aF.tmps[s]? = some (.int .u64 (x k : Nat))) :
    StepS P l a0 aF SP (J4 w0 base n v ws x) i o := by
  subst hi
  refine ⟨hg, fun L a w hL hon hJ hun hd => ?_⟩
  have hs : a.tmps[s]? = some (.int .u64 (x k : Nat)) := (hon.on s j oj hlj hjd hjs (dep_of hdep hd)).trans hF
  refine ⟨_, _, ?_, by rw [hdst]; exact lit_J k hk hJ⟩
  have hrun := run_buildSlice (P := P) w 23 33 1 #[(0, .int .u64 (x k : Nat))] #[.int .u64 (x k : Nat)] ie (.int .u64 0) hu hie hz (by rw [hsz]; decide) (by rw [hsz]; decide) (by rw [hsz]; simp [Instr.fill, Value.cells, show Array.range 1 = #[0] from rfl])
  simp [execOp, hop, eval_of hs, hrun, Result.andThen]
theorem step_app (k : Nat) (hk : k < 4) {i : Nat} (hi : i = ix k + 1) (ie : TypeInfo) (hu : P.underlying 23 = some (.slice 33)) (hie : P.info? 33 = some ie) (hz : ie.zero = some (.int .u64 0)) (hsz : ie.size = 1) (hby : ie.bytes = 8) (hn : n ≤ 1000) {o : Oper} (hg : o.guard = none) (s y : Nat) (hy : y = ix k + 18) (hop : o.op = .call { callee := .builtin .append, args := #[.tmp s, .tmp y], argTypes := #[23, 23] }) (hdst : o.dst = some (ix k + 19)) (j : Nat) (oj : Oper) (hlj : l[j]? = some oj) (hjd : oj.dst = some s) (hjs : SP.contains j = false) (hdep : depB o j = true) (hdep2 : depB o (ix k) = true) (hF : aF.tmps[s]? = some (v k)) :
    StepS P l a0 aF SP (J4 w0 base n v ws x) i o := by
  subst hi; subst hy
  refine ⟨hg, fun L a w hL hon hJ hun hd => ?_⟩
  have hs : a.tmps[s]? = some (v k) := (hon.on s j oj hlj hjd hjs (dep_of hdep hd)).trans hF
  obtain ⟨lv, u, w', h1, h2, h3⟩ := app_J (P := P) o.type ie hu hie hz hsz hby hn k hk hJ (dep_of hdep2 hd) hun
  exact ⟨u, w', stepS_app hop hs h1 h2, by rw [hdst]; exact h3⟩
theorem step_asg (k : Nat) (hk : k < 4) {i : Nat} (hi : i = 44 + k) {o : Oper} (hg : o.guard = none) (y : Nat) (hy : y = ix k + 19) (hop : o.op = .assign (.tmp y)) (hdst : o.dst = some (3 + k)) (hdep : depB o (ix k + 1) = true) :
    StepS P l a0 aF SP (J4 w0 base n v ws x) i o := by
  subst hi; subst hy
  refine ⟨hg, fun L a w hL hon hJ hun hd => ?_⟩
  obtain ⟨u, h1, h2⟩ := asg_J k hk hJ (dep_of hdep hd)
  exact ⟨u, w, stepS_asg hop h1, by rw [hdst]; exact h2⟩

/-- the values at the end of such a region beside those that were laid: a special slot's is what the frame holds -/
def EndI (Sp : List Nat) (a' : Act) : Nat → List Oper → List Value → List Value → Prop
  | k, o :: os, u :: us, u' :: us' => (if Sp.contains k then ∃ d, o.dst = some d ∧ a'.tmps[d]? = some u' else u' = u) ∧ EndI Sp a' (k + 1) os us us'
  | _, [], [], [] => True
  | _, _, _, _ => False
theorem EndI.s {Sp : List Nat} {a' : Act} {k : Nat} {o : Oper} {os : List Oper} {u u' : Value} {us us' : List Value} (h : Sp.contains k = true) (d : Nat) (hd : o.dst = some d) (ha : a'.tmps[d]? = some u') (t : EndI Sp a' (k + 1) os us us') : EndI Sp a' k (o :: os) (u :: us) (u' :: us') := ⟨by rw [if_pos h]; exact ⟨d, hd, ha⟩, t⟩
theorem EndI.d {Sp : List Nat} {a' : Act} {k : Nat} {o : Oper} {os : List Oper} {u : Value} {us us' : List Value} (h : Sp.contains k = false) (t : EndI Sp a' (k + 1) os us us') : EndI Sp a' k (o :: os) (u :: us) (u :: us') := ⟨by rw [if_neg (by rw [h]; simp)], t⟩
theorem EndI.nil {Sp : List Nat} {a' : Act} {k : Nat} : EndI Sp a' k [] [] [] := trivial
theorem endI_at {Sp : List Nat} {a' : Act} : ∀ {k : Nat} {os : List Oper} {us us' : List Value}, EndI Sp a' k os us us' → us'.length = os.length ∧ (∀ j, Sp.contains (k + j) = false → us'[j]? = us[j]?) ∧ (∀ j o u d, Sp.contains (k + j) = true → os[j]? = some o → us'[j]? = some u → o.dst = some d → a'.tmps[d]? = some u)
  | _, [], [], [], _ => ⟨rfl, fun _ _ => rfl, fun j o u d _ h => by simp at h⟩
  | k, o :: os, u :: us, u' :: us', h => by
    obtain ⟨h1, h2⟩ := h
    obtain ⟨e1, e2, e3⟩ := endI_at h2
    refine ⟨by simp [e1], fun j hj => ?_, fun j o1 u1 d1 hj ho hu hd => ?_⟩
    · cases j with
      | zero => rw [Nat.add_zero] at hj; rw [if_neg (by rw [hj]; simp)] at h1; simp [h1]
      | succ j => simpa using e2 j (by rwa [show k + 1 + j = k + (j + 1) by omega])
    · cases j with
      | zero =>
        rw [Nat.add_zero] at hj
        rw [if_pos hj] at h1
        obtain ⟨d, h3, h4⟩ := h1
        simp at ho hu
        subst ho; subst hu
        rw [h3] at hd
        obtain rfl := Option.some.inj hd
        exact h4
      | succ j => exact e3 j o1 u1 d1 (by rwa [show k + 1 + j = k + (j + 1) by omega]) (by simpa using ho) (by simpa using hu) hd
theorem end_of {er Sp : List Nat} {b a' : Act} {vals : List Value} {L : Array Bool} (vals' : List Value) (hb : putAll l vals' a0 = b) (N : Nat) (hN : a0.tmps.size = N) (hB : planIB l N er Sp = true) (hF : putAll l vals a0 = aF) (hall : ∀ i, i < l.length → L.getD i false = true) (hon : OnD l a0 aF Sp L a') (he : EndI Sp a' 0 l vals vals') : a' = b := by
  obtain ⟨e1, e2, e3⟩ := endI_at he
  simp only [Nat.zero_add] at e2 e3
  exact ond_end (planIB_ok (by rw [hN]; exact hB)) hF hb e1 e2 hall hon e3

theorem wpIn_region_planS {ro : Option Nat} {m : Nat} {Q : Exit → Act → World → Prop} {id : Nat} {w : World} (vals : List Value) (hE : putAll l vals a0 = aF) (er Sp : List Nat) (J : Array Bool → Act → World → Prop) (N : Nat) (hN : a0.tmps.size = N) (hm : P.follows .mixedOrders = true) (hB : planIB l N er Sp = true) (hJ0 : J (Array.replicate l.length false) a0 { w with drawn := w.drawn + 1 })
    (hfar : JFar l Sp J) (hst : StepsI P l a0 aF er Sp J 0 l)
    (hQ : ∀ L a' w', (∀ i, i < l.length → L.getD i false = true) → OnD l a0 aF Sp L a' → J L a' w' → Q .normal a' w') : (Code.region id l.toArray true).wpIn (wideR ro) m P Q a0 w :=
  wpIn_region_planI vals hE er Sp J N hN hm hB hJ0 hfar (fun i o ho hs => by have h := stepsI_at hst i o ho; rw [Nat.zero_add, if_pos hs] at h; exact h) (fun i o ho hs => by have h := stepsI_at hst i o ho; rw [Nat.zero_add, if_neg (by rw [hs]; simp)] at h; exact h) (fun L a' w' _ h1 h2 h3 => hQ L a' w' h1 h2 h3)

theorem j4_start {a : Act} (h62 : 62 ≤ a.tmps.size) (hb : base ≤ w0.heap.size) (ho : ∀ k, k < 4 → w0.ownsRow base 33 1 (v k) n (vs (ws k))) (hd : ∀ k m, k < 4 → m < 4 → k ≠ m → ∀ b, (v k).ownBlock = some b → (v m).ownBlock ≠ some b) : J4 w0 base n v ws x (Array.replicate 48 false) a w0 := by
  have hz : ∀ i, (Array.replicate 48 false).getD i false = false := fun i => by
    rw [Array.getD_eq_getD_getElem?, Array.getElem?_replicate]; split <;> rfl
  refine ⟨by simp, h62, Below.refl _ _, hb, fun k hk h => (by rw [hz] at h; cases h), v, fun k hk => ⟨fun h => (by rw [hz] at h; cases h), fun _ => ⟨rfl, ho k hk⟩⟩, fun k hk h => (by rw [hz] at h; cases h), fun k hk h => (by rw [hz] at h; cases h), hd⟩
end Go.Proofs.Ytdkpjfjmccgaoaa
