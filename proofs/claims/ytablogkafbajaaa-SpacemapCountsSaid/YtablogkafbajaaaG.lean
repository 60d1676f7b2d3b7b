/- The program's set, Commit and Rollback. No conditions but those of each theorem. -/
import Derived.Test.YtablogkafbajaaaF
namespace Go.Proofs.Ytablogkafbajaaa
open Go.ChangeShapes Go.WideShapes Go.ChangeAt Go.RowKit
set_option linter.unusedVariables false
set_option linter.unusedSimpArgs false

theorem step_copy_row {P : Program} {ops : Array Oper} {o : Oper} {a : Act} {w : World} {K : Act → World → Prop} {Q : Exit → Act → World → Prop} {E : Prop} (hgd : o.guard = none) (d s : Operand) (dT sT : TypeId)
    (ho : o.op = .call { callee := .builtin .copy, args := #[d, s], argTypes := #[dT, sT] }) (elem : TypeId) (hu : P.underlying dT = some (.slice elem)) (hsz : (P.info? elem).map (·.size) = some 1)
    (g off dLen dCap : Nat) (ad : Addr) (sLen sCap : Nat) (hd : a.eval d = .slice (some ⟨g, off, none⟩) dLen dCap) (hs : a.eval s = .slice (some ad) sLen sCap)
    (cur : Array Value) (t : TypeId) (hg : w.heap[g]? = some (.cells cur t (0, 0))) (cs : List Value) (hn : cs.length = Nat.min sLen dLen)
    (hsrc : ∀ j v, cs[j]? = some v → w.cell? (ad.add j) = some v) (hfit : off + cs.length ≤ cur.size) (h1 : ∀ v ∈ cs, v.oneCell' = true)
    (h : K (a.put o.dst (goInt cs.length)) (w.setRow g (cur.toList.take off ++ (cs ++ cur.toList.drop (off + cs.length))).toArray)) :
    if Region.wanted o (yielded ops a.tmps) = true then Oper.wp P o a w K Q else E := by
  have hw : Region.wanted o (yielded ops a.tmps) = true := by simp [Region.wanted, hgd]
  rw [if_pos hw]
  have hrun := run_copy_row (P := P) w dT sT o.type elem g off dLen dCap ad sLen sCap cur t cs hu hsz hg hn hsrc hfit h1
  unfold Oper.wp
  simp [execOp, ho, resolve, invoke, builtin, hd, hs, hrun, Result.andThen]
  exact h
theorem grown_setRow (w : World) (g : Nat) (cs : Array Value) : w.grownBy (w.setRow g cs) (some g) :=
  ⟨rfl, rfl, rfl, by simp [World.setRow], fun i _ hne => setRow_other w g i cs (fun e => hne (by rw [e]))⟩
/-- a row as its block -/
theorem Row.cells {W : World} {g cap : Nat} {X : List Int} (h : Row W g cap X) : ∃ cur : Array Value, W.heap[g]? = some (.cells cur 3 (0, 0)) ∧ X.length ≤ cap ∧ cap ≤ maxLen ∧ cur.size = cap := by
  rcases h.2 with ⟨h', _⟩ | ⟨g', cap', cur, h', hb, hg, hnc, hcm, hcs, htake⟩
  · simp at h'
  · simp only [Value.slice.injEq, Option.some.injEq, Addr.mk.injEq, and_true, true_and] at h'
    obtain ⟨rfl, rfl⟩ := h'
    exact ⟨cur, hg, hnc, hcm, by simpa using hcs⟩
theorem Row.copied {W : World} {g cap : Nat} {cur : Array Value} {X : List Int} (hg : W.heap[g]? = some (.cells cur 3 (0, 0))) (h1 : X.length ≤ cap) (h2 : cap ≤ maxLen) (h3 : cur.size = cap) :
    Row (W.setRow g (vi X ++ cur.toList.drop X.length).toArray) g cap X := by
  refine ⟨by rw [vi_len]; omega, .inr ⟨g, cap, _, rfl, Nat.zero_le _, setRow_heap W g _ _ 3 _ hg, h1, h2, ?_, ?_⟩⟩
  · simp [vi_len]; omega
  · have : (vi X).length = X.length * 1 := by rw [vi_len]; omega
    simp [← this]
set_option maxHeartbeats 4000000 in
theorem set_ok (M kd ks a ca b cb : Nat) (X Y : List Int) (W : World) (hlen : Y.length = X.length) (hcd : W.cell? ⟨M, kd, none⟩ = some (.slice (some ⟨b, 0, none⟩) X.length cb)) (hcs : W.cell? ⟨M, ks, none⟩ = some (.slice (some ⟨a, 0, none⟩) X.length ca)) (ha : Row W a ca X) (hb : Row W b cb Y) (hne : a ≠ b) :
    Calls Try.prog 45 #[.pointer (some ⟨M, kd, none⟩), .pointer (some ⟨M, ks, none⟩)] W fun e W' => e = .returned (.tuple #[]) ∧ Hid (Row W' b cb X ∧ W.grownBy W' (some b)) := by
  obtain ⟨cur, hg, r1, r2, r3⟩ := hb.cells
  have hi3 : (Try.prog.info? 3).map (·.size) = some 1 := by kernel_rfl
  have hnews := ha.arg.news
  have hN := hid (show ∀ n j v, (vi X)[j]? = some v → (W.drewN n).cell? ((⟨a, 0, none⟩ : Addr).add j) = some v from fun n j v h => hnews j v h)
  have HG := hid (show ∀ n, (W.drewN n).heap[b]? = some (.cells cur 3 (0, 0)) from fun n => hg)
  have hmn : (vi X).length = Nat.min X.length X.length := by rw [vi_len]; simp
  have hfit : 0 + (vi X).length ≤ cur.size := by rw [vi_len]; omega
  have h1 := one_vi X
  have HR := hid (fun (V : World) (hV : V.heap = W.heap) => Row.copied (W := V) (X := X) (by rw [hV]; exact hg) (by omega) r2 r3)
  clear hg ha hb hnews
  go_enter Try.func45, Try.ntmps45
  go_wp2_with fail
  go_region_law (refine step_copy_row rfl (.tmp 7) (.tmp 11) 22 22 rfl 3 Try.underlying22 hi3 b 0 X.length cb ⟨a, 0, none⟩ X.length ca rfl rfl cur 3 (HG.out _) (vi X) hmn (hN.out _) hfit h1 ?_)
  all_goals
    go_end0
    exact ⟨rfl, HR.out _ rfl, grown_trans (grown_drewN W 1 _) (grown_setRow _ _ _)⟩
/-- the first row laid over the second -/
theorem SM.over {ty : TypeId} {W W' : World} {M a ca b cb : Nat} {X Y : List Int} (h : SM ty W M a ca b cb X Y) (hg : W.grownBy W' (some b)) (hr : Row W' b cb X) : SM ty W' M a ca b cb X X :=
  ⟨(hg.block M h.lt (fun e => h.nb (Option.some.inj e))).trans (by rw [h.blk, h.len]), h.ra.kept hg (fun e => h.ab (Option.some.inj e)), hr, h.cx, h.cx, rfl, h.na, h.nb, h.ab⟩
theorem SM.back {ty : TypeId} {W W' : World} {M a ca b cb : Nat} {X Y : List Int} (h : SM ty W M a ca b cb X Y) (hg : W.grownBy W' (some a)) (hr : Row W' a ca Y) : SM ty W' M a ca b cb Y Y :=
  ⟨(hg.block M h.lt (fun e => h.na (Option.some.inj e))).trans (by rw [h.blk, h.len]), hr, h.rb.kept hg (fun e => h.ab (Option.some.inj e).symm), h.cy, h.cy, rfl, h.na, h.nb, h.ab⟩
set_option maxHeartbeats 4000000 in
theorem commit_ok {M a ca b cb : Nat} {X Y : List Int} {W : World} (h : SM 66 W M a ca b cb X Y) :
    Calls Try.prog 25 #[.pointer (some ⟨M, 0, none⟩)] W fun e W' => e = .returned (.tuple #[]) ∧ Hid (SM 66 W' M a ca b cb X X ∧ W.grownBy W' (some b)) := by
  have HS := hid (fun V (hV : SM 66 V M a ca b cb X Y) => set_ok M 1 0 a ca b cb X Y V hV.len hV.c1 hV.c0 hV.ra hV.rb hV.ab)
  have H := hid h
  clear h
  go_enter Try.func25, Try.ntmps25
  go_wp2_with fail
  go_region_with (refine (HS.out _ (H.out.below (bdn _ _ 1))).mono ?_; rintro e w1 ⟨rfl, H1⟩)
  all_goals
    go_end0
    exact ⟨rfl, hid ⟨H.out.over (grown_trans (grown_drewN W 1 _) H1.out.2) H1.out.1, grown_trans (grown_drewN W 1 _) H1.out.2⟩⟩
set_option maxHeartbeats 4000000 in
theorem rollback_ok {M a ca b cb : Nat} {X Y : List Int} {W : World} (h : SM 66 W M a ca b cb X Y) :
    Calls Try.prog 22 #[.pointer (some ⟨M, 0, none⟩)] W fun e W' => e = .returned (.tuple #[]) ∧ Hid (SM 66 W' M a ca b cb Y Y ∧ W.grownBy W' (some a)) := by
  have HS := hid (fun V (hV : SM 66 V M a ca b cb X Y) => set_ok M 0 1 b cb a ca Y X V hV.len.symm (by rw [hV.len]; exact hV.c0) (by rw [hV.len]; exact hV.c1) hV.rb hV.ra hV.ab.symm)
  have H := hid h
  clear h
  go_enter Try.func22, Try.ntmps22
  go_wp2_with fail
  go_region_with (refine (HS.out _ (H.out.below (bdn _ _ 1))).mono ?_; rintro e w1 ⟨rfl, H1⟩)
  all_goals
    go_end0
    exact ⟨rfl, hid ⟨H.out.back (grown_trans (grown_drewN W 1 _) H1.out.2) H1.out.1, grown_trans (grown_drewN W 1 _) H1.out.2⟩⟩
end Go.Proofs.Ytablogkafbajaaa
