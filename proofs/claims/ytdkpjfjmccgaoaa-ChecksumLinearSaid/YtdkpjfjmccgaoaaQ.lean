/- Combine of layer 1: its theorem, its errors, and the zeros of the reference. No conditions but those of each theorem. -/
import Derived.Test.YtdkpjfjmccgaoaaE
import Derived.Test.YtdkpjfjmccgaoaaH
namespace Go.Proofs.Ytdkpjfjmccgaoaa
open Go.ChangeShapes Go.WideShapes Go.ChangeAt Go.RowKit
set_option linter.unusedVariables false

theorem fd_lin (x y c : Nat) (hx : x < 2 ^ 32) (hy : y < 2 ^ 32) (hc : c < 256) : fd (x ^^^ y) c = shn 8 x ^^^ fd y c := by
  have hyc : y ^^^ c < 2 ^ 32 := Nat.xor_lt_two_pow hy (by omega)
  have hxy : x ^^^ y < 2 ^ 32 := Nat.xor_lt_two_pow hx hy
  rw [fd_sh8 _ _ hxy hc, fd_sh8 _ _ hy hc, Nat.xor_assoc, ← shn8, ← shn8, shn_lin 8 _ _ hx hyc]

theorem wd_lin (x y v k : Nat) (hx : x < 2 ^ 32) (hy : y < 2 ^ 32) : wd (x ^^^ y) v k = shn (8 * k) x ^^^ wd y v k := by
  induction k with
  | zero => rfl
  | succ k ih => rw [wd, ih, fd_lin _ _ _ (shn_lt _ hx) (wd_lt _ _ _ hy) (Nat.mod_lt _ (by omega)), wd, ← shn_add, show 8 + 8 * k = 8 * (k + 1) by omega]

theorem wds_lin (x y : Nat) (ws : List Nat) (n : Nat) (hx : x < 2 ^ 32) (hy : y < 2 ^ 32) : wds (x ^^^ y) ws n = shn (64 * n) x ^^^ wds y ws n := by
  induction n with
  | zero => rfl
  | succ n ih => rw [wds, ih, wd_lin _ _ _ _ (shn_lt _ hx) (wds_lt _ _ _ hy), wds, ← shn_add, show 8 * 8 + 64 * n = 64 * (n + 1) by omega]

theorem nt_xor (p q : Nat) : nt (p ^^^ q) = p ^^^ nt q := by
  rw [nt, nt]
  generalize 4294967295 = c
  rw [← Nat.xor_assoc, Nat.xor_comm c p, Nat.xor_assoc]

theorem nt_zero : nt 0 = 4294967295 := by decide

/-- Combine's theorem: the checksum of both from the two checksums -/
theorem combine_law (a b : List Nat) (n m : Nat) (hn : n ≤ a.length) : shn (64 * m) (ext 0 a n) ^^^ ext 0 b m = ext 0 (a.take n ++ b) (n + m) := by
  rw [ext_append a b n m hn]
  have hs := ext_lt 0 (by omega) a n
  generalize ext 0 a n = s at *
  unfold ext
  have e : nt s = s ^^^ nt 0 := by rw [nt_zero, nt, Nat.xor_comm]
  rw [e, wds_lin _ _ _ _ hs (nt_lt 0 (by omega)), nt_xor]

theorem ext_congr (s : Nat) (a b : List Nat) (n : Nat) (h : ∀ j, j < n → a[j]?.getD 0 = b[j]?.getD 0) : ext s a n = ext s b n := by
  unfold ext
  rw [wds_congr _ _ _ _ h]

theorem wd_zero (x k : Nat) (hx : x < 2 ^ 32) : wd x 0 k = shn (8 * k) x := by
  induction k with
  | zero => rfl
  | succ k ih => rw [wd, ih, Nat.zero_div, Nat.zero_mod, fd_sh8 _ _ (shn_lt _ hx) (by omega), Nat.xor_zero, ← shn8, ← shn_add, show 8 + 8 * k = 8 * (k + 1) by omega]

theorem zeros_any (x n : Nat) (hx : x < 4294967296) (hn : n < 100) (w : World) :
    Calls Try.prog 20 #[.int .u32 (x : Int), .int .i64 (n : Int)] w fun e w' => e = .returned (.int .u32 (shn (64 * n) x : Nat)) ∧ w = w' := by
  have HX := hid hx
  clear hx
  go_enter Try.func20, Try.ntmps20
  go_wp2
  go_loop [0, 5] (fun xv i => ∃ k : Nat, k ≤ n ∧ i = .int .i64 (k : Int) ∧ xv = .int .u32 (shn (64 * k) x : Nat)) (fun _ i => n - (intOf i).toNat)
  case atStart => exact ⟨0, by omega, rfl, rfl⟩
  case round =>
    obtain ⟨k, hk, rfl, rfl⟩ := hrel
    by_cases hlt : k < n
    · have hs := hid (shn_lt (64 * k) HX.out)
      have hn := hid (show wd (shn (64 * k) x) 0 8 = shn (64 * (k + 1)) x by rw [wd_zero _ _ (shn_lt _ HX.out), ← shn_add, show 8 * 8 + 64 * k = 64 * (k + 1) by omega])
      generalize shn (64 * k) x = s at *
      have h2 : (k : Int) < (n : Int) := by omega
      have W := hid (word_any s 0 hs.out (by omega) w)
      go_wp2_with fail
      refine W.out.mono ?_
      rintro e w1 ⟨rfl, rfl⟩
      go_wp2_with fail
      go_round
      case rel => exact ⟨k + 1, by omega, by go_num, by rw [hn.out]⟩
      case measure => simp [intOf]; omega
    · obtain rfl : k = n := by omega
      have h2 : ¬ (k : Int) < (k : Int) := by omega
      go_wp2_with fail
      go_ret
      exact ⟨rfl, rfl⟩

theorem combine_no (a b : Nat) (n : Int) (h : n < 0 ∨ 65536 < n) (w : World) :
    Calls Try.prog 19 #[.int .u32 (a : Int), .int .u32 (b : Int), .int .i64 n] w fun e w' => e = .returned (.tuple #[.int .u32 0, .int .i64 1]) ∧ w = w' := by
  by_cases h0 : n < 0
  · clear h; go_enter Try.func19, Try.ntmps19; go_wp2; go_ret2; exact ⟨rfl, rfl⟩
  · have h1 : 65536 < n := by omega
    clear h; go_enter Try.func19, Try.ntmps19; go_wp2; go_ret2; exact ⟨rfl, rfl⟩

/-- the error of Combine, whatever the number -/
theorem combine_err (a b : Nat) (n : Int) (ha : a < 2 ^ 32) (hb : b < 2 ^ 32) (w : World) :
    Calls Try.prog 19 #[.int .u32 (a : Int), .int .u32 (b : Int), .int .i64 n] w fun e w' => ∃ v r : Int, e = .returned (.tuple #[.int .u32 v, .int .i64 r]) ∧ Hid ((r == 1) = (decide (n < 0) || decide (65536 < n))) ∧ w = w' := by
  by_cases h : n < 0 ∨ 65536 < n
  · exact (combine_no a b n h w).mono fun e w' ⟨he, hw⟩ => ⟨_, _, he, by show _ = _; rcases h with h | h <;> simp [h], hw⟩
  · obtain ⟨k, rfl⟩ : ∃ k : Nat, n = k := ⟨n.toNat, by omega⟩
    exact (combine_ok a b k ha hb (by omega) w).mono fun e w' ⟨he, hw⟩ => ⟨_, _, he, by show _ = _; simp; omega, hw⟩

theorem combine_mod (a b k : Nat) (ha : a < 2 ^ 32) (hb : b < 2 ^ 32) (w : World) :
    Calls Try.prog 19 #[.int .u32 (a : Int), .int .u32 (b : Int), .int .i64 ((k : Int) % 90)] w fun e w' => e = .returned (.tuple #[.int .u32 (shn (64 * (k % 90)) a ^^^ b : Nat), .int .i64 0]) ∧ w = w' := by
  have h := combine_ok a b (k % 90) ha hb (by omega) w
  rwa [Int.natCast_emod] at h

theorem zeros_mod (x k : Nat) (hx : x < 4294967296) (w : World) :
    Calls Try.prog 20 #[.int .u32 (x : Int), .int .i64 ((k : Int) % 90)] w fun e w' => e = .returned (.int .u32 (shn (64 * (k % 90)) x : Nat)) ∧ w = w' := by
  have h := zeros_any x (k % 90) hx (by omega) w
  rwa [Int.natCast_emod] at h

/-- an operation whose guard says that it runs -/
theorem wpList_wanted {P : Program} {ops : Array Oper} {rest : List Oper} {o : Oper} {a : Act} {w : World} {Q : Exit → Act → World → Prop} (hw : Region.wanted o (yielded ops a.tmps) = true)
    (h : ∀ K : Act → World → Prop, (∀ a w, wpList P ops Q rest a w → K a w) → o.wp P a w K Q) : wpList P ops Q (o :: rest) a w :=
  wpList_step fun K hK => by simp only [hw, if_true]; exact h K hK

theorem wpList_append_srcg {P : Program} (w : World) {ops : Array Oper} {rest : List Oper} {o : Oper} {ac : Act} {Q : Exit → Act → World → Prop} (hgd : Region.wanted o (yielded ops ac.tmps) = true) (s x : Operand) (t : TypeId)
    (ho : o.op = .call { callee := .builtin .append, args := #[s, x], argTypes := #[t, t] })
    (base : Nat) (e : TypeId) (i : TypeInfo) (z : Value) (size bytes : Nat) (ht : P.underlying t = some (.slice e)) (hi : P.info? e = some i) (hz : i.zero = some z)
    (hsize : i.size = size) (hby : i.bytes = bytes) (hzs : z.cells.size = size) (hsz : 0 < size)
    (v : Value) (n : Nat) (xs : List Value) (hs : ac.eval s = v) (hown : w.ownsRow base e size v n xs)
    (a : Option Addr) (m c : Nat) (news : List Value) (hx : ac.eval x = .slice a m c) (hsrc : Src w a m c news) (hl : news.length = m * size) (h1 : ∀ u ∈ news, u.oneCell' = true)
    (h63 : n + m ≤ maxLen) (hbytes : (n + m) * bytes ≤ 140737488355328) (hbase : base ≤ w.heap.size)
    (h : ∀ v' w', w'.ownsRow base e size v' (n + m) (xs ++ news) → w.grownBy w' v.ownBlock → wpList P ops Q rest (ac.put o.dst v') w') : wpList P ops Q (o :: rest) ac w := by
  refine wpList_wanted hgd fun K hK => ?_
  rcases hsrc with ⟨rfl, rfl, rfl, rfl⟩ | ⟨ad, rfl, hc⟩
  · have hrun := run_append_owned_none (P := P) (w := w) base t o.type e i size ht hi v n xs hown
    unfold Oper.wp
    simp [execOp, ho, resolve, invoke, builtin, hs, hx, hrun, Result.andThen]
    exact hK _ _ (h v w (by simpa using hown) ⟨rfl, rfl, rfl, Nat.le_refl _, fun _ _ _ => rfl⟩)
  · exact wp_append_own w s x t ho base e i z size bytes ht hi hz hsize hby hzs hsz v n xs hs hown ad m c news hx hl hc h1 h63 hbytes hbase (fun v' w' h2 h3 _ => hK _ _ (h v' w' h2 h3))
end Go.Proofs.Ytdkpjfjmccgaoaa
