/-
  TermWaits is true for every base and try, all bits: a later try waits no less, at most twice as long, never more than 2^20; nothing is waited of nothing. No conditions.
-/
import Derived.Test.YthocpkmlfkbiaaaTmAwake
import Derived.PlainAid
import Derived.Carry
import Derived.ProofKit
import Derived.OpenShut
import Derived.ShutString
namespace Go.Proofs.Ythocpkmlfkbiaaa.termWaits
open Go.ChangeShapes Go.WideShapes Go.ChangeAt Go.RowKit Go.PlainAid Go.Proofs.Ythocpkmlfkbiaaa.Rl Go.Proofs.Ythocpkmlfkbiaaa.Tm
open Go.ChangeMaps (open_string shut_string)
set_option linter.unusedVariables false

theorem rem_u64 (n : Int) (m : Int) (hm : 0 < m) : ∃ k : Int, (IntKind.u64.wrap n).tmod m = k ∧ 0 ≤ k ∧ k < m := by
  have h : 0 ≤ IntKind.u64.wrap n := by rw [IntKind.wrap_u64]; omega
  exact ⟨_, rfl, Int.tmod_nonneg m h, Int.tmod_lt_of_pos (IntKind.u64.wrap n) hm⟩
theorem le_of_lt_imp {a b : Nat} (h : ∀ t, t < a → t < b) : a ≤ b := by
  rcases Nat.lt_or_ge b a with c | c
  · exact absurd (h b c) (by omega)
  · exact c
theorem wv_mono (s : Nat) {k j : Nat} (h : k ≤ j) : wv s k ≤ wv s j := by
  refine le_of_lt_imp fun t => ?_
  rw [wv_iff, wv_iff]
  rintro ⟨a, b⟩
  exact ⟨a, Nat.lt_of_lt_of_le b (Nat.mul_le_mul_left _ (Nat.pow_le_pow_right (by decide) h))⟩
theorem wv_twice (s k : Nat) : wv s (k + 1) ≤ 2 * wv s k := by
  refine le_of_lt_imp fun t => ?_
  rw [wv_iff]
  rintro ⟨a, b⟩
  rcases Nat.lt_or_ge t (2 * wv s k) with c | c
  · exact c
  · exfalso
    have n : ¬ (wv s k < 1048576 ∧ wv s k * one < val s * 2 ^ k) := fun q => absurd ((wv_iff s k _).2 q) (Nat.lt_irrefl _)
    have d : val s * 2 ^ k ≤ wv s k * one := by
      rcases Nat.lt_or_ge (wv s k * one) (val s * 2 ^ k) with e | e
      · exact absurd ⟨by omega, e⟩ n
      · exact e
    have f := Nat.mul_le_mul_right one c
    rw [Nat.mul_assoc] at f
    rw [Nat.pow_succ, ← Nat.mul_assoc] at b
    omega
theorem wv_pos {s : Nat} (k : Nat) (h : s ≠ 0) : 0 < wv s k := by
  rw [wv_iff, Nat.zero_mul]
  exact ⟨by decide, Nat.mul_pos (val_pos h) (Nat.two_pow_pos k)⟩
theorem wv_inf (k : Nat) : wv 9218868437227405312 k = 1048576 := by
  have a := wv_le 9218868437227405312 k
  have b : 1048575 < wv 9218868437227405312 k := by
    rw [wv_iff]
    have g := inf_great
    have o := one_pos
    have := Nat.le_mul_of_pos_right (val 9218868437227405312) (Nat.two_pow_pos k)
    exact ⟨by decide, by omega⟩
  omega
theorem lim (n : Int) (h1 : 1 ≤ n) : (min (n + 1) 60 - 1).toNat = (min n 60 - 1).toNat ∨ (min (n + 1) 60 - 1).toNat = (min n 60 - 1).toNat + 1 := by omega
theorem wt_facts (x : Nat) (n : Int) (g : gd x = true) (h1 : 1 ≤ n) (z : rg x ≠ 0) : 0 < wt x n ∧ wt x n ≤ wt x (n + 1) ∧ wt x (n + 1) ≤ 1048576 ∧ wt x (n + 1) ≤ 2 * wt x n := by
  rw [wt_yes g h1, wt_yes g (by omega)]
  have p := wv_pos (min n 60 - 1).toNat z
  have l := wv_le (rg x) (min (n + 1) 60 - 1).toNat
  rcases lim n h1 with e | e
  · rw [e] at l ⊢
    omega
  · rw [e] at l ⊢
    have a := wv_mono (rg x) (show (min n 60 - 1).toNat ≤ (min n 60 - 1).toNat + 1 by omega)
    have b := wv_twice (rg x) (min n 60 - 1).toNat
    omega
theorem wt_none (x : Nat) (n : Int) (z : gd x = false ∨ rg x = 0) : wt x n = 0 := by
  cases g : gd x with
  | false => exact wt_no (.inl g)
  | true =>
    by_cases h : n < 1
    · exact wt_no (.inr h)
    · rw [wt_yes g (by omega)]
      rcases z with z | z
      · rw [g] at z; cases z
      · rw [z, wv_zero]
theorem wt_inf (n : Int) (h : 1 ≤ n) : wt 9218868437227405312 n = 1048576 := by
  rw [wt_yes (by decide) h, show rg 9218868437227405312 = 9218868437227405312 by decide, wv_inf]
theorem zero_rg (x : Nat) (hx : x < 18446744073709551616) (g : gd x = true) : (FloatKind.f64.format.order x 0 == some .eq) = decide (rg x = 0) := by
  obtain ⟨g1, g2, g3⟩ := gd_rg hx g
  have g := of_decide_eq_true g
  rw [eq_zero x hx]
  congr 1; apply propext
  unfold kp at g2
  split at g2 <;> omega

set_option maxHeartbeats 4000000 in
set_option maxRecDepth 20000 in
theorem go_bad (x : Nat) (t : Int) (w : World) (hx : x < 18446744073709551616) (k : Int) (ek : (IntKind.u64.wrap t).tmod 100 = k) (pk : 0 ≤ k) (lk : k < 100) (g : gd x = false) :
    Calls Try.prog 7 #[.float .f64 x, .int .i64 t] w fun e w' => e = .returned (.bool true) ∧ Below w.heap.size w w' := by
  have A := awake_any w
  have W1 := wait_any x (1 + k) w hx (by omega) (by omega)
  have W2 := wait_any x (1 + k + 1) w hx (by omega) (by omega)
  have W3 := wait_any x 0 w hx (by decide) (by decide)
  have W4 := wait_any 0 (1 + k) w (by decide) (by omega) (by omega)
  have G := good_any x w hx
  rw [wt_no (.inr (by decide))] at W3
  rw [wt_none 0 _ (.inr (by decide))] at W4
  rw [wt_none x _ (.inl g)] at W1 W2
  rw [g] at G
  clear g
  go_enter Try.func7, Try.ntmps7
  go_wp2_with fail
  refine A.mono ?_
  rintro e w' ⟨rfl, rfl⟩
  go_wp2_with fail
  refine W1.mono ?_
  rintro e w' ⟨rfl, rfl⟩
  go_wp2_with fail
  refine W2.mono ?_
  rintro e w' ⟨rfl, rfl⟩
  go_wp2_with fail
  refine W3.mono ?_
  rintro e w' ⟨rfl, rfl⟩
  go_wp2_with fail
  refine W4.mono ?_
  rintro e w' ⟨rfl, rfl⟩
  go_wp2_with fail
  refine G.mono ?_
  rintro e w' ⟨rfl, rfl⟩
  clear A W1 W2 W3 W4 G
  go_wp2
  all_goals go_ret
  all_goals exact ⟨rfl, Below.refl _ _⟩
set_option maxHeartbeats 4000000 in
set_option maxRecDepth 20000 in
theorem go_zero (x : Nat) (t : Int) (w : World) (hx : x < 18446744073709551616) (k : Int) (ek : (IntKind.u64.wrap t).tmod 100 = k) (pk : 0 ≤ k) (lk : k < 100) (g : gd x = true) (z : rg x = 0) :
    Calls Try.prog 7 #[.float .f64 x, .int .i64 t] w fun e w' => e = .returned (.bool true) ∧ Below w.heap.size w w' := by
  have A := awake_any w
  have W1 := wait_any x (1 + k) w hx (by omega) (by omega)
  have W2 := wait_any x (1 + k + 1) w hx (by omega) (by omega)
  have W3 := wait_any x 0 w hx (by decide) (by decide)
  have W4 := wait_any 0 (1 + k) w (by decide) (by omega) (by omega)
  have G := good_any x w hx
  rw [wt_no (.inr (by decide))] at W3
  rw [wt_none 0 _ (.inr (by decide))] at W4
  rw [wt_none x _ (.inr z)] at W1 W2
  have o := zero_rg x hx g
  rw [decide_eq_true z] at o
  rw [g] at G
  clear g z
  go_enter Try.func7, Try.ntmps7
  go_wp2_with fail
  refine A.mono ?_
  rintro e w' ⟨rfl, rfl⟩
  go_wp2_with fail
  refine W1.mono ?_
  rintro e w' ⟨rfl, rfl⟩
  go_wp2_with fail
  refine W2.mono ?_
  rintro e w' ⟨rfl, rfl⟩
  go_wp2_with fail
  refine W3.mono ?_
  rintro e w' ⟨rfl, rfl⟩
  go_wp2_with fail
  refine W4.mono ?_
  rintro e w' ⟨rfl, rfl⟩
  go_wp2_with fail
  refine G.mono ?_
  rintro e w' ⟨rfl, rfl⟩
  clear A W1 W2 W3 W4 G
  go_wp2
  all_goals go_ret
  all_goals exact ⟨rfl, Below.refl _ _⟩
set_option maxHeartbeats 4000000 in
set_option maxRecDepth 20000 in
theorem go_full (x : Nat) (t : Int) (w : World) (hx : x < 18446744073709551616) (k : Int) (ek : (IntKind.u64.wrap t).tmod 100 = k) (pk : 0 ≤ k) (lk : k < 100) (g : gd x = true) (z : rg x ≠ 0) (a b : Int) (ha : (wt x (1 + k) : Int) = a) (hb : (wt x (1 + k + 1) : Int) = b) (a1 : 0 < a) (a2 : a ≤ b) (b1 : b ≤ 1048576) (b2 : b ≤ 2 * a) (c : b = 1048576) :
    Calls Try.prog 7 #[.float .f64 x, .int .i64 t] w fun e w' => e = .returned (.bool true) ∧ Below w.heap.size w w' := by
  have A := awake_any w
  have W1 := wait_any x (1 + k) w hx (by omega) (by omega)
  have W2 := wait_any x (1 + k + 1) w hx (by omega) (by omega)
  have W3 := wait_any x 0 w hx (by decide) (by decide)
  have W4 := wait_any 0 (1 + k) w (by decide) (by omega) (by omega)
  have G := good_any x w hx
  rw [wt_no (.inr (by decide))] at W3
  rw [wt_none 0 _ (.inr (by decide))] at W4
  rw [ha] at W1
  rw [hb] at W2
  have W5 := wait_any 9218868437227405312 (1 + k) w (by decide) (by omega) (by omega)
  rw [wt_inf _ (by omega)] at W5
  have I := ratio_inf w
  have o := zero_rg x hx g
  rw [decide_eq_false z] at o
  rw [g] at G
  clear g z ha hb
  subst c
  go_enter Try.func7, Try.ntmps7
  go_wp2_with fail
  refine A.mono ?_
  rintro e w' ⟨rfl, rfl⟩
  go_wp2_with fail
  refine W1.mono ?_
  rintro e w' ⟨rfl, rfl⟩
  go_wp2_with fail
  refine W2.mono ?_
  rintro e w' ⟨rfl, rfl⟩
  go_wp2_with fail
  refine W3.mono ?_
  rintro e w' ⟨rfl, rfl⟩
  go_wp2_with fail
  refine W4.mono ?_
  rintro e w' ⟨rfl, rfl⟩
  go_wp2_with fail
  refine G.mono ?_
  rintro e w' ⟨rfl, rfl⟩
  go_wp2_with fail
  refine I.mono ?_
  rintro e w' ⟨rfl, rfl⟩
  go_wp2_with fail
  refine W5.mono ?_
  rintro e w' ⟨rfl, rfl⟩
  clear A W1 W2 W3 W4 G W5 I
  go_wp2
  all_goals go_ret
  all_goals exact ⟨rfl, Below.refl _ _⟩
set_option maxHeartbeats 4000000 in
set_option maxRecDepth 20000 in
theorem go_part (x : Nat) (t : Int) (w : World) (hx : x < 18446744073709551616) (k : Int) (ek : (IntKind.u64.wrap t).tmod 100 = k) (pk : 0 ≤ k) (lk : k < 100) (g : gd x = true) (z : rg x ≠ 0) (a b : Int) (ha : (wt x (1 + k) : Int) = a) (hb : (wt x (1 + k + 1) : Int) = b) (a1 : 0 < a) (a2 : a ≤ b) (b1 : b ≤ 1048576) (b2 : b ≤ 2 * a) (c : b ≠ 1048576) :
    Calls Try.prog 7 #[.float .f64 x, .int .i64 t] w fun e w' => e = .returned (.bool true) ∧ Below w.heap.size w w' := by
  have A := awake_any w
  have W1 := wait_any x (1 + k) w hx (by omega) (by omega)
  have W2 := wait_any x (1 + k + 1) w hx (by omega) (by omega)
  have W3 := wait_any x 0 w hx (by decide) (by decide)
  have W4 := wait_any 0 (1 + k) w (by decide) (by omega) (by omega)
  have G := good_any x w hx
  rw [wt_no (.inr (by decide))] at W3
  rw [wt_none 0 _ (.inr (by decide))] at W4
  rw [ha] at W1
  rw [hb] at W2
  have W5 := wait_any 9218868437227405312 (1 + k) w (by decide) (by omega) (by omega)
  rw [wt_inf _ (by omega)] at W5
  have I := ratio_inf w
  have o := zero_rg x hx g
  rw [decide_eq_false z] at o
  rw [g] at G
  clear g z ha hb
  go_enter Try.func7, Try.ntmps7
  go_wp2_with fail
  refine A.mono ?_
  rintro e w' ⟨rfl, rfl⟩
  go_wp2_with fail
  refine W1.mono ?_
  rintro e w' ⟨rfl, rfl⟩
  go_wp2_with fail
  refine W2.mono ?_
  rintro e w' ⟨rfl, rfl⟩
  go_wp2_with fail
  refine W3.mono ?_
  rintro e w' ⟨rfl, rfl⟩
  go_wp2_with fail
  refine W4.mono ?_
  rintro e w' ⟨rfl, rfl⟩
  go_wp2_with fail
  refine G.mono ?_
  rintro e w' ⟨rfl, rfl⟩
  go_wp2_with fail
  refine I.mono ?_
  rintro e w' ⟨rfl, rfl⟩
  go_wp2_with fail
  refine W5.mono ?_
  rintro e w' ⟨rfl, rfl⟩
  clear A W1 W2 W3 W4 G W5 I
  go_wp2
  all_goals go_ret
  all_goals exact ⟨rfl, Below.refl _ _⟩
theorem lt_of {a : Nat} (h : (Lit.float .f64 a).wf = true) : a < 18446744073709551616 := by
  simp only [Lit.wf, decide_eq_true_eq] at h
  exact h
theorem walk (x : Nat) (t : Int) (w0 : (Lit.float .f64 x).wf = true) (w1 : (Lit.int .i64 t).wf = true) (w : World) :
    Calls Try.prog 7 #[.float .f64 x, .int .i64 t] w fun e w' => e = .returned (.bool true) ∧ Below w.heap.size w w' := by
  obtain ⟨k, ek, pk, lk⟩ := rem_u64 t 100 (by decide)
  have hx := lt_of w0
  cases g : gd x with
  | false => exact go_bad x t w hx k ek pk lk g
  | true =>
    by_cases z : rg x = 0
    · exact go_zero x t w hx k ek pk lk g z
    · obtain ⟨f1, f2, f3, f4⟩ := wt_facts x (1 + k) g (by omega) z
      by_cases c : (wt x (1 + k + 1) : Int) = 1048576
      · exact go_full x t w hx k ek pk lk g z _ _ rfl rfl (by omega) (by omega) (by omega) (by omega) c
      · exact go_part x t w hx k ek pk lk g z _ _ rfl rfl (by omega) (by omega) (by omega) (by omega) c

theorem own : ownKnob Try.prog.godebug = none := by kernel_rfl

set_option maxRecDepth 100000 in
theorem lifted (os : Os) (started : os.Started) (H : Type) (enc : TypeId × Value → H) :
    ReturnsInHanded {} Try.checked os 7 .any (Rows.termWaitsSpec.pre6 enc Try.prog Try.f7 Rows.termWaitsRow.domain false) (Rows.termWaitsSpec.post enc Try.prog Try.f7 false true false false) := by
  refine returnsInHanded_of_change (C := Try.checked) own started (by kernel_rfl) Try.func7
    (ChangeSpec.witness6 (enc := enc) (C := Try.checked) false ⟨#[], #[.float .f64 0, .int .i64 0], []⟩ 8 (by kernel_rfl) (by kernel_rfl) (by kernel_rfl) (by kernel_rfl)) ?_
  intro W base args ds gs before hval0 hW hcnd _
  have hval : ∀ (j : Nat) t v, Try.f7.params[j]? = some t → args[j]? = some v → Value.okWide Try.prog W .any base t v := hval0
  have hW' := hW
  obtain ⟨p, q, hA0, hV, rfl, hfz, hnd⟩ := hW
  have hA : DataW.TrodAll enc Try.prog W 0 (fun _ => true) true Try.f7.params.toList args.toList ds p := hA0
  rw [Try.params7] at hA hval
  obtain ⟨v0, vs0, d0, ds0, p0, q0, hargs, rfl, rfl, h0, r0⟩ := trodAll_cons hA
  obtain ⟨v1, vs1, d1, ds1, p1, q1, rfl, rfl, rfl, h1, r1⟩ := trodAll_cons r0
  obtain ⟨rfl, rfl, rfl⟩ := trodAll_nil r1
  obtain rfl : args = #[v0, v1] := by cases args; simp_all
  obtain ⟨rfl, rfl⟩ := trodVars_none hV
  obtain ⟨a0, rfl, rfl, rfl, w0⟩ := open_float Try.underlying22 (hval 0 22 v0 rfl rfl) h0
  obtain ⟨a1, rfl, rfl, rfl, w1⟩ := open_int Try.underlying3 (hval 1 3 v1 rfl rfl) h1
  clear hA0 hval0
  simp only [List.append_nil] at hW'
  refine (walk a0 a1 w0 w1 W).mono fun e W' ⟨he, bel⟩ => ?_
  subst he
  exact ⟨_, rfl, _, _, _, [], _, [], hW', trodAll_mk1 (shut_bool Try.underlying4 _), (trodAll_cons_mk (shut_float Try.underlying22 w0) (trodAll_cons_mk (shut_int Try.underlying3 w1) trodAll_mk0)), rfl, bel.frame _, fun h => by cases h⟩

theorem over : Rows.termWaitsRow.holds Try.pinned (OpenSpec.ofChange Rows.termWaitsSpec) :=
  OpenClaim.holds_of_wide 7 Try.f7 rfl rfl rfl rfl rfl rfl rfl ⟨rfl, rfl, rfl, rfl, rfl⟩ rfl rfl rfl rfl rfl (by kernel_rfl) Try.func7 (by kernel_rfl)
    (of_decide_eq_true (by kernel_rfl)) (by unfold Func.isWrapper; first | (rw [if_pos (by decide +kernel)]; kernel_rfl) | (rw [if_neg (by decide +kernel)]; exact ⟨rfl, rfl⟩))
    (fun os started H enc _ => lifted os started H enc)

theorem proved : Rows.TermWaitsSaid :=
  over
#print axioms proved
end Go.Proofs.Ythocpkmlfkbiaaa.termWaits
