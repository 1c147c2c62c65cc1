/-
  TermEnds is true for every ticks and span, all bits: what ends is within till then, and not from then on. No conditions.
-/
import Derived.Test.YthocpkmlfkbiaaaTmAwake
import Derived.PlainAid
import Derived.Carry
import Derived.ProofKit
import Derived.OpenShut
import Derived.ShutString
namespace Go.Proofs.Ythocpkmlfkbiaaa.termEnds
open Go.ChangeShapes Go.WideShapes Go.ChangeAt Go.RowKit Go.PlainAid Go.Proofs.Ythocpkmlfkbiaaa.Rl Go.Proofs.Ythocpkmlfkbiaaa.Tm
open Go.ChangeMaps (open_string shut_string)
set_option linter.unusedVariables false

theorem rem_u64 (n : Int) (m : Int) (hm : 0 < m) (hm2 : m ≤ 4611686018427387904) : ∃ k : Int, (IntKind.u64.wrap n).tmod m = k ∧ 0 ≤ k ∧ k < m := by
  have h : 0 ≤ IntKind.u64.wrap n := by rw [IntKind.wrap_u64]; omega
  exact ⟨_, rfl, Int.tmod_nonneg m h, Int.tmod_lt_of_pos (IntKind.u64.wrap n) hm⟩
set_option maxHeartbeats 4000000 in
set_option maxRecDepth 20000 in
theorem go_bad (n0 : Int) (x : Nat) (m0 : Int) (w : World) (hx : x < 18446744073709551616) (n m : Int) (en : (IntKind.u64.wrap n0).tmod 549755813888 = n) (pn : 0 ≤ n) (ln : n < 549755813888) (em : (IntKind.u64.wrap m0).tmod 549755813888 = m) (pm : 0 ≤ m) (lm : m < 549755813888) (g : gd x = false) :
    Calls Try.prog 5 #[.int .i64 n0, .float .f64 x, .int .i64 m0] w fun e w' => e = .returned (.bool true) ∧ Below w.heap.size w w' := by
  have A := awake_any w
  have E := ends_any n x w hx (by omega) (by omega)
  have G := good_any x w hx
  have W := within_any m x w hx
  have b : enB n x = false := by unfold enB; rw [g]; rfl
  rw [en_no b, b] at E
  rw [g] at G
  rw [wi_bad _ _ g] at W
  clear b g
  go_enter Try.func5, Try.ntmps5
  go_wp2_with fail
  refine A.mono ?_
  rintro e w' ⟨rfl, rfl⟩
  go_wp2_with fail
  refine E.mono ?_
  rintro e w' ⟨rfl, rfl⟩
  go_wp2_with fail
  refine G.mono ?_
  rintro e w' ⟨rfl, rfl⟩
  go_wp2_with fail
  refine W.mono ?_
  rintro e w' ⟨rfl, rfl⟩
  clear A E G W
  go_wp2
  all_goals go_ret
  all_goals exact ⟨rfl, Below.refl _ _⟩
set_option maxHeartbeats 4000000 in
set_option maxRecDepth 20000 in
theorem go_never (n0 : Int) (x : Nat) (m0 : Int) (w : World) (hx : x < 18446744073709551616) (n m : Int) (en : (IntKind.u64.wrap n0).tmod 549755813888 = n) (pn : 0 ≤ n) (ln : n < 549755813888) (em : (IntKind.u64.wrap m0).tmod 549755813888 = m) (pm : 0 ≤ m) (lm : m < 549755813888) (g : gd x = true) (b : enB n x = false) :
    Calls Try.prog 5 #[.int .i64 n0, .float .f64 x, .int .i64 m0] w fun e w' => e = .returned (.bool true) ∧ Below w.heap.size w w' := by
  have A := awake_any w
  have E := ends_any n x w hx (by omega) (by omega)
  have G := good_any x w hx
  have W := within_any m x w hx
  have u : m < up (rg x) := by
    unfold enB at b
    rw [g, decide_eq_true (show 0 ≤ n by omega), decide_eq_true (show n ≤ 1099511627776 by omega)] at b
    have := of_decide_eq_false (show decide ((up (rg x) : Int) ≤ 1099511627776 - n) = false by simpa using b)
    omega
  rw [en_no b, b] at E
  rw [wi_up m x hx (by omega) (by omega) g, decide_eq_true u] at W
  rw [g] at G
  clear b g u
  go_enter Try.func5, Try.ntmps5
  go_wp2_with fail
  refine A.mono ?_
  rintro e w' ⟨rfl, rfl⟩
  go_wp2_with fail
  refine E.mono ?_
  rintro e w' ⟨rfl, rfl⟩
  go_wp2_with fail
  refine G.mono ?_
  rintro e w' ⟨rfl, rfl⟩
  go_wp2_with fail
  refine W.mono ?_
  rintro e w' ⟨rfl, rfl⟩
  clear A E G W
  go_wp2
  all_goals go_ret
  all_goals exact ⟨rfl, Below.refl _ _⟩
set_option maxHeartbeats 4000000 in
set_option maxRecDepth 20000 in
theorem go_in1 (n0 : Int) (x : Nat) (m0 : Int) (w : World) (hx : x < 18446744073709551616) (n m : Int) (en : (IntKind.u64.wrap n0).tmod 549755813888 = n) (pn : 0 ≤ n) (ln : n < 549755813888) (em : (IntKind.u64.wrap m0).tmod 549755813888 = m) (pm : 0 ≤ m) (lm : m < 549755813888) (g : gd x = true) (b : enB n x = true) (c : m < up (rg x)) (z : up (rg x) ≠ 0) :
    Calls Try.prog 5 #[.int .i64 n0, .float .f64 x, .int .i64 m0] w fun e w' => e = .returned (.bool true) ∧ Below w.heap.size w w' := by
  have A := awake_any w
  have E := ends_any n x w hx (by omega) (by omega)
  have G := good_any x w hx
  have W := within_any m x w hx
  have u : (up (rg x) : Int) ≤ 1099511627776 - n := by
    unfold enB at b
    rw [g, decide_eq_true (show 0 ≤ n by omega), decide_eq_true (show n ≤ 1099511627776 by omega)] at b
    exact of_decide_eq_true (show decide ((up (rg x) : Int) ≤ 1099511627776 - n) = true by simpa using b)
  rw [en_yes b, b] at E
  rw [wi_up m x hx (by omega) (by omega) g, decide_eq_true c] at W
  have V := within_any ((up (rg x) : Int) - 1) x w hx
  rw [wi_up _ x hx (by omega) (by omega) g, decide_eq_true (by omega)] at V
  rw [g] at G
  clear b g
  generalize up (rg x) = k at *
  obtain ⟨y, hy⟩ : ∃ y : Int, n + (k : Int) = y := ⟨_, rfl⟩
  rw [hy] at E
  have y1 : n < y := by omega
  have y2 : n + m < y := by omega
  have y3 : y ≤ 1099511627776 := by omega
  rw [show (k : Int) - 1 = y - 1 - n by omega] at V
  clear hy u c z
  go_enter Try.func5, Try.ntmps5
  go_wp2_with fail
  refine A.mono ?_
  rintro e w' ⟨rfl, rfl⟩
  go_wp2_with fail
  refine E.mono ?_
  rintro e w' ⟨rfl, rfl⟩
  go_wp2_with fail
  refine G.mono ?_
  rintro e w' ⟨rfl, rfl⟩
  go_wp2_with fail
  refine W.mono ?_
  rintro e w' ⟨rfl, rfl⟩
  go_wp2_with fail
  refine V.mono ?_
  rintro e w' ⟨rfl, rfl⟩
  clear A E G W V
  go_wp2
  all_goals go_ret
  all_goals exact ⟨rfl, Below.refl _ _⟩
set_option maxHeartbeats 4000000 in
set_option maxRecDepth 20000 in
theorem go_out0 (n0 : Int) (x : Nat) (m0 : Int) (w : World) (hx : x < 18446744073709551616) (n m : Int) (en : (IntKind.u64.wrap n0).tmod 549755813888 = n) (pn : 0 ≤ n) (ln : n < 549755813888) (em : (IntKind.u64.wrap m0).tmod 549755813888 = m) (pm : 0 ≤ m) (lm : m < 549755813888) (g : gd x = true) (b : enB n x = true) (c : ¬ m < up (rg x)) (z : up (rg x) = 0) :
    Calls Try.prog 5 #[.int .i64 n0, .float .f64 x, .int .i64 m0] w fun e w' => e = .returned (.bool true) ∧ Below w.heap.size w w' := by
  have A := awake_any w
  have E := ends_any n x w hx (by omega) (by omega)
  have G := good_any x w hx
  have W := within_any m x w hx
  have u : (up (rg x) : Int) ≤ 1099511627776 - n := by
    unfold enB at b
    rw [g, decide_eq_true (show 0 ≤ n by omega), decide_eq_true (show n ≤ 1099511627776 by omega)] at b
    exact of_decide_eq_true (show decide ((up (rg x) : Int) ≤ 1099511627776 - n) = true by simpa using b)
  rw [en_yes b, b] at E
  rw [wi_up m x hx (by omega) (by omega) g, decide_eq_false c] at W
  rw [g] at G
  clear b g
  generalize up (rg x) = k at *
  obtain ⟨y, hy⟩ : ∃ y : Int, n + (k : Int) = y := ⟨_, rfl⟩
  rw [hy] at E
  have y1 : y = n := by omega
  have y2 : ¬ n + m < y := by omega
  subst y1
  clear hy u c z
  go_enter Try.func5, Try.ntmps5
  go_wp2_with fail
  refine A.mono ?_
  rintro e w' ⟨rfl, rfl⟩
  go_wp2_with fail
  refine E.mono ?_
  rintro e w' ⟨rfl, rfl⟩
  go_wp2_with fail
  refine G.mono ?_
  rintro e w' ⟨rfl, rfl⟩
  go_wp2_with fail
  refine W.mono ?_
  rintro e w' ⟨rfl, rfl⟩
  clear A E G W
  go_wp2
  go_ret
  refine ⟨?_, Below.refl _ _⟩
  show Ending.returned (.bool (!decide (y + m < y))) = _
  rw [decide_eq_false (by omega)]; rfl
set_option maxHeartbeats 4000000 in
set_option maxRecDepth 20000 in
theorem go_out1 (n0 : Int) (x : Nat) (m0 : Int) (w : World) (hx : x < 18446744073709551616) (n m : Int) (en : (IntKind.u64.wrap n0).tmod 549755813888 = n) (pn : 0 ≤ n) (ln : n < 549755813888) (em : (IntKind.u64.wrap m0).tmod 549755813888 = m) (pm : 0 ≤ m) (lm : m < 549755813888) (g : gd x = true) (b : enB n x = true) (c : ¬ m < up (rg x)) (z : up (rg x) ≠ 0) :
    Calls Try.prog 5 #[.int .i64 n0, .float .f64 x, .int .i64 m0] w fun e w' => e = .returned (.bool true) ∧ Below w.heap.size w w' := by
  have A := awake_any w
  have E := ends_any n x w hx (by omega) (by omega)
  have G := good_any x w hx
  have W := within_any m x w hx
  have u : (up (rg x) : Int) ≤ 1099511627776 - n := by
    unfold enB at b
    rw [g, decide_eq_true (show 0 ≤ n by omega), decide_eq_true (show n ≤ 1099511627776 by omega)] at b
    exact of_decide_eq_true (show decide ((up (rg x) : Int) ≤ 1099511627776 - n) = true by simpa using b)
  rw [en_yes b, b] at E
  rw [wi_up m x hx (by omega) (by omega) g, decide_eq_false c] at W
  have V := within_any ((up (rg x) : Int) - 1) x w hx
  rw [wi_up _ x hx (by omega) (by omega) g, decide_eq_true (by omega)] at V
  rw [g] at G
  clear b g
  generalize up (rg x) = k at *
  obtain ⟨y, hy⟩ : ∃ y : Int, n + (k : Int) = y := ⟨_, rfl⟩
  rw [hy] at E
  have y1 : n < y := by omega
  have y2 : ¬ n + m < y := by omega
  have y3 : y ≤ 1099511627776 := by omega
  rw [show (k : Int) - 1 = y - 1 - n by omega] at V
  clear hy u c z
  go_enter Try.func5, Try.ntmps5
  go_wp2_with fail
  refine A.mono ?_
  rintro e w' ⟨rfl, rfl⟩
  go_wp2_with fail
  refine E.mono ?_
  rintro e w' ⟨rfl, rfl⟩
  go_wp2_with fail
  refine G.mono ?_
  rintro e w' ⟨rfl, rfl⟩
  go_wp2_with fail
  refine W.mono ?_
  rintro e w' ⟨rfl, rfl⟩
  go_wp2_with fail
  refine V.mono ?_
  rintro e w' ⟨rfl, rfl⟩
  clear A E G W V
  go_wp2
  go_ret
  refine ⟨?_, Below.refl _ _⟩
  show Ending.returned (.bool (!decide (n + m < y))) = _
  rw [decide_eq_false (by omega)]; rfl
theorem lt_of {a : Nat} (h : (Lit.float .f64 a).wf = true) : a < 18446744073709551616 := by
  simp only [Lit.wf, decide_eq_true_eq] at h
  exact h
theorem walk (n0 : Int) (x : Nat) (m0 : Int) (w0 : (Lit.int .i64 n0).wf = true) (w1 : (Lit.float .f64 x).wf = true) (w2 : (Lit.int .i64 m0).wf = true) (w : World) :
    Calls Try.prog 5 #[.int .i64 n0, .float .f64 x, .int .i64 m0] w fun e w' => e = .returned (.bool true) ∧ Below w.heap.size w w' := by
  obtain ⟨n, en, pn, ln⟩ := rem_u64 n0 549755813888 (by decide) (by decide)
  obtain ⟨m, em, pm, lm⟩ := rem_u64 m0 549755813888 (by decide) (by decide)
  have hx := lt_of w1
  cases g : gd x with
  | false => exact go_bad n0 x m0 w hx n m en pn ln em pm lm g
  | true =>
    cases b : enB n x with
    | false => exact go_never n0 x m0 w hx n m en pn ln em pm lm g b
    | true =>
      by_cases c : m < up (rg x)
      · exact go_in1 n0 x m0 w hx n m en pn ln em pm lm g b c (by omega)
      · by_cases z : up (rg x) = 0
        · exact go_out0 n0 x m0 w hx n m en pn ln em pm lm g b c z
        · exact go_out1 n0 x m0 w hx n m en pn ln em pm lm g b c z

theorem own : ownKnob Try.prog.godebug = none := by kernel_rfl

set_option maxRecDepth 100000 in
theorem lifted (os : Os) (started : os.Started) (H : Type) (enc : TypeId × Value → H) :
    ReturnsInHanded {} Try.checked os 5 .any (Rows.termEndsSpec.pre6 enc Try.prog Try.f5 Rows.termEndsRow.domain false) (Rows.termEndsSpec.post enc Try.prog Try.f5 false true false false) := by
  refine returnsInHanded_of_change (C := Try.checked) own started (by kernel_rfl) Try.func5
    (ChangeSpec.witness6 (enc := enc) (C := Try.checked) false ⟨#[], #[.int .i64 0, .float .f64 0, .int .i64 0], []⟩ 8 (by kernel_rfl) (by kernel_rfl) (by kernel_rfl) (by kernel_rfl)) ?_
  intro W base args ds gs before hval0 hW hcnd _
  have hval : ∀ (j : Nat) t v, Try.f5.params[j]? = some t → args[j]? = some v → Value.okWide Try.prog W .any base t v := hval0
  have hW' := hW
  obtain ⟨p, q, hA0, hV, rfl, hfz, hnd⟩ := hW
  have hA : DataW.TrodAll enc Try.prog W 0 (fun _ => true) true Try.f5.params.toList args.toList ds p := hA0
  rw [Try.params5] at hA hval
  obtain ⟨v0, vs0, d0, ds0, p0, q0, hargs, rfl, rfl, h0, r0⟩ := trodAll_cons hA
  obtain ⟨v1, vs1, d1, ds1, p1, q1, rfl, rfl, rfl, h1, r1⟩ := trodAll_cons r0
  obtain ⟨v2, vs2, d2, ds2, p2, q2, rfl, rfl, rfl, h2, r2⟩ := trodAll_cons r1
  obtain ⟨rfl, rfl, rfl⟩ := trodAll_nil r2
  obtain rfl : args = #[v0, v1, v2] := by cases args; simp_all
  obtain ⟨rfl, rfl⟩ := trodVars_none hV
  obtain ⟨a0, rfl, rfl, rfl, w0⟩ := open_int Try.underlying3 (hval 0 3 v0 rfl rfl) h0
  obtain ⟨a1, rfl, rfl, rfl, w1⟩ := open_float Try.underlying22 (hval 1 22 v1 rfl rfl) h1
  obtain ⟨a2, rfl, rfl, rfl, w2⟩ := open_int Try.underlying3 (hval 2 3 v2 rfl rfl) h2
  clear hA0 hval0
  simp only [List.append_nil] at hW'
  refine (walk a0 a1 a2 w0 w1 w2 W).mono fun e W' ⟨he, bel⟩ => ?_
  subst he
  exact ⟨_, rfl, _, _, _, [], _, [], hW', trodAll_mk1 (shut_bool Try.underlying4 _), (trodAll_cons_mk (shut_int Try.underlying3 w0) (trodAll_cons_mk (shut_float Try.underlying22 w1) (trodAll_cons_mk (shut_int Try.underlying3 w2) trodAll_mk0))), rfl, bel.frame _, fun h => by cases h⟩

theorem over : Rows.termEndsRow.holds Try.pinned (OpenSpec.ofChange Rows.termEndsSpec) :=
  OpenClaim.holds_of_wide 5 Try.f5 rfl rfl rfl rfl rfl rfl rfl ⟨rfl, rfl, rfl, rfl, rfl⟩ rfl rfl rfl rfl rfl (by kernel_rfl) Try.func5 (by kernel_rfl)
    (of_decide_eq_true (by kernel_rfl)) (by unfold Func.isWrapper; first | (rw [if_pos (by decide +kernel)]; kernel_rfl) | (rw [if_neg (by decide +kernel)]; exact ⟨rfl, rfl⟩))
    (fun os started H enc _ => lifted os started H enc)

theorem proved : Rows.TermEndsSaid :=
  over
#print axioms proved
end Go.Proofs.Ythocpkmlfkbiaaa.termEnds
