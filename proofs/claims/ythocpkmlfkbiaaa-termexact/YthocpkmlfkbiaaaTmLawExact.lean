/-
  TermExact is true for every age, span and try, all bits: what is within, when it ends, how long is waited and what is left are the document's. No conditions.
-/
import Derived.Test.YthocpkmlfkbiaaaTmAwake
import Derived.PlainAid
import Derived.Carry
import Derived.ProofKit
import Derived.OpenShut
import Derived.ShutString
namespace Go.Proofs.Ythocpkmlfkbiaaa.termExact
open Go.ChangeShapes Go.WideShapes Go.ChangeAt Go.RowKit Go.PlainAid Go.Proofs.Ythocpkmlfkbiaaa.Rl Go.Proofs.Ythocpkmlfkbiaaa.Tm
open Go.ChangeMaps (open_string shut_string)
set_option linter.unusedVariables false

theorem gr_lt (n : Int) (x : Nat) (hx : x < 18446744073709551616) : gr n x < 18446744073709551616 := by
  have := gr_le n x hx
  omega
set_option maxHeartbeats 4000000 in
theorem go (n : Int) (x : Nat) (t : Int) (w : World) (hx : x < 18446744073709551616) (n1 : -9223372036854775808 ≤ n) (n2 : n ≤ 9223372036854775807) (t1 : -9223372036854775808 ≤ t) (t2 : t ≤ 9223372036854775807) :
    Calls Try.prog 3 #[.int .i64 n, .float .f64 x, .int .i64 t] w fun e w' => e = .returned (.bool true) ∧ Below w.heap.size w w' := by
  have A := awake_any w
  have E := ends_any n x w hx n1 n2
  have E' := refends_any n x w hx n1 n2
  have G := good_any x w hx
  have G' := refgood_any x w hx
  have W := within_any n x w hx
  have W' := refwithin_any n x w hx
  have T := wait_any x t w hx t1 t2
  have T' := refwait_any x t w hx t1 t2
  have R := grade_any n x w hx
  have R' := refgrade_any n x w hx
  have L := alike_any (gr n x) (gr n x) w (gr_lt n x hx) (gr_lt n x hx)
  rw [show ali (gr n x) (gr n x) = true by unfold ali; simp] at L
  generalize enN n x = v0 at *
  generalize enB n x = v1 at *
  generalize gd x = v2 at *
  generalize wi n x = v3 at *
  generalize wt x t = v4 at *
  generalize gr n x = v5 at *
  go_enter Try.func3, Try.ntmps3
  go_wp2_with fail
  refine A.mono ?_
  rintro e w' ⟨rfl, rfl⟩
  go_wp2_with fail
  refine E.mono ?_
  rintro e w' ⟨rfl, rfl⟩
  go_wp2_with fail
  refine E'.mono ?_
  rintro e w' ⟨rfl, rfl⟩
  go_wp2_with fail
  refine G.mono ?_
  rintro e w' ⟨rfl, rfl⟩
  go_wp2_with fail
  refine G'.mono ?_
  rintro e w' ⟨rfl, rfl⟩
  go_wp2_with fail
  refine W.mono ?_
  rintro e w' ⟨rfl, rfl⟩
  go_wp2_with fail
  refine W'.mono ?_
  rintro e w' ⟨rfl, rfl⟩
  go_wp2_with fail
  refine T.mono ?_
  rintro e w' ⟨rfl, rfl⟩
  go_wp2_with fail
  refine T'.mono ?_
  rintro e w' ⟨rfl, rfl⟩
  go_wp2_with fail
  refine R.mono ?_
  rintro e w' ⟨rfl, rfl⟩
  go_wp2_with fail
  refine R'.mono ?_
  rintro e w' ⟨rfl, rfl⟩
  go_wp2_with fail
  refine L.mono ?_
  rintro e w' ⟨rfl, rfl⟩
  clear A E E' G G' W W' T T' R R' L
  go_wp2
  all_goals go_ret
  all_goals exact ⟨rfl, Below.refl _ _⟩
theorem lt_of {a : Nat} (h : (Lit.float .f64 a).wf = true) : a < 18446744073709551616 := by
  simp only [Lit.wf, decide_eq_true_eq] at h
  exact h
theorem int_of {a : Int} (h : (Lit.int .i64 a).wf = true) : -9223372036854775808 ≤ a ∧ a ≤ 9223372036854775807 := by
  simp [Lit.wf, IntKind.min, IntKind.max, IntKind.signed, IntKind.bits] at h
  omega
theorem walk (n : Int) (x : Nat) (t : Int) (w0 : (Lit.int .i64 n).wf = true) (w1 : (Lit.float .f64 x).wf = true) (w2 : (Lit.int .i64 t).wf = true) (w : World) :
    Calls Try.prog 3 #[.int .i64 n, .float .f64 x, .int .i64 t] w fun e w' => e = .returned (.bool true) ∧ Below w.heap.size w w' :=
  go n x t w (lt_of w1) (int_of w0).1 (int_of w0).2 (int_of w2).1 (int_of w2).2

theorem own : ownKnob Try.prog.godebug = none := by kernel_rfl

set_option maxRecDepth 100000 in
theorem lifted (os : Os) (started : os.Started) (H : Type) (enc : TypeId × Value → H) :
    ReturnsInHanded {} Try.checked os 3 .any (Rows.termExactSpec.pre6 enc Try.prog Try.f3 Rows.termExactRow.domain false) (Rows.termExactSpec.post enc Try.prog Try.f3 false true false false) := by
  refine returnsInHanded_of_change (C := Try.checked) own started (by kernel_rfl) Try.func3
    (ChangeSpec.witness6 (enc := enc) (C := Try.checked) false ⟨#[], #[.int .i64 0, .float .f64 0, .int .i64 0], []⟩ 8 (by kernel_rfl) (by kernel_rfl) (by kernel_rfl) (by kernel_rfl)) ?_
  intro W base args ds gs before hval0 hW hcnd _
  have hval : ∀ (j : Nat) t v, Try.f3.params[j]? = some t → args[j]? = some v → Value.okWide Try.prog W .any base t v := hval0
  have hW' := hW
  obtain ⟨p, q, hA0, hV, rfl, hfz, hnd⟩ := hW
  have hA : DataW.TrodAll enc Try.prog W 0 (fun _ => true) true Try.f3.params.toList args.toList ds p := hA0
  rw [Try.params3] at hA hval
  obtain ⟨v0, vs0, d0, ds0, p0, q0, hargs, rfl, rfl, h0, r0⟩ := trodAll_cons hA
  obtain ⟨v1, vs1, d1, ds1, p1, q1, rfl, rfl, rfl, h1, r1⟩ := trodAll_cons r0
  obtain ⟨v2, vs2, d2, ds2, p2, q2, rfl, rfl, rfl, h2, r2⟩ := trodAll_cons r1
  obtain ⟨rfl, rfl, rfl⟩ := trodAll_nil r2
  obtain rfl : args = #[v0, v1, v2] := by cases args; simp_all
  obtain ⟨rfl, rfl⟩ := trodVars_none hV
  obtain ⟨a0, rfl, rfl, rfl, w0⟩ := open_int Try.underlying3 (hval 0 3 v0 rfl rfl) h0
  obtain ⟨a1, rfl, rfl, rfl, w1⟩ := open_float Try.underlying22 (hval 1 22 v1 rfl rfl) h1
  obtain ⟨a2, rfl, rfl, rfl, w2⟩ := open_int Try.underlying3 (hval 2 3 v2 rfl rfl) h2
  clear hA0 hval0
  simp only [List.append_nil] at hW'
  refine (walk a0 a1 a2 w0 w1 w2 W).mono fun e W' ⟨he, bel⟩ => ?_
  subst he
  exact ⟨_, rfl, _, _, _, [], _, [], hW', trodAll_mk1 (shut_bool Try.underlying4 _), (trodAll_cons_mk (shut_int Try.underlying3 w0) (trodAll_cons_mk (shut_float Try.underlying22 w1) (trodAll_cons_mk (shut_int Try.underlying3 w2) trodAll_mk0))), rfl, bel.frame _, fun h => by cases h⟩

theorem over : Rows.termExactRow.holds Try.pinned (OpenSpec.ofChange Rows.termExactSpec) :=
  OpenClaim.holds_of_wide 3 Try.f3 rfl rfl rfl rfl rfl rfl rfl ⟨rfl, rfl, rfl, rfl, rfl⟩ rfl rfl rfl rfl rfl (by kernel_rfl) Try.func3 (by kernel_rfl)
    (of_decide_eq_true (by kernel_rfl)) (by unfold Func.isWrapper; first | (rw [if_pos (by decide +kernel)]; kernel_rfl) | (rw [if_neg (by decide +kernel)]; exact ⟨rfl, rfl⟩))
    (fun os started H enc _ => lifted os started H enc)

theorem proved : Rows.TermExactSaid :=
  over
#print axioms proved
end Go.Proofs.Ythocpkmlfkbiaaa.termExact
