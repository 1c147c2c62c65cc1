/-
  RealOrders is true for every three numbers, all bits: the classes, the order, what is cleaned, clamped and mixed are the document's. No conditions.
-/
import Derived.Test.YtmfhokbognlhbaaRlMix
import Derived.ProofKit
import Derived.OpenShut
import Derived.ShutString
namespace Go.Proofs.Ytmfhokbognlhbaa.realOrders
open Go.ChangeShapes Go.WideShapes Go.ChangeAt Go.RowKit Go.PlainAid Go.Proofs.Ytmfhokbognlhbaa.Rl
open Go.ChangeMaps (open_string shut_string)
set_option linter.unusedVariables false

set_option maxHeartbeats 4000000 in
theorem go_tt (a b c : Nat) (w : World) (ha : a < 18446744073709551616) (hb : b < 18446744073709551616) (hc : c < 18446744073709551616) (h1 : lt a b = true) (h3 : eq a b = false) :
    Calls Try.prog 3 #[.float .f64 a, .float .f64 b, .float .f64 c] w fun e w' => e = .returned (.bool true) ∧ Below w.heap.size w w' := by
  go_enter Try.func3, Try.ntmps3
  go_wp2_with fail
  refine (awake_any _).mono ?_
  rintro e w1 ⟨rfl, hb1⟩
  have Ca := class_any a w1 ha
  have Ra := refclass_any a w1 ha
  have Lab := less_any a b w1 ha hb
  have Rab := refless_any a b w1 ha hb
  have Sab := same_any a b w1 ha hb
  rw [h1] at Lab Rab
  rw [h3] at Sab
  have Na := clean_any a w1 ha
  have Ma := refclean_any a w1 ha
  have Al := alike_any (cl a) (cl a) w1 (cl_lt a ha) (cl_lt a ha)
  have Cl := clamp_any a b c w1 ha hb hc
  have Rl := refclamp_any a b c w1 ha hb hc
  have Am := alike_any (clamp a b c) (clamp a b c) w1 (clamp_lt a b c ha hb hc) (clamp_lt a b c ha hb hc)
  have X1 := mix_any a b c w1 ha hb hc
  have X2 := fun w => refmix_any a b c w ha hb hc
  have X3 := fun w => alike_any (mixR a b c) (mixR a b c) w (mixR_lt a b c ha hb) (mixR_lt a b c ha hb)
  rw [ali_self] at Al Am
  simp only [ali_self] at X3
  generalize cls (place a) = k at *
  generalize cl a = z at *
  generalize clamp a b c = y at *
  generalize mixR a b c = v at *
  have bk : (k != k) = false := by simp
  clear ha hb hc h1 h3
  go_wp2_with fail
  refine (Ca).mono ?_
  rintro e w' ⟨rfl, rfl⟩
  go_wp2_with fail
  refine (Ra).mono ?_
  rintro e w' ⟨rfl, rfl⟩
  go_wp2_with fail
  refine (Lab).mono ?_
  rintro e w' ⟨rfl, rfl⟩
  go_wp2_with fail
  refine (Rab).mono ?_
  rintro e w' ⟨rfl, rfl⟩
  go_wp2_with fail
  refine (Sab).mono ?_
  rintro e w' ⟨rfl, rfl⟩
  go_wp2_with fail
  refine (Rab).mono ?_
  rintro e w' ⟨rfl, rfl⟩
  go_wp2_with fail
  refine (Na).mono ?_
  rintro e w' ⟨rfl, rfl⟩
  go_wp2_with fail
  refine (Ma).mono ?_
  rintro e w' ⟨rfl, rfl⟩
  go_wp2_with fail
  refine (Al).mono ?_
  rintro e w' ⟨rfl, rfl⟩
  go_wp2_with fail
  refine (Cl).mono ?_
  rintro e w' ⟨rfl, rfl⟩
  go_wp2_with fail
  refine (Rl).mono ?_
  rintro e w' ⟨rfl, rfl⟩
  go_wp2_with fail
  refine (Am).mono ?_
  rintro e w' ⟨rfl, rfl⟩
  go_wp2_with fail
  refine X1.mono ?_
  rintro e w2 ⟨rfl, hb2⟩
  go_wp2_with fail
  refine (X2 w2).mono ?_
  rintro e w3 ⟨rfl, hb3⟩
  go_wp2_with fail
  refine (X3 w3).mono ?_
  rintro e w' ⟨rfl, rfl⟩
  clear Ca Ra Lab Rab Sab Na Ma Al Cl Rl Am X1 X2 X3
  go_wp2
  go_ret
  exact ⟨rfl, hb1.trans ((hb2.mono hb1.size).trans (hb3.mono (Nat.le_trans hb1.size hb2.size)))⟩

set_option maxHeartbeats 4000000 in
theorem go_ft (a b c : Nat) (w : World) (ha : a < 18446744073709551616) (hb : b < 18446744073709551616) (hc : c < 18446744073709551616) (h1 : lt a b = false) (h2 : lt b a = true) (h3 : eq a b = false) :
    Calls Try.prog 3 #[.float .f64 a, .float .f64 b, .float .f64 c] w fun e w' => e = .returned (.bool true) ∧ Below w.heap.size w w' := by
  go_enter Try.func3, Try.ntmps3
  go_wp2_with fail
  refine (awake_any _).mono ?_
  rintro e w1 ⟨rfl, hb1⟩
  have Ca := class_any a w1 ha
  have Ra := refclass_any a w1 ha
  have Lab := less_any a b w1 ha hb
  have Rab := refless_any a b w1 ha hb
  have Sab := same_any a b w1 ha hb
  rw [h1] at Lab Rab
  rw [h3] at Sab
  have Rba := refless_any b a w1 hb ha
  rw [h2] at Rba
  have Na := clean_any a w1 ha
  have Ma := refclean_any a w1 ha
  have Al := alike_any (cl a) (cl a) w1 (cl_lt a ha) (cl_lt a ha)
  have Cl := clamp_any a b c w1 ha hb hc
  have Rl := refclamp_any a b c w1 ha hb hc
  have Am := alike_any (clamp a b c) (clamp a b c) w1 (clamp_lt a b c ha hb hc) (clamp_lt a b c ha hb hc)
  have X1 := mix_any a b c w1 ha hb hc
  have X2 := fun w => refmix_any a b c w ha hb hc
  have X3 := fun w => alike_any (mixR a b c) (mixR a b c) w (mixR_lt a b c ha hb) (mixR_lt a b c ha hb)
  rw [ali_self] at Al Am
  simp only [ali_self] at X3
  generalize cls (place a) = k at *
  generalize cl a = z at *
  generalize clamp a b c = y at *
  generalize mixR a b c = v at *
  have bk : (k != k) = false := by simp
  clear ha hb hc h1 h3 h2
  go_wp2_with fail
  refine (Ca).mono ?_
  rintro e w' ⟨rfl, rfl⟩
  go_wp2_with fail
  refine (Ra).mono ?_
  rintro e w' ⟨rfl, rfl⟩
  go_wp2_with fail
  refine (Lab).mono ?_
  rintro e w' ⟨rfl, rfl⟩
  go_wp2_with fail
  refine (Rab).mono ?_
  rintro e w' ⟨rfl, rfl⟩
  go_wp2_with fail
  refine (Sab).mono ?_
  rintro e w' ⟨rfl, rfl⟩
  go_wp2_with fail
  refine (Rab).mono ?_
  rintro e w' ⟨rfl, rfl⟩
  go_wp2_with fail
  refine (Rba).mono ?_
  rintro e w' ⟨rfl, rfl⟩
  go_wp2_with fail
  refine (Na).mono ?_
  rintro e w' ⟨rfl, rfl⟩
  go_wp2_with fail
  refine (Ma).mono ?_
  rintro e w' ⟨rfl, rfl⟩
  go_wp2_with fail
  refine (Al).mono ?_
  rintro e w' ⟨rfl, rfl⟩
  go_wp2_with fail
  refine (Cl).mono ?_
  rintro e w' ⟨rfl, rfl⟩
  go_wp2_with fail
  refine (Rl).mono ?_
  rintro e w' ⟨rfl, rfl⟩
  go_wp2_with fail
  refine (Am).mono ?_
  rintro e w' ⟨rfl, rfl⟩
  go_wp2_with fail
  refine X1.mono ?_
  rintro e w2 ⟨rfl, hb2⟩
  go_wp2_with fail
  refine (X2 w2).mono ?_
  rintro e w3 ⟨rfl, hb3⟩
  go_wp2_with fail
  refine (X3 w3).mono ?_
  rintro e w' ⟨rfl, rfl⟩
  clear Ca Ra Lab Rab Sab Na Ma Al Cl Rl Am X1 X2 X3
  go_wp2
  go_ret
  exact ⟨rfl, hb1.trans ((hb2.mono hb1.size).trans (hb3.mono (Nat.le_trans hb1.size hb2.size)))⟩

set_option maxHeartbeats 4000000 in
theorem go_ff (a b c : Nat) (w : World) (ha : a < 18446744073709551616) (hb : b < 18446744073709551616) (hc : c < 18446744073709551616) (h1 : lt a b = false) (h2 : lt b a = false) (h3 : eq a b = true) :
    Calls Try.prog 3 #[.float .f64 a, .float .f64 b, .float .f64 c] w fun e w' => e = .returned (.bool true) ∧ Below w.heap.size w w' := by
  go_enter Try.func3, Try.ntmps3
  go_wp2_with fail
  refine (awake_any _).mono ?_
  rintro e w1 ⟨rfl, hb1⟩
  have Ca := class_any a w1 ha
  have Ra := refclass_any a w1 ha
  have Lab := less_any a b w1 ha hb
  have Rab := refless_any a b w1 ha hb
  have Sab := same_any a b w1 ha hb
  rw [h1] at Lab Rab
  rw [h3] at Sab
  have Rba := refless_any b a w1 hb ha
  rw [h2] at Rba
  have Na := clean_any a w1 ha
  have Ma := refclean_any a w1 ha
  have Al := alike_any (cl a) (cl a) w1 (cl_lt a ha) (cl_lt a ha)
  have Cl := clamp_any a b c w1 ha hb hc
  have Rl := refclamp_any a b c w1 ha hb hc
  have Am := alike_any (clamp a b c) (clamp a b c) w1 (clamp_lt a b c ha hb hc) (clamp_lt a b c ha hb hc)
  have X1 := mix_any a b c w1 ha hb hc
  have X2 := fun w => refmix_any a b c w ha hb hc
  have X3 := fun w => alike_any (mixR a b c) (mixR a b c) w (mixR_lt a b c ha hb) (mixR_lt a b c ha hb)
  rw [ali_self] at Al Am
  simp only [ali_self] at X3
  generalize cls (place a) = k at *
  generalize cl a = z at *
  generalize clamp a b c = y at *
  generalize mixR a b c = v at *
  have bk : (k != k) = false := by simp
  clear ha hb hc h1 h3 h2
  go_wp2_with fail
  refine (Ca).mono ?_
  rintro e w' ⟨rfl, rfl⟩
  go_wp2_with fail
  refine (Ra).mono ?_
  rintro e w' ⟨rfl, rfl⟩
  go_wp2_with fail
  refine (Lab).mono ?_
  rintro e w' ⟨rfl, rfl⟩
  go_wp2_with fail
  refine (Rab).mono ?_
  rintro e w' ⟨rfl, rfl⟩
  go_wp2_with fail
  refine (Sab).mono ?_
  rintro e w' ⟨rfl, rfl⟩
  go_wp2_with fail
  refine (Rab).mono ?_
  rintro e w' ⟨rfl, rfl⟩
  go_wp2_with fail
  refine (Rba).mono ?_
  rintro e w' ⟨rfl, rfl⟩
  go_wp2_with fail
  refine (Na).mono ?_
  rintro e w' ⟨rfl, rfl⟩
  go_wp2_with fail
  refine (Ma).mono ?_
  rintro e w' ⟨rfl, rfl⟩
  go_wp2_with fail
  refine (Al).mono ?_
  rintro e w' ⟨rfl, rfl⟩
  go_wp2_with fail
  refine (Cl).mono ?_
  rintro e w' ⟨rfl, rfl⟩
  go_wp2_with fail
  refine (Rl).mono ?_
  rintro e w' ⟨rfl, rfl⟩
  go_wp2_with fail
  refine (Am).mono ?_
  rintro e w' ⟨rfl, rfl⟩
  go_wp2_with fail
  refine X1.mono ?_
  rintro e w2 ⟨rfl, hb2⟩
  go_wp2_with fail
  refine (X2 w2).mono ?_
  rintro e w3 ⟨rfl, hb3⟩
  go_wp2_with fail
  refine (X3 w3).mono ?_
  rintro e w' ⟨rfl, rfl⟩
  clear Ca Ra Lab Rab Sab Na Ma Al Cl Rl Am X1 X2 X3
  go_wp2
  go_ret
  exact ⟨rfl, hb1.trans ((hb2.mono hb1.size).trans (hb3.mono (Nat.le_trans hb1.size hb2.size)))⟩

theorem lt_of {a : Nat} (h : (Lit.float .f64 a).wf = true) : a < 18446744073709551616 := by
  simp only [Lit.wf, decide_eq_true_eq] at h
  exact h
theorem walk (a b c : Nat) (wa : (Lit.float .f64 a).wf = true) (wb : (Lit.float .f64 b).wf = true) (wc : (Lit.float .f64 c).wf = true) (w : World) :
    Calls Try.prog 3 #[.float .f64 a, .float .f64 b, .float .f64 c] w fun e w' => e = .returned (.bool true) ∧ Below w.heap.size w w' := by
  have ha := lt_of wa
  have hb := lt_of wb
  have hc := lt_of wc
  have e := eq_lt a b
  cases h1 : lt a b
  · cases h2 : lt b a
    · exact go_ff a b c w ha hb hc h1 h2 (by rw [e, h1, h2]; rfl)
    · exact go_ft a b c w ha hb hc h1 h2 (by rw [e, h1, h2]; rfl)
  · exact go_tt a b c w ha hb hc h1 (by rw [e, h1]; rfl)

theorem own : ownKnob Try.prog.godebug = none := by kernel_rfl

set_option maxRecDepth 100000 in
theorem lifted (os : Os) (started : os.Started) (H : Type) (enc : TypeId × Value → H) :
    ReturnsInHanded {} Try.checked os 3 .any (Rows.realOrdersSpec.pre6 enc Try.prog Try.f3 Rows.realOrdersRow.domain false) (Rows.realOrdersSpec.post enc Try.prog Try.f3 false true false false) := by
  refine returnsInHanded_of_change (C := Try.checked) own started (by kernel_rfl) Try.func3
    (ChangeSpec.witness6 (enc := enc) (C := Try.checked) false ⟨#[], #[.float .f64 0, .float .f64 0, .float .f64 0], []⟩ 8 (by kernel_rfl) (by kernel_rfl) (by kernel_rfl) (by kernel_rfl)) ?_
  intro W base args ds gs before hval0 hW hcnd _
  have hval : ∀ (j : Nat) t v, Try.f3.params[j]? = some t → args[j]? = some v → Value.okWide Try.prog W .any base t v := hval0
  have hW' := hW
  obtain ⟨p, q, hA0, hV, rfl, hfz, hnd⟩ := hW
  have hA : DataW.TrodAll enc Try.prog W 0 (fun _ => true) true Try.f3.params.toList args.toList ds p := hA0
  rw [Try.params3] at hA hval
  obtain ⟨v0, vs0, d0, ds0, p0, q0, hargs, rfl, rfl, h0, r0⟩ := trodAll_cons hA
  obtain ⟨v1, vs1, d1, ds1, p1, q1, rfl, rfl, rfl, h1, r1⟩ := trodAll_cons r0
  obtain ⟨v2, vs2, d2, ds2, p2, q2, rfl, rfl, rfl, h2, r2⟩ := trodAll_cons r1
  obtain ⟨rfl, rfl, rfl⟩ := trodAll_nil r2
  obtain rfl : args = #[v0, v1, v2] := by cases args; simp_all
  obtain ⟨rfl, rfl⟩ := trodVars_none hV
  obtain ⟨a0, rfl, rfl, rfl, w0⟩ := open_float Try.underlying22 (hval 0 22 v0 rfl rfl) h0
  obtain ⟨a1, rfl, rfl, rfl, w1⟩ := open_float Try.underlying22 (hval 1 22 v1 rfl rfl) h1
  obtain ⟨a2, rfl, rfl, rfl, w2⟩ := open_float Try.underlying22 (hval 2 22 v2 rfl rfl) h2
  clear hA0 hval0
  simp only [List.append_nil] at hW'
  refine (walk a0 a1 a2 w0 w1 w2 W).mono fun e W' ⟨he, bel⟩ => ?_
  subst he
  exact ⟨_, rfl, _, _, _, [], _, [], hW', trodAll_mk1 (shut_bool Try.underlying4 _), (trodAll_cons_mk (shut_float Try.underlying22 w0) (trodAll_cons_mk (shut_float Try.underlying22 w1) (trodAll_cons_mk (shut_float Try.underlying22 w2) trodAll_mk0))), rfl, bel.frame _, fun h => by cases h⟩

theorem over : Rows.realOrdersRow.holds Try.pinned (OpenSpec.ofChange Rows.realOrdersSpec) :=
  OpenClaim.holds_of_wide 3 Try.f3 rfl rfl rfl rfl rfl rfl rfl ⟨rfl, rfl, rfl, rfl, rfl⟩ rfl rfl rfl rfl rfl (by kernel_rfl) Try.func3 (by kernel_rfl)
    (of_decide_eq_true (by kernel_rfl)) (by unfold Func.isWrapper; first | (rw [if_pos (by decide +kernel)]; kernel_rfl) | (rw [if_neg (by decide +kernel)]; exact ⟨rfl, rfl⟩))
    (fun os started H enc _ => lifted os started H enc)

theorem proved : Rows.RealOrdersSaid :=
  over
#print axioms proved
end Go.Proofs.Ytmfhokbognlhbaa.realOrders
