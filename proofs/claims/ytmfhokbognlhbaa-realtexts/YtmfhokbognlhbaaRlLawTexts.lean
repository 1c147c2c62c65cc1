/-
  RealTexts is true for every number, text and two whole numbers: what is written and read, each ratio and weight, are the document's. No conditions.
-/
import Derived.Test.YtmfhokbognlhbaaRlParse
import Derived.Test.YtmfhokbognlhbaaRlMix
import Derived.ProofKit
import Derived.OpenShut
import Derived.ShutString
namespace Go.Proofs.Ytmfhokbognlhbaa.realTexts
open Go.ChangeShapes Go.WideShapes Go.ChangeAt Go.RowKit Go.PlainAid Go.Proofs.Ytmfhokbognlhbaa.Rl
open Go.ChangeMaps (open_string shut_string)
set_option linter.unusedVariables false

theorem lt_of {a : Nat} (h : (Lit.float .f64 a).wf = true) : a < 18446744073709551616 := by
  simp only [Lit.wf, decide_eq_true_eq] at h
  exact h
theorem bounds {n : Int} (h : (Lit.int .i64 n).wf = true) : -9223372036854775808 ≤ n ∧ n ≤ 9223372036854775807 := by
  simp only [Lit.wf, Bool.and_eq_true, decide_eq_true_eq] at h
  exact h
theorem parse_one (s : ByteArray) (hs : s.size ≤ 60) : ∃ (p : Nat) (k : Int), p < 18446744073709551616 ∧ (∀ w, Calls Try.prog 22 #[.string s] w fun e w' => e = .returned (.tuple #[.float .f64 p, .int .i64 k]) ∧ Below w.heap.size w w') ∧ (∀ w, Calls Try.prog 23 #[.string s] w fun e w' => e = .returned (.tuple #[.float .f64 p, .int .i64 k]) ∧ Below w.heap.size w w') := by
  have hl : pv s < 18446744073709551616 := by
    have := xv_lt s
    unfold pv; (repeat' split) <;> omega
  by_cases h : PForm s
  · refine ⟨pv s, 0, hl, fun w => ?_, fun w => ?_⟩
    · exact (parse_any s w (by omega)).mono fun e w' ⟨q, hb⟩ => ⟨q.elim (fun x => x.2) (fun x => absurd h x.1), hb⟩
    · exact (refparse_any s w (by omega)).mono fun e w' ⟨q, hb⟩ => ⟨q.elim (fun x => x.2) (fun x => absurd h x.1), hb⟩
  · refine ⟨0, 3, by decide, fun w => ?_, fun w => ?_⟩
    · exact (parse_any s w (by omega)).mono fun e w' ⟨q, hb⟩ => ⟨q.elim (fun x => absurd x.1 h) (fun x => x.2), hb⟩
    · exact (refparse_any s w (by omega)).mono fun e w' ⟨q, hb⟩ => ⟨q.elim (fun x => absurd x.1 h) (fun x => x.2), hb⟩
theorem quality_one (s : ByteArray) (hs : s.size ≤ 60) : ∃ (p : Nat) (k : Int), p < 18446744073709551616 ∧ (∀ w, Calls Try.prog 24 #[.string s] w fun e w' => e = .returned (.tuple #[.float .f64 p, .int .i64 k]) ∧ Below w.heap.size w w') ∧ (∀ w, Calls Try.prog 25 #[.string s] w fun e w' => e = .returned (.tuple #[.float .f64 p, .int .i64 k]) ∧ Below w.heap.size w w') := by
  by_cases h : QForm s
  · refine ⟨_, 0, (weight_fine s h).2.1, fun w => ?_, fun w => ?_⟩
    · exact (quality_any s w (by omega)).mono fun e w' ⟨q, hb⟩ => ⟨q.elim (fun x => x.2) (fun x => absurd h x.1), hb⟩
    · exact (refquality_any s w (by omega)).mono fun e w' ⟨q, hb⟩ => ⟨q.elim (fun x => x.2) (fun x => absurd h x.1), hb⟩
  · refine ⟨0, 3, by decide, fun w => ?_, fun w => ?_⟩
    · exact (quality_any s w (by omega)).mono fun e w' ⟨q, hb⟩ => ⟨q.elim (fun x => absurd x.1 h) (fun x => x.2), hb⟩
    · exact (refquality_any s w (by omega)).mono fun e w' ⟨q, hb⟩ => ⟨q.elim (fun x => absurd x.1 h) (fun x => x.2), hb⟩
theorem alike_one (x : Nat) (hx : x < 18446744073709551616) (w : World) : Calls Try.prog 15 #[.float .f64 x, .float .f64 x] w fun e w' => e = .returned (.bool true) ∧ w = w' := by
  have := alike_any x x w hx hx
  rw [ali_self] at this
  exact this

theorem long (x : Nat) (s : ByteArray) (a b : Int) (w : World) (hs : s.size ≤ maxLen) (h : 60 < s.size) :
    Calls Try.prog 4 #[.float .f64 x, .string s, .int .i64 a, .int .i64 b] w fun e w' => e = .returned (.bool true) ∧ Below w.heap.size w w' := by
  have hs' : (s.size : Int) ≤ 9223372036854775807 := by unfold maxLen at hs; omega
  go_enter Try.func4, Try.ntmps4
  go_wp2_with fail
  refine (awake_any _).mono ?_
  rintro e w1 ⟨rfl, hb1⟩
  go_wp2
  all_goals go_ret
  all_goals exact ⟨rfl, hb1⟩
set_option maxHeartbeats 4000000 in
theorem short (x : Nat) (s : ByteArray) (a b : Int) (w : World) (hs : s.size ≤ 60) (hx : x < 18446744073709551616) (a1 : -9223372036854775808 ≤ a) (a2 : a ≤ 9223372036854775807) (b1 : -9223372036854775808 ≤ b) (b2 : b ≤ 9223372036854775807) :
    Calls Try.prog 4 #[.float .f64 x, .string s, .int .i64 a, .int .i64 b] w fun e w' => e = .returned (.bool true) ∧ Below w.heap.size w w' := by
  obtain ⟨p, k, pl, P1, P2⟩ := parse_one s hs
  obtain ⟨u, g, ul, Q1, Q2⟩ := quality_one s hs
  have T1 := fun w => print_any x w hx
  have T2 := fun w => refprint_any x w hx
  have R1 := fun w => ratio_any a b w a1 a2 b1 b2
  have R2 := fun w => refratio_any a b w a1 a2 b1 b2
  have Ap := alike_one p pl
  have Au := alike_one u ul
  have Ar := alike_one (rat a b) (rat_lt a b a1 a2 b1 b2)
  generalize prt x = t at *
  generalize rat a b = r at *
  have e1 : (t.toList == t.toList) = true := by simp
  have e2 : (k == k) = true := by simp
  have e3 : (g == g) = true := by simp
  clear pl ul a1 a2 b1 b2
  go_enter Try.func4, Try.ntmps4
  go_wp2_with fail
  refine (awake_any _).mono ?_
  rintro e w1 ⟨rfl, hb1⟩
  go_wp2_with fail
  refine (P1 _).mono ?_
  rintro e w2 ⟨rfl, hb⟩
  replace hb := hb1.trans (hb.mono hb1.size)
  clear hb1
  have hb1 := hb
  clear hb
  go_wp2_with fail
  refine (P2 _).mono ?_
  rintro e w3 ⟨rfl, hb⟩
  replace hb := hb1.trans (hb.mono hb1.size)
  clear hb1
  have hb1 := hb
  clear hb
  go_wp2_with fail
  refine (Q1 _).mono ?_
  rintro e w4 ⟨rfl, hb⟩
  replace hb := hb1.trans (hb.mono hb1.size)
  clear hb1
  have hb1 := hb
  clear hb
  go_wp2_with fail
  refine (Q2 _).mono ?_
  rintro e w5 ⟨rfl, hb⟩
  replace hb := hb1.trans (hb.mono hb1.size)
  clear hb1
  have hb1 := hb
  clear hb
  go_wp2_with fail
  refine (T1 _).mono ?_
  rintro e w6 ⟨rfl, hb⟩
  replace hb := hb1.trans (hb.mono hb1.size)
  clear hb1
  have hb1 := hb
  clear hb
  go_wp2_with fail
  refine (T2 _).mono ?_
  rintro e w7 ⟨rfl, hb⟩
  replace hb := hb1.trans (hb.mono hb1.size)
  clear hb1
  have hb1 := hb
  clear hb
  go_wp2_with fail
  refine (Ap _).mono ?_
  rintro e w' ⟨rfl, rfl⟩
  go_wp2_with fail
  refine (Au _).mono ?_
  rintro e w' ⟨rfl, rfl⟩
  go_wp2_with fail
  refine (R1 _).mono ?_
  rintro e w' ⟨rfl, rfl⟩
  go_wp2_with fail
  refine (R2 _).mono ?_
  rintro e w' ⟨rfl, rfl⟩
  go_wp2_with fail
  refine (Ar _).mono ?_
  rintro e w' ⟨rfl, rfl⟩
  clear P1 P2 Q1 Q2 T1 T2 Ap Au R1 R2 Ar
  go_wp2
  go_ret
  exact ⟨rfl, hb1⟩
theorem walk (x : Nat) (s : ByteArray) (a b : Int) (wx : (Lit.float .f64 x).wf = true) (ws : s.size ≤ maxLen) (wa : (Lit.int .i64 a).wf = true) (wb : (Lit.int .i64 b).wf = true) (w : World) :
    Calls Try.prog 4 #[.float .f64 x, .string s, .int .i64 a, .int .i64 b] w fun e w' => e = .returned (.bool true) ∧ Below w.heap.size w w' := by
  by_cases h : 60 < s.size
  · exact long x s a b w ws h
  · exact short x s a b w (by omega) (lt_of wx) (bounds wa).1 (bounds wa).2 (bounds wb).1 (bounds wb).2

theorem own : ownKnob Try.prog.godebug = none := by kernel_rfl

set_option maxRecDepth 100000 in
theorem lifted (os : Os) (started : os.Started) (H : Type) (enc : TypeId × Value → H) :
    ReturnsInHanded {} Try.checked os 4 .any (Rows.realTextsSpec.pre6 enc Try.prog Try.f4 Rows.realTextsRow.domain false) (Rows.realTextsSpec.post enc Try.prog Try.f4 false true false false) := by
  refine returnsInHanded_of_change (C := Try.checked) own started (by kernel_rfl) Try.func4
    (ChangeSpec.witness6 (enc := enc) (C := Try.checked) false ⟨#[], #[.float .f64 0, .string ByteArray.empty, .int .i64 0, .int .i64 0], []⟩ 8 (by kernel_rfl) (by kernel_rfl) (by kernel_rfl) (by kernel_rfl)) ?_
  intro W base args ds gs before hval0 hW hcnd _
  have hval : ∀ (j : Nat) t v, Try.f4.params[j]? = some t → args[j]? = some v → Value.okWide Try.prog W .any base t v := hval0
  have hW' := hW
  obtain ⟨p, q, hA0, hV, rfl, hfz, hnd⟩ := hW
  have hA : DataW.TrodAll enc Try.prog W 0 (fun _ => true) true Try.f4.params.toList args.toList ds p := hA0
  rw [Try.params4] at hA hval
  obtain ⟨v0, vs0, d0, ds0, p0, q0, hargs, rfl, rfl, h0, r0⟩ := trodAll_cons hA
  obtain ⟨v1, vs1, d1, ds1, p1, q1, rfl, rfl, rfl, h1, r1⟩ := trodAll_cons r0
  obtain ⟨v2, vs2, d2, ds2, p2, q2, rfl, rfl, rfl, h2, r2⟩ := trodAll_cons r1
  obtain ⟨v3, vs3, d3, ds3, p3, q3, rfl, rfl, rfl, h3, r3⟩ := trodAll_cons r2
  obtain ⟨rfl, rfl, rfl⟩ := trodAll_nil r3
  obtain rfl : args = #[v0, v1, v2, v3] := by cases args; simp_all
  obtain ⟨rfl, rfl⟩ := trodVars_none hV
  obtain ⟨a0, rfl, rfl, rfl, w0⟩ := open_float Try.underlying22 (hval 0 22 v0 rfl rfl) h0
  obtain ⟨a1, rfl, rfl, rfl, w1⟩ := open_string Try.underlying9 (hval 1 9 v1 rfl rfl) h1
  obtain ⟨a2, rfl, rfl, rfl, w2⟩ := open_int Try.underlying3 (hval 2 3 v2 rfl rfl) h2
  obtain ⟨a3, rfl, rfl, rfl, w3⟩ := open_int Try.underlying3 (hval 3 3 v3 rfl rfl) h3
  clear hA0 hval0
  simp only [List.append_nil] at hW'
  refine (walk a0 a1 a2 a3 w0 w1 w2 w3 W).mono fun e W' ⟨he, bel⟩ => ?_
  subst he
  exact ⟨_, rfl, _, _, _, [], _, [], hW', trodAll_mk1 (shut_bool Try.underlying4 _), (trodAll_cons_mk (shut_float Try.underlying22 w0) (trodAll_cons_mk (shut_string Try.underlying9 w1) (trodAll_cons_mk (shut_int Try.underlying3 w2) (trodAll_cons_mk (shut_int Try.underlying3 w3) trodAll_mk0)))), rfl, bel.frame _, fun h => by cases h⟩

theorem over : Rows.realTextsRow.holds Try.pinned (OpenSpec.ofChange Rows.realTextsSpec) :=
  OpenClaim.holds_of_wide 4 Try.f4 rfl rfl rfl rfl rfl rfl rfl ⟨rfl, rfl, rfl, rfl, rfl⟩ rfl rfl rfl rfl rfl (by kernel_rfl) Try.func4 (by kernel_rfl)
    (of_decide_eq_true (by kernel_rfl)) (by unfold Func.isWrapper; first | (rw [if_pos (by decide +kernel)]; kernel_rfl) | (rw [if_neg (by decide +kernel)]; exact ⟨rfl, rfl⟩))
    (fun os started H enc _ => lifted os started H enc)

theorem proved : Rows.RealTextsSaid :=
  over
#print axioms proved
end Go.Proofs.Ytmfhokbognlhbaa.realTexts
