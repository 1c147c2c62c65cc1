/-
  RealWeights is true for every whole number and every text: weights are from 0 to 1, more digits make one no less. No conditions.
-/
import Derived.Test.YtmfhokbognlhbaaRlWeigh
import Derived.BigQuiet
import Derived.ProofKit
import Derived.OpenShut
import Derived.ShutString
namespace Go.Proofs.Ytmfhokbognlhbaa.realWeights
open Go.ChangeShapes Go.WideShapes Go.ChangeAt Go.RowKit Go.PlainAid Go.Proofs.Ytmfhokbognlhbaa.Rl
open Go.ChangeMaps (open_string shut_string)
open Go.Proofs.Ytmfhokbognlhbaa.Hx (hd)
set_option linter.unusedVariables false

theorem ord_zero : (FloatKind.f64.format.order 0 0 != some .eq) = false := by decide +kernel
theorem text3 (k : Nat) : (⟨#[48, 46]⟩ ++ ⟨#[hd (k / 100)]⟩ ++ ⟨#[hd (k / 10 % 10)]⟩ ++ ⟨#[hd (k % 10)]⟩ : ByteArray) = wt3 k := by
  rw [ByteArray.mk_append_mk, ByteArray.mk_append_mk, ByteArray.mk_append_mk]; rfl
theorem cut4 (k : Nat) : (wt3 k).extract 0 4 = wt2 k := by
  unfold wt3 wt2; rw [ByteArray.extract_mk]; rfl
theorem below_drews {b : Nat} {w w2 : World} (n : Nat) (h : Below b w w2) : Below b w (w2.drewN n) := by
  exact ⟨h.os, h.tape, h.output, h.size, h.block⟩
theorem long (n : Int) (s : ByteArray) (w : World) (hs : s.size ≤ maxLen) (h : 60 < s.size) :
    Calls Try.prog 8 #[.int .i64 n, .string s] w fun e w' => e = .returned (.bool true) ∧ Below w.heap.size w w' := by
  have hs' : (s.size : Int) ≤ 9223372036854775807 := by unfold maxLen at hs; omega
  go_enter Try.func8, Try.ntmps8
  go_wp2_with fail
  refine (awake_any _).mono ?_
  rintro e w1 ⟨rfl, hb1⟩
  go_wp2
  all_goals go_ret
  all_goals exact ⟨rfl, hb1⟩
set_option maxRecDepth 100000 in
set_option maxHeartbeats 4000000 in
theorem yes (n : Int) (s : ByteArray) (w : World) (hs : s.size ≤ 60) (h : QForm s) :
    Calls Try.prog 8 #[.int .i64 n, .string s] w fun e w' => e = .returned (.bool true) ∧ Below w.heap.size w w' := by
  obtain ⟨k, hk, ek⟩ := cut_num n
  have Q := q_yes s hs h
  obtain ⟨e0, l0, g1, g2⟩ := weight_fine s h
  clear e0 l0
  have h5 : (s.size : Int) ≤ 5 := by have := h.2.1; omega
  generalize rat (qN s) (10 ^ (s.size - 2)) = v at *
  obtain ⟨o1, o2, o3⟩ := fit k hk
  have Q3 := q3 k hk
  have Q2 := q2 k hk
  have R := fun w => ratio_any (k : Int) 1000 w (by omega) (by omega) (by decide) (by decide)
  have s1 := fun w => sliceD w ((k : Int) / 100) (by omega) (by omega)
  have s2 := fun w => sliceD w ((k : Int) / 10 % 10) (by omega) (by omega)
  have s3 := fun w => sliceD w ((k : Int) % 10) (by omega) (by omega)
  rw [show ((k : Int) / 100).toNat = k / 100 by omega] at s1
  rw [show ((k : Int) / 10 % 10).toNat = k / 10 % 10 by omega] at s2
  rw [show ((k : Int) % 10).toNat = k % 10 by omega] at s3
  have ew : IntKind.i64.wrap (k : Int) = (k : Int) := by rw [IntKind.wrap_i64]; omega
  generalize rat (k : Int) 1000 = a at *
  generalize rat ((k / 10 : Nat) : Int) 100 = b at *
  have T3 := Lib.hid (text3 k)
  have C4 := cut4 k
  have z3 : (wt3 k).size = 5 := rfl
  generalize wt3 k = t at *
  generalize wt2 k = t2 at *
  clear h
  go_enter Try.func8, Try.ntmps8
  go_wp2_with fail
  refine (awake_any _).mono ?_
  rintro e w1 ⟨rfl, hb1⟩
  go_wp2_with fail
  refine (Q _).mono ?_
  rintro e w2 ⟨rfl, hb⟩
  replace hb := hb1.trans (hb.mono hb1.size)
  clear hb1 Q
  go_upto_region 9 with (fail)
  go_quiet (fail)
  rw [T3.out]
  have hb1 := below_drews nq hb
  clear hb s1 s2 s3 T3
  generalize w2.drewN nq = w3 at *
  go_wp2_with fail
  refine (Q3 _).mono ?_
  rintro e w4 ⟨rfl, hb⟩
  replace hb := hb1.trans (hb.mono hb1.size)
  clear hb1 Q3
  go_wp2_with fail
  refine (Q2 _).mono ?_
  rintro e w5 ⟨rfl, hb1⟩
  replace hb1 := hb.trans (hb1.mono hb.size)
  clear hb Q2
  go_wp2_with fail
  refine (R _).mono ?_
  rintro e w' ⟨rfl, rfl⟩
  clear R
  go_wp2
  go_ret
  exact ⟨rfl, hb1⟩
set_option maxRecDepth 100000 in
set_option maxHeartbeats 4000000 in
theorem no (n : Int) (s : ByteArray) (w : World) (hs : s.size ≤ 60) (h : ¬ QForm s) :
    Calls Try.prog 8 #[.int .i64 n, .string s] w fun e w' => e = .returned (.bool true) ∧ Below w.heap.size w w' := by
  obtain ⟨k, hk, ek⟩ := cut_num n
  have Q := q_no s hs h
  have oz := ord_zero
  obtain ⟨o1, o2, o3⟩ := fit k hk
  have Q3 := q3 k hk
  have Q2 := q2 k hk
  have R := fun w => ratio_any (k : Int) 1000 w (by omega) (by omega) (by decide) (by decide)
  have s1 := fun w => sliceD w ((k : Int) / 100) (by omega) (by omega)
  have s2 := fun w => sliceD w ((k : Int) / 10 % 10) (by omega) (by omega)
  have s3 := fun w => sliceD w ((k : Int) % 10) (by omega) (by omega)
  rw [show ((k : Int) / 100).toNat = k / 100 by omega] at s1
  rw [show ((k : Int) / 10 % 10).toNat = k / 10 % 10 by omega] at s2
  rw [show ((k : Int) % 10).toNat = k % 10 by omega] at s3
  have ew : IntKind.i64.wrap (k : Int) = (k : Int) := by rw [IntKind.wrap_i64]; omega
  generalize rat (k : Int) 1000 = a at *
  generalize rat ((k / 10 : Nat) : Int) 100 = b at *
  have T3 := Lib.hid (text3 k)
  have C4 := cut4 k
  have z3 : (wt3 k).size = 5 := rfl
  generalize wt3 k = t at *
  generalize wt2 k = t2 at *
  clear h
  go_enter Try.func8, Try.ntmps8
  go_wp2_with fail
  refine (awake_any _).mono ?_
  rintro e w1 ⟨rfl, hb1⟩
  go_wp2_with fail
  refine (Q _).mono ?_
  rintro e w2 ⟨rfl, hb⟩
  replace hb := hb1.trans (hb.mono hb1.size)
  clear hb1 Q
  go_upto_region 9 with (fail)
  go_quiet (fail)
  rw [T3.out]
  have hb1 := below_drews nq hb
  clear hb s1 s2 s3 T3
  generalize w2.drewN nq = w3 at *
  go_wp2_with fail
  refine (Q3 _).mono ?_
  rintro e w4 ⟨rfl, hb⟩
  replace hb := hb1.trans (hb.mono hb1.size)
  clear hb1 Q3
  go_wp2_with fail
  refine (Q2 _).mono ?_
  rintro e w5 ⟨rfl, hb1⟩
  replace hb1 := hb.trans (hb1.mono hb.size)
  clear hb Q2
  go_wp2_with fail
  refine (R _).mono ?_
  rintro e w' ⟨rfl, rfl⟩
  clear R
  go_wp2
  go_ret
  exact ⟨rfl, hb1⟩
theorem walk (n : Int) (s : ByteArray) (wn : (Lit.int .i64 n).wf = true) (ws : s.size ≤ maxLen) (w : World) :
    Calls Try.prog 8 #[.int .i64 n, .string s] w fun e w' => e = .returned (.bool true) ∧ Below w.heap.size w w' := by
  by_cases h : 60 < s.size
  · exact long n s w ws h
  · by_cases q : QForm s
    · exact yes n s w (by omega) q
    · exact no n s w (by omega) q

theorem own : ownKnob Try.prog.godebug = none := by kernel_rfl

set_option maxRecDepth 100000 in
theorem lifted (os : Os) (started : os.Started) (H : Type) (enc : TypeId × Value → H) :
    ReturnsInHanded {} Try.checked os 8 .any (Rows.realWeightsSpec.pre6 enc Try.prog Try.f8 Rows.realWeightsRow.domain false) (Rows.realWeightsSpec.post enc Try.prog Try.f8 false true false false) := by
  refine returnsInHanded_of_change (C := Try.checked) own started (by kernel_rfl) Try.func8
    (ChangeSpec.witness6 (enc := enc) (C := Try.checked) false ⟨#[], #[.int .i64 0, .string ByteArray.empty], []⟩ 8 (by kernel_rfl) (by kernel_rfl) (by kernel_rfl) (by kernel_rfl)) ?_
  intro W base args ds gs before hval0 hW hcnd _
  have hval : ∀ (j : Nat) t v, Try.f8.params[j]? = some t → args[j]? = some v → Value.okWide Try.prog W .any base t v := hval0
  have hW' := hW
  obtain ⟨p, q, hA0, hV, rfl, hfz, hnd⟩ := hW
  have hA : DataW.TrodAll enc Try.prog W 0 (fun _ => true) true Try.f8.params.toList args.toList ds p := hA0
  rw [Try.params8] at hA hval
  obtain ⟨v0, vs0, d0, ds0, p0, q0, hargs, rfl, rfl, h0, r0⟩ := trodAll_cons hA
  obtain ⟨v1, vs1, d1, ds1, p1, q1, rfl, rfl, rfl, h1, r1⟩ := trodAll_cons r0
  obtain ⟨rfl, rfl, rfl⟩ := trodAll_nil r1
  obtain rfl : args = #[v0, v1] := by cases args; simp_all
  obtain ⟨rfl, rfl⟩ := trodVars_none hV
  obtain ⟨a0, rfl, rfl, rfl, w0⟩ := open_int Try.underlying3 (hval 0 3 v0 rfl rfl) h0
  obtain ⟨a1, rfl, rfl, rfl, w1⟩ := open_string Try.underlying9 (hval 1 9 v1 rfl rfl) h1
  clear hA0 hval0
  simp only [List.append_nil] at hW'
  refine (walk a0 a1 w0 w1 W).mono fun e W' ⟨he, bel⟩ => ?_
  subst he
  exact ⟨_, rfl, _, _, _, [], _, [], hW', trodAll_mk1 (shut_bool Try.underlying4 _), (trodAll_cons_mk (shut_int Try.underlying3 w0) (trodAll_cons_mk (shut_string Try.underlying9 w1) trodAll_mk0)), rfl, bel.frame _, fun h => by cases h⟩

theorem over : Rows.realWeightsRow.holds Try.pinned (OpenSpec.ofChange Rows.realWeightsSpec) :=
  OpenClaim.holds_of_wide 8 Try.f8 rfl rfl rfl rfl rfl rfl rfl ⟨rfl, rfl, rfl, rfl, rfl⟩ rfl rfl rfl rfl rfl (by kernel_rfl) Try.func8 (by kernel_rfl)
    (of_decide_eq_true (by kernel_rfl)) (by unfold Func.isWrapper; first | (rw [if_pos (by decide +kernel)]; kernel_rfl) | (rw [if_neg (by decide +kernel)]; exact ⟨rfl, rfl⟩))
    (fun os started H enc _ => lifted os started H enc)

theorem proved : Rows.RealWeightsSaid :=
  over
#print axioms proved
end Go.Proofs.Ytmfhokbognlhbaa.realWeights
