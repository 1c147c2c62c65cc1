/-
  HexaCounts is true for every two numbers: each number from 0 to 2^62 is read as it was written, at most at its limit; unlike numbers have unlike digits. No conditions.
-/
import Derived.Test.YteomimlmgjikjaaHxCount
import Derived.ProofKit
import Derived.OpenShut
import Derived.ShutString
namespace Go.Proofs.Yteomimlmgjikjaa.hexaCounts
open Go.ChangeShapes Go.WideShapes Go.ChangeAt Go.RowKit Go.PlainAid Go.Proofs.Yteomimlmgjikjaa.Hx
open Go.ChangeMaps (open_string shut_string)
set_option linter.unusedVariables false

theorem step {w a b : World} (h : Below w.heap.size w a) (k : Below a.heap.size a b) : Below w.heap.size w b := h.trans (k.mono h.size)

theorem undec_self (n : Nat) (w : World) (h : (n : Int) ≤ 4611686018427387904) :
    Calls Try.prog 12 #[.string ⟨(digL 8 n).toArray⟩, .int .i64 n] w fun e w' => e = .returned (.tuple #[.int .i64 n, .int .i64 0]) ∧ w = w' := by
  have c := undec_digits n n w (by omega) (by omega) (by omega)
  rw [show amN n n = n by unfold amN; rw [if_pos (by omega)], show amE n n = 0 by unfold amE; rw [if_pos (by omega)]] at c
  exact c
theorem unhexnum_self (n : Nat) (w : World) (h : (n : Int) ≤ 4611686018427387904) :
    Calls Try.prog 14 #[.string ⟨(digL 14 n).toArray⟩, .int .i64 n] w fun e w' => e = .returned (.tuple #[.int .i64 n, .int .i64 0]) ∧ w = w' := by
  have c := unhexnum_digits n n w (by omega) (by omega) (by omega)
  rw [show amN n n = n by unfold amN; rw [if_pos (by omega)], show amE n n = 0 by unfold amE; rw [if_pos (by omega)]] at c
  exact c
theorem undec_less (n : Nat) (w : World) (h0 : 0 < n) (h : (n : Int) ≤ 4611686018427387904) :
    Calls Try.prog 12 #[.string ⟨(digL 8 n).toArray⟩, .int .i64 ((n : Int) - 1)] w fun e w' => e = .returned (.tuple #[.int .i64 0, .int .i64 14]) ∧ w = w' := by
  have c := undec_digits n ((n : Int) - 1) w (by omega) (by omega) (by omega)
  rw [show amN n ((n : Int) - 1) = 0 by unfold amN; rw [if_neg (by omega)], show amE n ((n : Int) - 1) = 14 by unfold amE; rw [if_neg (by omega)]] at c
  exact c
theorem unhexnum_less (n : Nat) (w : World) (h0 : 0 < n) (h : (n : Int) ≤ 4611686018427387904) :
    Calls Try.prog 14 #[.string ⟨(digL 14 n).toArray⟩, .int .i64 ((n : Int) - 1)] w fun e w' => e = .returned (.tuple #[.int .i64 0, .int .i64 14]) ∧ w = w' := by
  have c := unhexnum_digits n ((n : Int) - 1) w (by omega) (by omega) (by omega)
  rw [show amN n ((n : Int) - 1) = 0 by unfold amN; rw [if_neg (by omega)], show amE n ((n : Int) - 1) = 14 by unfold amE; rw [if_neg (by omega)]] at c
  exact c

theorem cut (a : Int) : ∃ A : Nat, (A : Int) ≤ 4611686018427387904 ∧ wrap64 ((IntKind.u64.wrap a).tmod 4611686018427387905) = (A : Int) := by
  refine ⟨((a % 18446744073709551616) % 4611686018427387905).toNat, by omega, ?_⟩
  rw [IntKind.wrap_u64, Int.tmod_eq_emod_of_nonneg (by omega)]
  rw [IntWalk.wrap64_in _ ⟨by omega, by omega⟩]
  omega

set_option maxHeartbeats 1600000 in
theorem walk (a0 : Int) (a1 : Int) (w0 : (Lit.int .i64 a0).wf = true) (w1 : (Lit.int .i64 a1).wf = true) (w : World) :
    Calls Try.prog 6 #[.int .i64 a0, .int .i64 a1] w fun e w' => e = .returned (.bool true) ∧ Below w.heap.size w w' := by
  go_enter Try.func6, Try.ntmps6
  go_wp2_with fail
  refine (awake_any _).mono ?_
  rintro e w1 ⟨rfl, hb1⟩
  go_wp2_with fail
  obtain ⟨A, hA, eA⟩ := cut a0
  obtain ⟨B, hB, eB⟩ := cut a1
  rw [eA, eB]
  clear eA eB w0
  have iA := dec_inj A B
  have jA := hex_inj A B
  have IA := Lib.hid iA
  have JA := Lib.hid jA
  clear iA jA
  refine (dec_any A _ (by omega)).mono ?_
  rintro e w2 ⟨rfl, hb2⟩
  go_wp2_with fail
  refine (undec_self A _ hA).mono ?_
  rintro e w' ⟨rfl, rfl⟩
  go_wp2_with fail
  refine (hexnum_any A _ (by omega)).mono ?_
  rintro e w3 ⟨rfl, hb3⟩
  go_wp2_with fail
  refine (unhexnum_self A _ hA).mono ?_
  rintro e w' ⟨rfl, rfl⟩
  have nA : ((A : Int) != (A : Int)) = false := by simp
  by_cases pos : 0 < A
  · go_wp2_with fail
    refine (dec_any A _ (by omega)).mono ?_
    rintro e w4 ⟨rfl, hb4⟩
    go_wp2_with fail
    refine (undec_less A _ pos hA).mono ?_
    rintro e w' ⟨rfl, rfl⟩
    go_wp2_with fail
    refine (hexnum_any A _ (by omega)).mono ?_
    rintro e w5 ⟨rfl, hb5⟩
    go_wp2_with fail
    refine (unhexnum_less A _ pos hA).mono ?_
    rintro e w' ⟨rfl, rfl⟩
    go_wp2_with fail
    refine (dec_any A _ (by omega)).mono ?_
    rintro e w6 ⟨rfl, hb6⟩
    go_wp2_with fail
    refine (dec_any B _ (by omega)).mono ?_
    rintro e w7 ⟨rfl, hb7⟩
    have h1 := IA.out
    go_wp2_with fail
    refine (hexnum_any A _ (by omega)).mono ?_
    rintro e w8 ⟨rfl, hb8⟩
    go_wp2_with fail
    refine (hexnum_any B _ (by omega)).mono ?_
    rintro e w9 ⟨rfl, hb9⟩
    have h2 := JA.out
    go_wp2
    go_ret
    exact ⟨rfl, step (step (step (step (step (step (step (step hb1 hb2) hb3) hb4) hb5) hb6) hb7) hb8) hb9⟩
  · go_wp2_with fail
    refine (dec_any A _ (by omega)).mono ?_
    rintro e w6 ⟨rfl, hb6⟩
    go_wp2_with fail
    refine (dec_any B _ (by omega)).mono ?_
    rintro e w7 ⟨rfl, hb7⟩
    have h1 := IA.out
    go_wp2_with fail
    refine (hexnum_any A _ (by omega)).mono ?_
    rintro e w8 ⟨rfl, hb8⟩
    go_wp2_with fail
    refine (hexnum_any B _ (by omega)).mono ?_
    rintro e w9 ⟨rfl, hb9⟩
    have h2 := JA.out
    go_wp2
    go_ret
    exact ⟨rfl, step (step (step (step (step (step hb1 hb2) hb3) hb6) hb7) hb8) hb9⟩

theorem own : ownKnob Try.prog.godebug = none := by kernel_rfl

set_option maxRecDepth 100000 in
theorem lifted (os : Os) (started : os.Started) (H : Type) (enc : TypeId × Value → H) :
    ReturnsInHanded {} Try.checked os 6 .any (Rows.hexaCountsSpec.pre6 enc Try.prog Try.f6 Rows.hexaCountsRow.domain false) (Rows.hexaCountsSpec.post enc Try.prog Try.f6 false true false false) := by
  refine returnsInHanded_of_change (C := Try.checked) own started (by kernel_rfl) Try.func6
    (ChangeSpec.witness6 (enc := enc) (C := Try.checked) false ⟨#[], #[.int .i64 0, .int .i64 0], []⟩ 8 (by kernel_rfl) (by kernel_rfl) (by kernel_rfl) (by kernel_rfl)) ?_
  intro W base args ds gs before hval0 hW hcnd _
  have hval : ∀ (j : Nat) t v, Try.f6.params[j]? = some t → args[j]? = some v → Value.okWide Try.prog W .any base t v := hval0
  have hW' := hW
  obtain ⟨p, q, hA0, hV, rfl, hfz, hnd⟩ := hW
  have hA : DataW.TrodAll enc Try.prog W 0 (fun _ => true) true Try.f6.params.toList args.toList ds p := hA0
  rw [Try.params6] at hA hval
  obtain ⟨v0, vs0, d0, ds0, p0, q0, hargs, rfl, rfl, h0, r0⟩ := trodAll_cons hA
  obtain ⟨v1, vs1, d1, ds1, p1, q1, rfl, rfl, rfl, h1, r1⟩ := trodAll_cons r0
  obtain ⟨rfl, rfl, rfl⟩ := trodAll_nil r1
  obtain rfl : args = #[v0, v1] := by cases args; simp_all
  obtain ⟨rfl, rfl⟩ := trodVars_none hV
  obtain ⟨a0, rfl, rfl, rfl, w0⟩ := open_int Try.underlying3 (hval 0 3 v0 rfl rfl) h0
  obtain ⟨a1, rfl, rfl, rfl, w1⟩ := open_int Try.underlying3 (hval 1 3 v1 rfl rfl) h1
  clear hA0 hval0
  simp only [List.append_nil] at hW'
  refine (walk a0 a1 w0 w1 W).mono fun e W' ⟨he, bel⟩ => ?_
  subst he
  exact ⟨_, rfl, _, _, _, [], _, [], hW', trodAll_mk1 (shut_bool Try.underlying4 _), (trodAll_cons_mk (shut_int Try.underlying3 w0) (trodAll_cons_mk (shut_int Try.underlying3 w1) trodAll_mk0)), rfl, bel.frame _, fun h => by cases h⟩

theorem over : Rows.hexaCountsRow.holds Try.pinned (OpenSpec.ofChange Rows.hexaCountsSpec) :=
  OpenClaim.holds_of_wide 6 Try.f6 rfl rfl rfl rfl rfl rfl rfl ⟨rfl, rfl, rfl, rfl, rfl⟩ rfl rfl rfl rfl rfl (by kernel_rfl) Try.func6 (by kernel_rfl)
    (of_decide_eq_true (by kernel_rfl)) (by unfold Func.isWrapper; first | (rw [if_pos (by decide +kernel)]; kernel_rfl) | (rw [if_neg (by decide +kernel)]; exact ⟨rfl, rfl⟩))
    (fun os started H enc _ => lifted os started H enc)

theorem proved : Rows.HexaCountsSaid :=
  over
#print axioms proved
end Go.Proofs.Yteomimlmgjikjaa.hexaCounts
