/-
  HexaNumbers is true for every number, text and limit: a number's digits, and the number of digits, are the document's. No conditions.
-/
import Derived.Test.YteomimlmgjikjaaHxRefN
import Derived.Test.YteomimlmgjikjaaHxRefD
import Derived.ProofKit
import Derived.OpenShut
import Derived.ShutString
namespace Go.Proofs.Yteomimlmgjikjaa.hexaNumbers
open Go.ChangeShapes Go.WideShapes Go.ChangeAt Go.RowKit Go.PlainAid Go.Proofs.Yteomimlmgjikjaa.Hx
open Go.ChangeMaps (open_string shut_string)
set_option linter.unusedVariables false

theorem step {w a b : World} (h : Below w.heap.size w a) (k : Below a.heap.size a b) : Below w.heap.size w b := h.trans (k.mono h.size)

theorem pair {f g : Nat} {s : ByteArray} {m : Int} {form : Prop} {v : Int} (hf : ∀ w, Calls Try.prog f #[.string s, .int .i64 m] w (NumPost form v m w)) (hg : ∀ w, Calls Try.prog g #[.string s, .int .i64 m] w (NumPost form v m w)) :
    ∃ x e : Int, 0 ≤ e ∧ e ≤ 14 ∧ (∀ w, Calls Try.prog f #[.string s, .int .i64 m] w fun r w' => r = .returned (.tuple #[.int .i64 x, .int .i64 e]) ∧ w = w') ∧
      (∀ w, Calls Try.prog g #[.string s, .int .i64 m] w fun r w' => r = .returned (.tuple #[.int .i64 x, .int .i64 e]) ∧ w = w') := by
  by_cases c : form
  · by_cases d : Fits v m
    · exact ⟨v, 0, by omega, by omega, fun w => (hf w).mono fun e w' ⟨he, hw⟩ => ⟨he.elim (fun x => absurd c x.1) (fun x => x.elim (fun y => y.2.2) (fun y => absurd d y.2.1)), hw⟩,
        fun w => (hg w).mono fun e w' ⟨he, hw⟩ => ⟨he.elim (fun x => absurd c x.1) (fun x => x.elim (fun y => y.2.2) (fun y => absurd d y.2.1)), hw⟩⟩
    · exact ⟨0, 14, by omega, by omega, fun w => (hf w).mono fun e w' ⟨he, hw⟩ => ⟨he.elim (fun x => absurd c x.1) (fun x => x.elim (fun y => absurd y.2.1 d) (fun y => y.2.2)), hw⟩,
        fun w => (hg w).mono fun e w' ⟨he, hw⟩ => ⟨he.elim (fun x => absurd c x.1) (fun x => x.elim (fun y => absurd y.2.1 d) (fun y => y.2.2)), hw⟩⟩
  · exact ⟨0, 3, by omega, by omega, fun w => (hf w).mono fun e w' ⟨he, hw⟩ => ⟨he.elim (fun x => x.2) (fun x => x.elim (fun y => absurd y.1 c) (fun y => absurd y.1 c)), hw⟩,
      fun w => (hg w).mono fun e w' ⟨he, hw⟩ => ⟨he.elim (fun x => x.2) (fun x => x.elim (fun y => absurd y.1 c) (fun y => absurd y.1 c)), hw⟩⟩

theorem dec_pair (n : Int) (h0 : -9223372036854775808 ≤ n) (h1 : n ≤ 9223372036854775807) : ∃ l : List UInt8,
    (∀ w, Calls Try.prog 16 #[.int .i64 n] w fun e w' => e = .returned (.string ⟨l.toArray⟩) ∧ Below w.heap.size w w') ∧
    (∀ w, Calls Try.prog 17 #[.int .i64 n] w fun e w' => e = .returned (.string ⟨l.toArray⟩) ∧ w = w') := by
  by_cases h : 0 ≤ n
  · obtain ⟨m, rfl⟩ := Int.eq_ofNat_of_zero_le h
    exact ⟨digL 8 m, fun w => dec_any m w h1, fun w => rdec_pos m w h1⟩
  · exact ⟨_, fun w => dec_neg n w (by omega) h0, fun w => rdec_neg n w (by omega) h0⟩
theorem hex_pair (n : Int) (h0 : -9223372036854775808 ≤ n) (h1 : n ≤ 9223372036854775807) : ∃ l : List UInt8,
    (∀ w, Calls Try.prog 18 #[.int .i64 n] w fun e w' => e = .returned (.string ⟨l.toArray⟩) ∧ Below w.heap.size w w') ∧
    (∀ w, Calls Try.prog 19 #[.int .i64 n] w fun e w' => e = .returned (.string ⟨l.toArray⟩) ∧ w = w') := by
  by_cases h : 0 ≤ n
  · obtain ⟨m, rfl⟩ := Int.eq_ofNat_of_zero_le h
    exact ⟨digL 14 m, fun w => hexnum_any m w h1, fun w => rhexnum_nat m w h1⟩
  · exact ⟨_, fun w => hexnum_low n w (by omega) h0, fun w => rhexnum_low n w (by omega) h0⟩

theorem long (n : Int) (s : ByteArray) (m : Int) (w : World) (h0 : s.size ≤ maxLen) (h : 100 < s.size) : Calls Try.prog 4 #[.int .i64 n, .string s, .int .i64 m] w fun e w' => e = .returned (.bool true) ∧ Below w.heap.size w w' := by
  unfold maxLen at h0
  go_enter Try.func4, Try.ntmps4
  go_wp2_with fail
  refine (awake_any _).mono ?_
  rintro e w1 ⟨rfl, hb1⟩
  go_wp2
  go_ret
  exact ⟨rfl, hb1⟩

set_option maxHeartbeats 1600000 in
theorem short (n : Int) (s : ByteArray) (m : Int) (w : World) (h : s.size ≤ 100) (n0 : -9223372036854775808 ≤ n) (n1 : n ≤ 9223372036854775807) (m0 : -9223372036854775808 ≤ m) (m1 : m ≤ 9223372036854775807) :
    Calls Try.prog 4 #[.int .i64 n, .string s, .int .i64 m] w fun e w' => e = .returned (.bool true) ∧ Below w.heap.size w w' := by
  obtain ⟨x, xe, x0, x1, cx, cx'⟩ := pair (fun w => undec_num s m w h m0 m1) (fun w => rundec_num s m w h m0 m1)
  obtain ⟨y, ye, y0, y1, cy, cy'⟩ := pair (fun w => unhexnum_num s m w h m0 m1) (fun w => runhexnum_num s m w h m0 m1)
  obtain ⟨l, cl, cl'⟩ := dec_pair n n0 n1
  obtain ⟨k, ck, ck'⟩ := hex_pair n n0 n1
  have CX := Lib.hid cx
  have CX' := Lib.hid cx'
  have CY := Lib.hid cy
  have CY' := Lib.hid cy'
  have CL := Lib.hid cl
  have CL' := Lib.hid cl'
  have CK := Lib.hid ck
  have CK' := Lib.hid ck'
  clear cx cx' cy cy' cl cl' ck ck'
  go_enter Try.func4, Try.ntmps4
  go_wp2_with fail
  refine (awake_any _).mono ?_
  rintro e w1 ⟨rfl, hb1⟩
  go_wp2_with fail
  refine (CX.out _).mono ?_
  rintro e w' ⟨rfl, rfl⟩
  go_wp2_with fail
  refine (CX'.out _).mono ?_
  rintro e w' ⟨rfl, rfl⟩
  go_wp2_with fail
  refine (CY.out _).mono ?_
  rintro e w' ⟨rfl, rfl⟩
  go_wp2_with fail
  refine (CY'.out _).mono ?_
  rintro e w' ⟨rfl, rfl⟩
  go_wp2_with fail
  refine (CL.out _).mono ?_
  rintro e w2 ⟨rfl, hb2⟩
  go_wp2_with fail
  refine (CL'.out _).mono ?_
  rintro e w' ⟨rfl, rfl⟩
  go_wp2_with fail
  refine (CK.out _).mono ?_
  rintro e w3 ⟨rfl, hb3⟩
  go_wp2_with fail
  refine (CK'.out _).mono ?_
  rintro e w' ⟨rfl, rfl⟩
  go_wp2
  go_ret
  exact ⟨rfl, step (step hb1 hb2) hb3⟩

theorem bounds {a : Int} (h : (Lit.int .i64 a).wf = true) : -9223372036854775808 ≤ a ∧ a ≤ 9223372036854775807 := by
  simpa [Lit.wf, IntKind.min, IntKind.max, IntKind.signed, IntKind.bits] using h

theorem walk (n : Int) (s : ByteArray) (m : Int) (w0 : (Lit.int .i64 n).wf = true) (w1 : s.size ≤ maxLen) (w2 : (Lit.int .i64 m).wf = true) (w : World) :
    Calls Try.prog 4 #[.int .i64 n, .string s, .int .i64 m] w fun e w' => e = .returned (.bool true) ∧ Below w.heap.size w w' := by
  by_cases h : 100 < s.size
  · exact long n s m w w1 h
  · exact short n s m w (by omega) (bounds w0).1 (bounds w0).2 (bounds w2).1 (bounds w2).2

theorem own : ownKnob Try.prog.godebug = none := by kernel_rfl

set_option maxRecDepth 100000 in
theorem lifted (os : Os) (started : os.Started) (H : Type) (enc : TypeId × Value → H) :
    ReturnsInHanded {} Try.checked os 4 .any (Rows.hexaNumbersSpec.pre6 enc Try.prog Try.f4 Rows.hexaNumbersRow.domain false) (Rows.hexaNumbersSpec.post enc Try.prog Try.f4 false true false false) := by
  refine returnsInHanded_of_change (C := Try.checked) own started (by kernel_rfl) Try.func4
    (ChangeSpec.witness6 (enc := enc) (C := Try.checked) false ⟨#[], #[.int .i64 0, .string ByteArray.empty, .int .i64 0], []⟩ 8 (by kernel_rfl) (by kernel_rfl) (by kernel_rfl) (by kernel_rfl)) ?_
  intro W base args ds gs before hval0 hW hcnd _
  have hval : ∀ (j : Nat) t v, Try.f4.params[j]? = some t → args[j]? = some v → Value.okWide Try.prog W .any base t v := hval0
  have hW' := hW
  obtain ⟨p, q, hA0, hV, rfl, hfz, hnd⟩ := hW
  have hA : DataW.TrodAll enc Try.prog W 0 (fun _ => true) true Try.f4.params.toList args.toList ds p := hA0
  rw [Try.params4] at hA hval
  obtain ⟨v0, vs0, d0, ds0, p0, q0, hargs, rfl, rfl, h0, r0⟩ := trodAll_cons hA
  obtain ⟨v1, vs1, d1, ds1, p1, q1, rfl, rfl, rfl, h1, r1⟩ := trodAll_cons r0
  obtain ⟨v2, vs2, d2, ds2, p2, q2, rfl, rfl, rfl, h2, r2⟩ := trodAll_cons r1
  obtain ⟨rfl, rfl, rfl⟩ := trodAll_nil r2
  obtain rfl : args = #[v0, v1, v2] := by cases args; simp_all
  obtain ⟨rfl, rfl⟩ := trodVars_none hV
  obtain ⟨a0, rfl, rfl, rfl, w0⟩ := open_int Try.underlying3 (hval 0 3 v0 rfl rfl) h0
  obtain ⟨a1, rfl, rfl, rfl, w1⟩ := open_string Try.underlying9 (hval 1 9 v1 rfl rfl) h1
  obtain ⟨a2, rfl, rfl, rfl, w2⟩ := open_int Try.underlying3 (hval 2 3 v2 rfl rfl) h2
  clear hA0 hval0
  simp only [List.append_nil] at hW'
  refine (walk a0 a1 a2 w0 w1 w2 W).mono fun e W' ⟨he, bel⟩ => ?_
  subst he
  exact ⟨_, rfl, _, _, _, [], _, [], hW', trodAll_mk1 (shut_bool Try.underlying4 _), (trodAll_cons_mk (shut_int Try.underlying3 w0) (trodAll_cons_mk (shut_string Try.underlying9 w1) (trodAll_cons_mk (shut_int Try.underlying3 w2) trodAll_mk0))), rfl, bel.frame _, fun h => by cases h⟩

theorem over : Rows.hexaNumbersRow.holds Try.pinned (OpenSpec.ofChange Rows.hexaNumbersSpec) :=
  OpenClaim.holds_of_wide 4 Try.f4 rfl rfl rfl rfl rfl rfl rfl ⟨rfl, rfl, rfl, rfl, rfl⟩ rfl rfl rfl rfl rfl (by kernel_rfl) Try.func4 (by kernel_rfl)
    (of_decide_eq_true (by kernel_rfl)) (by unfold Func.isWrapper; first | (rw [if_pos (by decide +kernel)]; kernel_rfl) | (rw [if_neg (by decide +kernel)]; exact ⟨rfl, rfl⟩))
    (fun os started H enc _ => lifted os started H enc)

theorem proved : Rows.HexaNumbersSaid :=
  over
#print axioms proved
end Go.Proofs.Yteomimlmgjikjaa.hexaNumbers
