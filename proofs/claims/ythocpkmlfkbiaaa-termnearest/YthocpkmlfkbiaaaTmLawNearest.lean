/-
  TermNearest is true for every row of numbers: the nearest of spans is the document's. No conditions.
-/
import Derived.Test.YthocpkmlfkbiaaaTmNear
import Derived.PlainAid
import Derived.ProofKit
import Derived.OpenShut
import Derived.ShutString
namespace Go.Proofs.Ythocpkmlfkbiaaa.termNearest
open Go.ChangeShapes Go.WideShapes Go.ChangeAt Go.RowKit Go.PlainAid Go.Proofs.Ythocpkmlfkbiaaa.Rl Go.Proofs.Ythocpkmlfkbiaaa.Tm
open Go.ChangeMaps (open_string shut_string)
set_option linter.unusedVariables false

theorem walk {v : Value} (l : List Nat) {W : World} (hv : FlsAt W v l) (hl : l.length ≤ 9223372036854775807) (hz : ∀ y ∈ l, y < 18446744073709551616) (W' : World) :
    Calls Try.prog 4 #[v] W fun e w' => e = .returned (.bool true) ∧ Below W.heap.size W w' := by
  have A := awake_any W
  have N := nearest_any hv hl hz
  have N' := refnearest_any hv hl hz
  have le := nr_le l
  have L := alike_any (nr l) (nr l) W (by omega) (by omega)
  rw [show ali (nr l) (nr l) = true by unfold ali; simp] at L
  generalize nr l = r at *
  obtain ⟨base, cap, rfl, hc⟩ := hv.is
  clear hc hz hv le
  generalize l.length = n at *
  by_cases c : 60 < n
  · have d1 : decide ((60 : Int) < (n : Int)) = true := by simp; omega
    go_enter Try.func4, Try.ntmps4
    go_wp2_with fail
    refine A.mono ?_
    rintro e w' ⟨rfl, rfl⟩
    clear A N N' L
    go_wp2
    all_goals go_ret
    all_goals exact ⟨rfl, Below.refl _ _⟩
  · have d1 : decide ((60 : Int) < (n : Int)) = false := by simp; omega
    go_enter Try.func4, Try.ntmps4
    go_wp2_with fail
    refine A.mono ?_
    rintro e w' ⟨rfl, rfl⟩
    go_wp2_with fail
    refine N.mono ?_
    rintro e w' ⟨rfl, rfl⟩
    go_wp2_with fail
    refine N'.mono ?_
    rintro e w' ⟨rfl, rfl⟩
    go_wp2_with fail
    refine L.mono ?_
    rintro e w' ⟨rfl, rfl⟩
    clear A N N' L
    go_wp2
    all_goals go_ret
    all_goals exact ⟨rfl, Below.refl _ _⟩

theorem own : ownKnob Try.prog.godebug = none := by kernel_rfl

theorem laidOut : laidOutB Try.prog = true := by kernel_rfl
set_option maxRecDepth 100000 in
theorem lifted (os : Os) (started : os.Started) (H : Type) (enc : TypeId × Value → H) :
    ReturnsInHanded {} Try.checked os 4 .any (Rows.termNearestSpec.pre6 enc Try.prog Try.f4 Rows.termNearestRow.domain false) (Rows.termNearestSpec.post enc Try.prog Try.f4 false true false false) := by
  refine returnsInHanded_of_change (C := Try.checked) own started (by kernel_rfl) Try.func4
    (ChangeSpec.witness6 (enc := enc) (C := Try.checked) false ⟨#[], #[.slice none 0 0], []⟩ 8 (by kernel_rfl) (by kernel_rfl) (by kernel_rfl) (by kernel_rfl)) ?_
  intro W base args ds gs before hval0 hW hcnd _
  have hval : ∀ (j : Nat) t v, Try.f4.params[j]? = some t → args[j]? = some v → Value.okWide Try.prog W .any base t v := hval0
  have hW' := hW
  obtain ⟨p, q, hA0, hV, rfl, hfz, hnd⟩ := hW
  have hA : DataW.TrodAll enc Try.prog W 0 (fun _ => true) true Try.f4.params.toList args.toList ds p := hA0
  rw [Try.params4] at hA hval
  obtain ⟨v0, vs0, d0, ds0, p0, q0, hargs, rfl, rfl, h0, r0⟩ := trodAll_cons hA
  obtain ⟨rfl, rfl, rfl⟩ := trodAll_nil r0
  obtain rfl : args = #[v0] := by cases args; simp_all
  obtain ⟨rfl, rfl⟩ := trodVars_none hV
  obtain ⟨b0, len0, cap0, rfl⟩ := okWide_slice Try.underlying32 (hval 0 32 v0 rfl rfl)
  have hlt0 : ∀ x ∈ p0, x.block < W.heap.size := fun x hx => by simpa using hW'.lt x (by simp [hx])
  have hS0 : ∃ l : List Nat, FlsAt W (.slice b0 len0 cap0) l ∧ l.length ≤ 9223372036854775807 ∧ ∀ y ∈ l, y < 18446744073709551616 := by
    obtain ⟨fuel, hf⟩ := h0
    exact open_fls Try.underlying32 Try.underlying22 (by kernel_rfl) hf
  obtain ⟨a0, w0, y0, z0⟩ := hS0
  clear hA0 hval0
  simp only [List.append_nil] at hW'
  refine (walk a0 w0 y0 z0 W).mono fun e W' ⟨he, bel⟩ => ?_
  subst he
  exact ⟨_, rfl, _, _, _, [], _, [], hW', trodAll_mk1 (shut_bool Try.underlying4 _), (trodAll_cons_mk (Below.trod laidOut (by kernel_rfl) (of_decide_eq_true (by kernel_rfl)) h0 bel hlt0) trodAll_mk0), rfl, bel.frame _, fun h => by cases h⟩

theorem over : Rows.termNearestRow.holds Try.pinned (OpenSpec.ofChange Rows.termNearestSpec) :=
  OpenClaim.holds_of_wide 4 Try.f4 rfl rfl rfl rfl rfl rfl rfl ⟨rfl, rfl, rfl, rfl, rfl⟩ rfl rfl rfl rfl rfl (by kernel_rfl) Try.func4 (by kernel_rfl)
    (of_decide_eq_true (by kernel_rfl)) (by unfold Func.isWrapper; first | (rw [if_pos (by decide +kernel)]; kernel_rfl) | (rw [if_neg (by decide +kernel)]; exact ⟨rfl, rfl⟩))
    (fun os started H enc _ => lifted os started H enc)

theorem proved : Rows.TermNearestSaid :=
  over
#print axioms proved
end Go.Proofs.Ythocpkmlfkbiaaa.termNearest
