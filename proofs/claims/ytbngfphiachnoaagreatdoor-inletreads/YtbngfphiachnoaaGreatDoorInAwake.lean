/-
  Contract of awake of the laws: the answers that the document fixes by number are as it says.
-/
import Derived.Test.YtbngfphiachnoaaGreatDoorInApi
import Derived.Test.YtbngfphiachnoaaGreatDoorInWake
import Derived.Test.YtbngfphiachnoaaGreatDoorSet8
namespace Go.Proofs.YtbngfphiachnoaaGreatDoor.In
open Go.RowKit Go.PlainAid
open Hx Fi Ch
set_option linter.unusedVariables false
set_option maxRecDepth 20000
set_option linter.unusedSimpArgs false

set_option maxHeartbeats 2000000 in
theorem awake_any (w : World) : Calls Tryz.prog 8 #[] w fun e w' => e = .returned (.bool true) ∧ Below w.heap.size w w' := by
  have ln := fun w => line_any tC w (by decide)
  rw [lnC2] at ln
  simp only [ln_err] at ln
  unfold tC at ln
  go_enter Tryz.func8, Tryz.ntmps8
  go_wp2_with fail
  refine (own_new (Owns.none w 5) 0 rfl).mono ?_
  rintro e w1 ⟨p, rfl, O1⟩
  have C2 := own_add O1 0 rfl tA (by decide)
  unfold tA at C2
  go_wp2_with fail
  refine C2.mono ?_
  rintro e w2 ⟨rfl, O2⟩
  clear C2 O1
  replace O2 : Owns w noZ w2 [inT p (ls tA) 0, noT, noT, noT, noT] := O2
  have C3 := own_ok O2 0 1 (by decide) rfl rfl (by decide) rdA
  rw [dropA] at C3
  go_wp2_with fail
  refine C3.mono ?_
  rintro e w3 ⟨fv, rfl, hf, O3⟩
  clear C3 O2
  replace O3 : Owns w noZ w3 [inT p [71, 69, 84] 0, rqT qA fv, noT, noT, noT] := O3
  obtain ⟨w4, S4, O4⟩ := own_box O3 1 rfl hf
  unfold zR at S4
  go_upto_region 5 with (refine wpl_store S4 rfl rfl rfl rfl rfl ?_)
  clear S4 O3
  generalize w3.heap.size = B1 at O4 ⊢
  replace O4 : Owns w noZ w4 [inT p [71, 69, 84] 0, xT B1 qA fv, noT, noT, noT] := O4
  have C5 := own_none O4 0 rfl (by decide) rdG
  go_wp2_with fail
  refine C5.mono ?_
  rintro e w5 ⟨rfl, O5⟩
  clear C5 O4
  replace O5 : Owns w noZ w5 [inT p [71, 69, 84] 0, xT B1 qA fv, noT, noT, noT] := O5
  obtain ⟨w6, S6, O6⟩ := own_zero O5 2 rfl
  unfold zR at S6
  go_upto_region 6 with (refine wpl_store S6 rfl rfl rfl rfl rfl ?_)
  clear S6 O5
  generalize w5.heap.size = B2 at O6 ⊢
  replace O6 := own_drop O6 2 rfl
  replace O6 : Owns w noZ w6 [inT p [71, 69, 84] 0, xT B1 qA fv, noT, noT, noT] := O6
  go_wp2_with fail
  refine (own_new O6 3 rfl).mono ?_
  rintro e w7 ⟨q, rfl, O7⟩
  clear O6
  have C8 := own_add O7 3 rfl tB (by decide)
  unfold tB at C8
  go_wp2_with fail
  refine C8.mono ?_
  rintro e w8 ⟨rfl, O8⟩
  clear C8 O7
  replace O8 : Owns w noZ w8 [inT p [71, 69, 84] 0, xT B1 qA fv, noT, inT q (ls tB) 0, noT] := O8
  have C9 := own_bad O8 3 rfl (by decide) rdB
  go_wp2_with fail
  refine C9.mono ?_
  rintro e w9 ⟨rfl, O9⟩
  clear C9 O8
  replace O9 : Owns w noZ w9 [inT p [71, 69, 84] 0, xT B1 qA fv, noT, inT q (ls tB) 413, noT] := O9
  obtain ⟨wa, Sa, Oa⟩ := own_zero O9 4 rfl
  unfold zR at Sa
  go_upto_region 9 with (refine wpl_store Sa rfl rfl rfl rfl rfl ?_)
  clear Sa O9
  generalize w9.heap.size = B3 at Oa ⊢
  replace Oa := own_drop Oa 4 rfl
  replace Oa : Owns w noZ wa [inT p [71, 69, 84] 0, xT B1 qA fv, noT, inT q (ls tB) 413, noT] := Oa
  go_wp2_with fail
  refine (ln _).mono ?_
  rintro e wb ⟨rfl, Fb⟩
  clear ln
  have Ob := Oa.below Fb
  clear Oa Fb
  obtain ⟨Ab, Vb⟩ := own_x Ob 1 rfl
  obtain ⟨ob, kb, rfl, _, _⟩ := Vb.is
  clear Vb
  have d0 : wb.cell? ⟨B1, 0, none⟩ = some (.string ⟨#[71, 69, 84]⟩) := Ab.cell 0
  have d1 : wb.cell? ⟨B1, 1, none⟩ = some (.string ⟨#[47, 118, 50, 47]⟩) := Ab.cell 1
  have d2 : wb.cell? ⟨B1, 2, none⟩ = some (.slice ob 1 kb) := Ab.cell 2
  have d3 : wb.cell? ⟨B1, 3, none⟩ = some (.bool false) := by
    have := Ab.cell 3
    rw [this]
    show some (Value.bool (closesF [fA] 1)) = _
    rw [clA]
  clear Ab
  have Cc := own_left Ob 0 rfl (by decide)
  go_wp2_with fail
  refine Cc.mono ?_
  rintro e wc ⟨rfl, Oc⟩
  clear Cc Ob d0 d1 d2 d3
  have Cd := own_add_bad Oc 3 rfl (by decide) ⟨#[120]⟩
  go_wp2_with fail
  refine Cd.mono ?_
  rintro e wd ⟨rfl, rfl⟩
  clear Cd
  have BE := Oc.bel
  clear Oc
  go_wp2
  go_ret
  exact ⟨rfl, BE⟩
end Go.Proofs.YtbngfphiachnoaaGreatDoor.In
