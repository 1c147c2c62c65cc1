/-
  PlankFails: an operation that fails, or in which the power goes, leaves all files as they were; those behind it go again.
-/
import Derived.Test.YtkhlcmponfkccaaPkFails
import Derived.OpenShut
import Derived.ProofKit
import Derived.ShutString
import Derived.Deep.Cut
import Derived.Laws.Bits64
namespace Go.Proofs.Ytkhlcmponfkccaa.PkLawFails
open Go.ChangeShapes Go.WideShapes Go.ChangeAt Go.RowKit Go.PlainAid Go.Proofs.Ytkhlcmponfkccaa.Pk
open Go.ChangeMaps (open_string shut_string)
set_option linter.unusedVariables false
set_option linter.unusedSimpArgs false

theorem u64_mod (x : Int) (m : Int) (hm : 0 < m) : (IntKind.u64.wrap x).tmod m = (x % 18446744073709551616) % m := by
  rw [IntKind.wrap_u64, Int.tmod_eq_emod_of_nonneg (by omega)]
theorem kk_cases (kind : Int) : wrap64 (1 + wrap64 ((IntKind.u64.wrap kind).tmod 2)) = 1 ∨ wrap64 (1 + wrap64 ((IntKind.u64.wrap kind).tmod 2)) = 2 := by
  rw [u64_mod _ 2 (by decide)]
  unfold wrap64
  omega
theorem par_even {k : Nat} (h : k % 2 = 0) : (k : Int).tmod 2 = 0 := by
  rw [Int.tmod_eq_emod_of_nonneg (by omega)]
  omega
theorem par_odd {k : Nat} (h : ¬ k % 2 = 0) : (k : Int).tmod 2 = 1 := by
  rw [Int.tmod_eq_emod_of_nonneg (by omega)]
  omega
def Calm (W w : World) (p k : Nat) : Prop := ∃ D, HasD W w p D [] ∧ D.kd = 0 ∧ D.off = false ∧ D.ops ≤ (k : Int)
theorem Calm.below {W w : World} {p k : Nat} (h : Calm W w p k) : Below W.heap.size W w := by
  obtain ⟨D, hd, _⟩ := h
  exact hd.below
set_option maxRecDepth 100000 in
set_option maxHeartbeats 3000000 in
theorem walk {v0 : Value} (xs : List Ac) (kind : Int) {W : World} (hv : ActsAt W v0 xs) (hl : xs.length ≤ 9223372036854775807) (w1 : (Lit.int .i64 kind).wf = true) (W' : World) :
    Calls Try.prog 5 #[v0, .int .i64 kind] W fun e w' => e = .returned (.bool true) ∧ Below W.heap.size W w' := by
  have AW := awake_any W
  have ST := Lib.hid fun w (hb : Below W.heap.size W w) => has_new W hb 1000
  obtain ⟨tb, tc, rfl, hc⟩ := hv.is
  have HC : ∀ k x, xs[k]? = some x → ∃ a : Addr, tb = some a ∧ ∀ w, Below W.heap.size W w → LoadsA Try.prog w 30 (a.add (k * 8)) x.cells := by
    intro k x hs
    obtain ⟨a, e, ha, hcell⟩ := hc k x hs
    exact ⟨a, e, fun w hb => loads_act fun i c hi => by rw [hb.cell (by rw [add_block, add_block]; exact ha)]; exact hcell i c hi⟩
  have CH := Lib.hid HC
  have OK := Lib.hid hv.ok
  have hz := zact
  clear hv hc HC
  go_enter Try.func5, Try.ntmps5
  go_wp2_with fail
  refine AW.mono ?_
  rintro e w1 ⟨rfl, hb1⟩
  have ST1 := ST.out w1 hb1
  clear AW ST hb1
  go_wp2_with fail
  refine ST1.mono ?_
  rintro e w2 ⟨p, rfl, h2⟩
  have C0 : Calm W w2 p 0 := ⟨_, h2, rfl, rfl, by simp [Dk.new]⟩
  clear ST1 h2
  go_wp2
  go_loopw [6] (fun i wr => ∃ k : Nat, k ≤ 150 ∧ i = .int .i64 k ∧ Calm W wr p k) (fun i _ => 150 - (intOf i).toNat)
  case atStart => exact ⟨0, by omega, rfl, C0⟩
  case round =>
    obtain ⟨k, hk, rfl, CM⟩ := hrel
    clear C0
    have bel := CM.below
    by_cases hlt : k < xs.length
    · have l1 : (k : Int) < (xs.length : Int) := by omega
      by_cases h150 : k < 150
      · have l2 : (k : Int) < 150 := by omega
        obtain ⟨x, hs⟩ : ∃ x, xs[k]? = some x := ⟨xs[k], List.getElem?_eq_getElem hlt⟩
        obtain ⟨a, rfl, ca⟩ := CH.out k x hs
        have LA := ca wr bel
        have hx := OK.out x (List.mem_of_getElem? hs)
        obtain ⟨D, hd, d1, d2, d3⟩ := CM
        obtain ⟨Y, S, hY, bY⟩ := box_act hd x
        have LB := act_loads (hY.at (List.mem_cons_self))
        have GR := Lib.hid fun w => great_any x w
        clear ca hs
        go_upto_region 8 with (first | refine wpl_loadA LA rfl rfl rfl ?_ | refine wpl_store S rfl rfl rfl rfl rfl ?_)
        have LT := in_heap (hY.at (List.mem_cons_self))
        clear S LA hd bY
        generalize wr.heap.size = B at *
        have GY := GR.out Y
        clear GR
        go_wp2_with (first | refine wpl_load LB rfl rfl rfl ?_)
        refine GY.mono ?_
        rintro e w3 ⟨rfl, hb3⟩
        clear GY LB
        have h3 := hY.kept hb3
        clear hY hb3 LT
        cases hgr : x.great with
        | true =>
          have bel3 := h3.below
          clear h3
          go_wp2
          go_ret
          exact ⟨rfl, bel3⟩
        | false =>
          by_cases he : k % 2 = 0
          · have he1 := par_even he
            have ops0 := h3.ok.ops0
            have LI := has_list h3
            go_wp2_with fail
            refine LI.mono ?_
            rintro e w4 ⟨v4, rfl, ⟨o4, c4, rfl, _⟩, h4, _⟩
            clear LI h3
            have US := has_used h4
            go_wp2_with fail
            refine US.mono ?_
            rintro e w5 ⟨rfl, h5, _⟩
            clear US h4
            have OP := has_ops h5
            go_wp2_with fail
            refine OP.mono ?_
            rintro e w5' ⟨rfl, rfl⟩
            clear OP
            have AR := Lib.hid fun kk : Int => has_arm h5 (by omega) 1 kk 0 (by decide)
            have kc := kk_cases kind
            clear h5
            go_wp2_with fail
            generalize wrap64 (1 + wrap64 ((IntKind.u64.wrap kind).tmod 2)) = kk at kc ⊢
            refine (AR.out kk).mono ?_
            rintro e w6 ⟨rfl, h6⟩
            clear AR
            have LB := act_loads (h6.at (List.mem_cons_self))
            have ao : (D.arm 1 kk 0).ops = D.ops := by unfold Dk.arm; split <;> rfl
            have DN := done_any h6 (by rw [ao]; omega) x hx hgr
            have FT := done_fault d2 kc x
            clear ao
            rcases FT with ⟨ee, eD⟩ | ⟨ee | ee, eL, eO⟩
            · rw [ee, eD] at DN
              clear h6
              go_wp2_with (first | refine wpl_load LB rfl rfl rfl ?_)
              refine DN.mono ?_
              rintro e w7 ⟨rfl, h7⟩
              clear DN LB
              have ao : (D.arm 1 kk 0).ops = D.ops := by unfold Dk.arm; split <;> rfl
              have au : (D.arm 1 kk 0).off = D.off := by unfold Dk.arm; split <;> rfl
              have A0 := has_arm h7 (by rw [ao]; omega) 0 0 0 (by decide)
              clear h7
              go_wp2_with fail
              refine A0.mono ?_
              rintro e wa ⟨rfl, ha⟩
              clear A0
              have CM : Calm W wa p (k + 1) := ⟨_, ha.none, by rw [arm_no], by rw [arm_no]; show (D.arm 1 kk 0).off = false; rw [au]; exact d2, by rw [arm_no]; show (D.arm 1 kk 0).ops ≤ _; rw [ao]; omega⟩
              clear ha ao au eD ee
              go_wp2
              go_roundw
              case rel => exact ⟨k + 1, by omega, by go_num, CM⟩
              case measure => simp [intOf]; omega
            · clear h6
              rw [ee] at DN
              go_wp2_with (first | refine wpl_load LB rfl rfl rfl ?_)
              refine DN.mono ?_
              rintro e w7 ⟨rfl, h7⟩
              clear DN LB
              generalize (D.arm 1 kk 0).doneA x = r at *
              obtain ⟨r1, D7⟩ := r
              simp only at h7 eL eO
              have LI := has_list h7
              go_wp2_with fail
              refine LI.mono ?_
              rintro e w8 ⟨v8, rfl, ⟨o8, c8, rfl, _⟩, h8, _⟩
              clear LI h7
              rw [eL]
              have US := has_used h8
              rw [eL] at US
              go_wp2_with fail
              refine US.mono ?_
              rintro e w9 ⟨rfl, h9, _⟩
              clear US h8
              have OP := has_ops h9
              rw [eO] at OP
              go_wp2_with fail
              refine OP.mono ?_
              rintro e w9' ⟨rfl, rfl⟩
              clear OP
              have A0 := has_arm h9 (by omega) 0 0 0 (by decide)
              clear h9
              go_wp2_with fail
              refine A0.mono ?_
              rintro e wa ⟨rfl, ha⟩
              clear A0
              have F0 := has_off ha
              clear ha
              go_wp2_with fail
              refine F0.mono ?_
              rintro e wb ⟨rfl, hb⟩
              clear F0
              have N0 := has_on hb
              clear hb
              go_wp2_with fail
              refine N0.mono ?_
              rintro e wc ⟨rfl, hc⟩
              clear N0
              obtain ⟨q1, q2, q3⟩ := calm_again D7 []
              have CM : Calm W wc p (k + 1) := ⟨_, hc.none, q1, q2, by rw [q3, eO]; omega⟩
              clear hc q1 q2 q3
              go_wp2
              go_roundw
              case rel => exact ⟨k + 1, by omega, by go_num, CM⟩
              case measure => simp [intOf]; omega
            · clear h6
              rw [ee] at DN
              go_wp2_with (first | refine wpl_load LB rfl rfl rfl ?_)
              refine DN.mono ?_
              rintro e w7 ⟨rfl, h7⟩
              clear DN LB
              generalize (D.arm 1 kk 0).doneA x = r at *
              obtain ⟨r1, D7⟩ := r
              simp only at h7 eL eO
              have LI := has_list h7
              go_wp2_with fail
              refine LI.mono ?_
              rintro e w8 ⟨v8, rfl, ⟨o8, c8, rfl, _⟩, h8, _⟩
              clear LI h7
              rw [eL]
              have US := has_used h8
              rw [eL] at US
              go_wp2_with fail
              refine US.mono ?_
              rintro e w9 ⟨rfl, h9, _⟩
              clear US h8
              have OP := has_ops h9
              rw [eO] at OP
              go_wp2_with fail
              refine OP.mono ?_
              rintro e w9' ⟨rfl, rfl⟩
              clear OP
              have A0 := has_arm h9 (by omega) 0 0 0 (by decide)
              clear h9
              go_wp2_with fail
              refine A0.mono ?_
              rintro e wa ⟨rfl, ha⟩
              clear A0
              have F0 := has_off ha
              clear ha
              go_wp2_with fail
              refine F0.mono ?_
              rintro e wb ⟨rfl, hb⟩
              clear F0
              have N0 := has_on hb
              clear hb
              go_wp2_with fail
              refine N0.mono ?_
              rintro e wc ⟨rfl, hc⟩
              clear N0
              obtain ⟨q1, q2, q3⟩ := calm_again D7 []
              have CM : Calm W wc p (k + 1) := ⟨_, hc.none, q1, q2, by rw [q3, eO]; omega⟩
              clear hc q1 q2 q3
              go_wp2
              go_roundw
              case rel => exact ⟨k + 1, by omega, by go_num, CM⟩
              case measure => simp [intOf]; omega
          · have he1 := par_odd he
            have he2 : ¬ (1 : Int) = 0 := by decide
            have LB := act_loads (h3.at (List.mem_cons_self))
            have DN := done_any h3 (by omega) x hx hgr
            obtain ⟨q1, q2, q3, q4, q5, _⟩ := done_calm d1 d2 x
            generalize D.doneA x = r at *
            obtain ⟨r1, D7⟩ := r
            simp only at q1 q2 q3 q4 q5 DN
            have q6 : (r1 == 11) = false := by simpa using q1
            have q7 : (r1 == 12) = false := by simpa using q2
            clear h3
            go_wp2_with (first | refine wpl_load LB rfl rfl rfl ?_)
            refine DN.mono ?_
            rintro e w7 ⟨rfl, h7⟩
            clear DN LB
            have CM : Calm W w7 p (k + 1) := ⟨_, h7.none, q3, q4, by omega⟩
            clear h7 q3 q4 q5
            go_wp2
            go_roundw
            case rel => exact ⟨k + 1, by omega, by go_num, CM⟩
            case measure => simp [intOf]; omega
      · have l2 : ¬ (k : Int) < 150 := by omega
        go_wp2
        go_ret
        exact ⟨rfl, bel⟩
    · have l1 : ¬ (k : Int) < (xs.length : Int) := by omega
      go_wp2
      go_ret
      exact ⟨rfl, bel⟩
theorem own : ownKnob Try.prog.godebug = none := by kernel_rfl

theorem laidOut : laidOutB Try.prog = true := by kernel_rfl
set_option maxRecDepth 100000 in
theorem lifted (os : Os) (started : os.Started) (H : Type) (enc : TypeId × Value → H) :
    ReturnsInHanded {} Try.checked os 5 .any (Rows.plankFailsSpec.pre6 enc Try.prog Try.f5 Rows.plankFailsRow.domain false) (Rows.plankFailsSpec.post enc Try.prog Try.f5 false true false false) := by
  refine returnsInHanded_of_change (C := Try.checked) own started (by kernel_rfl) Try.func5
    (ChangeSpec.witness6 (enc := enc) (C := Try.checked) false ⟨#[], #[.slice none 0 0, .int .i64 0], []⟩ 8 (by kernel_rfl) (by kernel_rfl) (by kernel_rfl) (by kernel_rfl)) ?_
  intro W base args ds gs before hval0 hW hcnd _
  have hval : ∀ (j : Nat) t v, Try.f5.params[j]? = some t → args[j]? = some v → Value.okWide Try.prog W .any base t v := hval0
  have hW' := hW
  obtain ⟨p, q, hA0, hV, rfl, hfz, hnd⟩ := hW
  have hA : DataW.TrodAll enc Try.prog W 0 (fun _ => true) true Try.f5.params.toList args.toList ds p := hA0
  rw [Try.params5] at hA hval
  obtain ⟨v0, vs0, d0, ds0, p0, q0, hargs, rfl, rfl, h0, r0⟩ := trodAll_cons hA
  obtain ⟨v1, vs1, d1, ds1, p1, q1, rfl, rfl, rfl, h1, r1⟩ := trodAll_cons r0
  obtain ⟨rfl, rfl, rfl⟩ := trodAll_nil r1
  obtain rfl : args = #[v0, v1] := by cases args; simp_all
  obtain ⟨rfl, rfl⟩ := trodVars_none hV
  obtain ⟨b0, len0, cap0, rfl⟩ := okWide_slice Try.underlying22 (hval 0 22 v0 rfl rfl)
  have hlt0 : ∀ x ∈ p0, x.block < W.heap.size := fun x hx => by simpa using hW'.lt x (by simp [hx])
  have hS0 : ∃ l : List Ac, ActsAt W (.slice b0 len0 cap0) l ∧ l.length ≤ 9223372036854775807 := by
    obtain ⟨fuel, hf⟩ := h0
    exact open_acts hf
  obtain ⟨a0, w0, y0⟩ := hS0
  obtain ⟨a1, rfl, rfl, rfl, w1⟩ := open_int Try.underlying3 (hval 1 3 v1 rfl rfl) h1
  clear hA0 hval0
  simp only [List.append_nil] at hW'
  refine (walk a0 a1 w0 y0 w1 W).mono fun e W' ⟨he, bel⟩ => ?_
  subst he
  exact ⟨_, rfl, _, _, _, [], _, [], hW', trodAll_mk1 (shut_bool Try.underlying4 _), (trodAll_cons_mk (Below.trod laidOut (by kernel_rfl) (of_decide_eq_true (by kernel_rfl)) h0 bel hlt0) (trodAll_cons_mk (shut_int Try.underlying3 w1) trodAll_mk0)), rfl, bel.frame _, fun h => by cases h⟩

theorem over : Rows.plankFailsRow.holds Try.pinned (OpenSpec.ofChange Rows.plankFailsSpec) :=
  OpenClaim.holds_of_wide 5 Try.f5 rfl rfl rfl rfl rfl rfl rfl ⟨rfl, rfl, rfl, rfl, rfl⟩ rfl rfl rfl rfl rfl (by kernel_rfl) Try.func5 (by kernel_rfl)
    (of_decide_eq_true (by kernel_rfl)) (by unfold Func.isWrapper; first | (rw [if_pos (by decide +kernel)]; kernel_rfl) | (rw [if_neg (by decide +kernel)]; exact ⟨rfl, rfl⟩))
    (fun os started H enc _ => lifted os started H enc)

theorem proved : Rows.PlankFailsSaid :=
  over
#print axioms proved
end Go.Proofs.Ytkhlcmponfkccaa.PkLawFails
