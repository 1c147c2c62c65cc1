/-
  FieldStays: an error stays the error, and a head that is whole stays it, whatever comes later: only of what is too short more may make something else. Conditions: none but that the two tables of package unicode/utf8 lie as the program's text lays them.
-/
import Derived.Test.YtdimjeajgmlfkaaDoorFiTabs
import Derived.Test.YtdimjeajgmlfkaaDoorFiLen
namespace Go.Proofs.YtdimjeajgmlfkaaDoor.fieldStays
open Go.RowKit Go.PlainAid
open Go.ChangeShapes Go.WideShapes Go.ChangeAt
open Go.ChangeMaps (open_string shut_string)
open Fi Hx
set_option linter.unusedVariables false
set_option maxRecDepth 20000
set_option linter.unusedSimpArgs false

theorem cut_num (x : Int) (n : Nat) : ∃ k : Nat, (IntKind.u64.wrap x).tmod ((n : Int) + 1) = (k : Int) ∧ k ≤ n := by
  have h0 : 0 ≤ IntKind.u64.wrap x := by rw [IntKind.wrap_u64]; omega
  rw [Int.tmod_eq_emod_of_nonneg h0]
  have h1 := Int.emod_nonneg (IntKind.u64.wrap x) (show ((n : Int) + 1) ≠ 0 by omega)
  have h2 := Int.emod_lt_of_pos (IntKind.u64.wrap x) (show 0 < (n : Int) + 1 by omega)
  exact ⟨(IntKind.u64.wrap x % ((n : Int) + 1)).toNat, by omega, by omega⟩
theorem w64 {x : Int} (h0 : -9223372036854775808 ≤ x) (h1 : x ≤ 9223372036854775807) : wrap64 x = x := by
  unfold wrap64; omega
theorem cut_one (x : Int) (n : Nat) (hn : n ≤ 8192) : ∃ k : Nat, k ≤ n ∧ wrap64 ((IntKind.u64.wrap x).tmod ((n : Int) + 1)) = (k : Int) := by
  obtain ⟨k, hk, hkl⟩ := cut_num x n
  refine ⟨k, hkl, ?_⟩
  rw [hk]; clear hk; exact w64 (by omega) (by omega)
theorem long (s : ByteArray) (at_ : Int) (w : World) (h0 : s.size ≤ maxLen) (h : 8192 < s.size) :
    Calls Tryd.prog 7 #[.string s, .int .i64 at_] w fun e w' => e = .returned (.bool true) ∧ Below w.heap.size w w' := by
  unfold maxLen at h0
  have d1 : (8192 : Int) < (s.size : Int) := by omega
  go_enter Tryd.func7, Tryd.ntmps7
  go_wp2_with fail
  refine (awake_any _).mono ?_
  rintro e w1 ⟨rfl, F1⟩
  go_wp2
  go_ret
  exact ⟨rfl, F1⟩
set_option maxHeartbeats 2000000 in
theorem short (s : ByteArray) (at_ : Int) (w : World) (h : s.size ≤ 8192) :
    Calls Tryd.prog 7 #[.string s, .int .i64 at_] w fun e w' => e = .returned (.bool true) ∧ Below w.heap.size w w' := by
  have d1 : ¬ (8192 : Int) < (s.size : Int) := by omega
  obtain ⟨k, hk, hkk⟩ := cut_one at_ s.size h
  have i1 : (0 : Int) ≤ (k : Int) := Int.natCast_nonneg _
  have i2 : (k : Int) ≤ (s.size : Int) := by omega
  have ex : ls (s.extract 0 k) = (ls s).take k := by rw [ls_extract, List.drop_zero, Nat.sub_zero]
  have r1 := fun w => split_any (s.extract 0 k) w (by rw [ByteArray.size_extract]; omega)
  have r2 := fun w => split_any s w (by omega)
  rw [ex] at r1
  have h32 := spl_32 (ls s)
  have hm := fun hne => spl_more ((ls s).take k) ((ls s).drop k) hne
  rw [List.take_append_drop] at hm
  clear ex
  generalize spl ((ls s).take k) = H1 at r1 hm
  generalize spl (ls s) = H2 at r2 hm h32
  by_cases c : H1.err = 17
  · have C := Lib.hid c
    clear c hm
    go_enter Tryd.func7, Tryd.ntmps7
    go_wp2_with fail
    refine (awake_any _).mono ?_
    rintro e w1 ⟨rfl, F1⟩
    go_wp2_with fail
    refine (r1 _).mono ?_
    rintro e w2 ⟨v2, rfl, V2, G2⟩
    rw [C.out]
    replace F1 := F1.trans (G2.mono F1.size)
    clear r1 G2 V2
    go_wp2_with fail
    refine (r2 _).mono ?_
    rintro e w3 ⟨v3, rfl, V3, G3⟩
    replace F1 := F1.trans (G3.mono F1.size)
    clear r2 G3 V3
    go_wp2
    go_ret
    exact ⟨rfl, F1⟩
  · obtain rfl : H2 = H1 := hm c
    have g : (H2.err == 17) = false := beq_eq_false_iff_ne.2 c
    have HL : Hid (H2.list.length ≤ 1099511627776) := Lib.hid (by omega)
    clear c hm
    go_enter Tryd.func7, Tryd.ntmps7
    go_wp2_with fail
    refine (awake_any _).mono ?_
    rintro e w1 ⟨rfl, F1⟩
    go_wp2_with fail
    refine (r1 _).mono ?_
    rintro e w2 ⟨v2, rfl, V2, G2⟩
    replace F1 := F1.trans (G2.mono F1.size)
    clear r1 G2
    go_wp2_with fail
    refine (r2 _).mono ?_
    rintro e w3 ⟨v3, rfl, V3, G3⟩
    replace F1 := F1.trans (G3.mono F1.size)
    have sm := sameR_any (V2.below G3) V3 HL.out HL.out
    rw [sameB_yes rfl] at sm
    clear r2 G3 V2 V3
    go_wp2_with fail
    refine sm.mono ?_
    rintro e w4 ⟨rfl, G4⟩
    replace F1 := F1.trans (G4.mono F1.size)
    clear sm G4
    go_wp2
    go_ret
    exact ⟨rfl, F1⟩
theorem walk (s : ByteArray) (at_ : Int) (w0 : s.size ≤ maxLen) (w1 : (Lit.int .i64 at_).wf = true) (w : World) (ht : True) :
    Calls Tryd.prog 7 #[.string s, .int .i64 at_] w fun e w' => e = .returned (.bool true) ∧ Below w.heap.size w w' := by
  by_cases h : s.size ≤ 8192
  · exact short s at_ w h
  · exact long s at_ w w0 (by omega)

theorem own : ownKnob Tryd.prog.godebug = none := by kernel_rfl
theorem contract (H : Type) (enc : TypeId × Value → H) (W : World) (base : Nat) (args : Array Value) (ds gs : List (DataW H)) (before : List MemPlace)
    (hval : ∀ (j : Nat) t v, Tryd.f7.params[j]? = some t → args[j]? = some v → Value.okWide Tryd.prog W .any base t v)
    (hW : DataW.Whole enc Tryd.prog Tryd.f7.params.toList Rows.fieldStaysSpec.vars false W args.toList ds gs before) (hL : laidMetH Tryd.prog Rows.fieldStaysRow.laid W) :
    Calls Tryd.prog 7 args W fun e W' => ∃ v, e = .returned v ∧ Rows.fieldStaysSpec.post enc Tryd.prog Tryd.f7 false true false false W args v W' := by
  have hW' := hW
  obtain ⟨p, q, hA0, hV, rfl, hfz, hnd⟩ := hW
  have hA : DataW.TrodAll enc Tryd.prog W 0 (fun _ => true) true Tryd.f7.params.toList args.toList ds p := hA0
  rw [Tryd.params7] at hA hval
  obtain ⟨v0, vs0, d0, ds0, p0, q0, hargs, rfl, rfl, h0, r0⟩ := trodAll_cons hA
  obtain ⟨v1, vs1, d1, ds1, p1, q1, rfl, rfl, rfl, h1, r1⟩ := trodAll_cons r0
  obtain ⟨rfl, rfl, rfl⟩ := trodAll_nil r1
  obtain rfl : args = #[v0, v1] := by cases args; simp_all
  obtain ⟨rfl, rfl⟩ := trodVars_none hV
  obtain ⟨a0, rfl, rfl, rfl, w0⟩ := open_string Tryd.underlying9 (hval 0 9 v0 rfl rfl) h0
  obtain ⟨a1, rfl, rfl, rfl, w1⟩ := open_int Tryd.underlying3 (hval 1 3 v1 rfl rfl) h1
  have ht := tabs_of hL
  clear hA0
  simp only [List.append_nil] at hW'
  refine (walk a0 a1 w0 w1 W ht).mono fun e W' ⟨he, bel⟩ => ?_
  subst he
  exact ⟨_, rfl, _, _, _, [], _, [], hW', trodAll_mk1 (shut_bool Tryd.underlying4 _), (trodAll_cons_mk (shut_string Tryd.underlying9 w0) (trodAll_cons_mk (shut_int Tryd.underlying3 w1) trodAll_mk0)), rfl, bel.frame _, fun h => by cases h⟩
theorem laid_met (os : Os) : laidMet Tryd.prog Rows.fieldStaysRow.laid ((laidWorld os).forCall (fun _ _ => 0) ⟨#[], #[.string ByteArray.empty, .int .i64 0], []⟩).memory :=
  laidMet_of_run' 8 (by kernel_rfl) (by kernel_rfl)
theorem reads (os : Os) {H : Type} (enc : TypeId × Value → H) : ∃ places, DataW.whole enc Tryd.prog ((laidWorld os).forCall (fun _ _ => 0) ⟨#[], #[.string ByteArray.empty, .int .i64 0], []⟩).memory Tryd.f7.params.toList Rows.fieldStaysSpec.vars false (#[.string ByteArray.empty, .int .i64 0] : Array Value).toList 8 = some ([.lit (.string []), .lit (.int .i64 0)], [], places) :=
  ⟨[], by kernel_rfl⟩
set_option maxRecDepth 100000 in
theorem lifted (os : Os) (started : os.Started) (H : Type) (enc : TypeId × Value → H) (F : Stop.Interp) :
    ReturnsInHanded {} Tryd.checked os 7 .any ((OpenSpec.ofChange Rows.fieldStaysSpec).preRow enc Tryd.prog Tryd.f7 Rows.fieldStaysRow.domain false Rows.fieldStaysRow.laid) (((OpenSpec.ofChange Rows.fieldStaysSpec).at F).post enc Tryd.prog Tryd.f7 false true false false) := by
  obtain ⟨places, hx⟩ := reads os enc
  refine returnsInHanded_of_row (C := Tryd.checked) (s := OpenSpec.ofChange Rows.fieldStaysSpec) own started (by kernel_rfl) Tryd.func7
    (witness_row_at (enc := enc) (C := Tryd.checked) false (laidWorld os) #[.string ByteArray.empty, .int .i64 0] rfl (by kernel_rfl) (by kernel_rfl) (by kernel_rfl)
      (OpenSpec.preRow_of_cond 8 hx (by kernel_rfl) (fun k hk => by cases hk) (by kernel_rfl) (laid_met os))) ?_
  intro W base args ds gs before hval hW _ _ _ hL _ _
  exact contract H enc W base args ds gs before hval hW hL
theorem said : Rows.FieldStaysSaid :=
  OpenClaim.holds_of_cond 7 Tryd.f7 rfl rfl rfl rfl rfl rfl rfl ⟨rfl, rfl, rfl, rfl, rfl⟩ rfl rfl rfl rfl rfl (by kernel_rfl) Tryd.func7 (by kernel_rfl)
    (of_decide_eq_true (by kernel_rfl)) (by unfold Func.isWrapper; first | (rw [if_pos (by decide +kernel)]; kernel_rfl) | (rw [if_neg (by decide +kernel)]; exact ⟨rfl, rfl⟩))
    (fun os started H enc _ F => by rw [OpenClaim.pre_eq_preRow]; exact lifted os started H enc F)
theorem plain (f : FuncId) (fn : Func) (hf : Tryd.pinned.checked.prog.funcNamed "manciple/manciplelaw10.FieldStays" = some f) (hfn : Tryd.pinned.checked.prog.funcs[f]? = some fn) :
    false = Tryd.pinned.checked.prog.looks [] ∧ ∀ (j : Nat) t, fn.params[j]? = some t → Tryd.pinned.checked.prog.wantsStandIn t = false := by
  obtain rfl : f = 7 := Option.some.inj ((show Tryd.prog.funcNamed "manciple/manciplelaw10.FieldStays" = some 7 by kernel_rfl).symm.trans hf) |>.symm
  obtain rfl : fn = Tryd.f7 := (Option.some.inj (Tryd.func7.symm.trans hfn)).symm
  refine ⟨by kernel_rfl, fun j t ht => ?_⟩
  rw [Tryd.params7] at ht
  have hm : t ∈ [9, 3] := by simpa using Array.mem_of_getElem? ht
  have hall : ([9, 3].all fun u => !Tryd.prog.wantsStandIn u) = true := by kernel_rfl
  exact (show Tryd.prog.wantsStandIn t = false by simpa using List.all_eq_true.1 hall t hm)
theorem proved : Rows.FieldStaysCardSaid :=
  Claim7.holds_tied_plain_at .later [] _ _ _ _ said (fun _ h => by cases h) (by kernel_rfl) (fun _ h => by cases h) fieldStays_row_tie rfl ⟨rfl, rfl⟩ (by kernel_rfl) rfl plain (by kernel_rfl)
#print axioms proved
end Go.Proofs.YtdimjeajgmlfkaaDoor.fieldStays
