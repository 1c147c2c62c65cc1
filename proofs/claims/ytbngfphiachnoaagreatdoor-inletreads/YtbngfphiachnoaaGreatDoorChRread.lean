/-
  Contract of Read of the document's answers.
-/
import Derived.Test.YtbngfphiachnoaaGreatDoorChRefB
namespace Go.Proofs.YtbngfphiachnoaaGreatDoor.Ch
open Go.RowKit Go.PlainAid
open Hx Fi
set_option linter.unusedVariables false
set_option maxRecDepth 20000
set_option linter.unusedSimpArgs false

/-- at the end of a body the data is whole -/
def Md.isTail : Md → Bool
  | .trail _ _ => true
  | .done _ => true
  | .err _ => true
  | _ => false
theorem endT_tail (k : Nat) (a : List UInt8) : (endT k a).isTail = true := by
  unfold endT
  split
  · split
    · rfl
    · split
      · split <;> rfl
      · rfl
  · rfl
theorem run_tail {most : Nat} : ∀ (l : List UInt8) (s : CS), s.md.isTail = true → (run most s l).u = s.u
  | [], s, _ => rfl
  | b :: l, s, h => by
    rw [run_cons]
    have hs : (stepB most s b).md.isTail = true ∧ (stepB most s b).u = s.u := by
      obtain ⟨md, n, u⟩ := s
      cases md with
      | trail acc k =>
        unfold stepB
        simp only
        by_cases c : b = 10
        · rw [if_pos c]; exact ⟨endT_tail _ _, rfl⟩
        · rw [if_neg c]
          split <;> exact ⟨rfl, rfl⟩
      | done r => exact ⟨rfl, rfl⟩
      | err e => exact ⟨rfl, rfl⟩
      | _ => cases h
    rw [run_tail l _ hs.1, hs.2]
theorem line_err {most n : Nat} {u l : List UInt8} {e0 : Int} (h : lnF l = .err e0) : (run most ⟨.line [], n, u⟩ l).md.isDone = false ∧ (run most ⟨.line [], n, u⟩ l).md.error = enE 0 e0 ∧ (run most ⟨.line [], n, u⟩ l).u = u := by
  obtain ⟨_, h⟩ := lnF_err h
  rcases h with ⟨hq, ⟨c, rfl⟩ | ⟨c, rfl⟩⟩ | ⟨t, hq, c, rfl⟩
  · rw [read_line_bad hq c]; exact ⟨rfl, rfl, rfl⟩
  · rw [read_line_wait hq c]; exact ⟨rfl, rfl, rfl⟩
  · rw [read_line hq, endL_bad c, run_err]; exact ⟨rfl, rfl, rfl⟩
def mdN : Except Int Nat → Md
  | .error e => .err e
  | .ok 0 => .trail [] 0
  | .ok (k + 1) => .data (k + 1)
theorem line_ok {most n m : Nat} {u l x : List UInt8} (h : lnF l = .ok x m) : run most ⟨.line [], n, u⟩ l = run most ⟨mdN (numF x ((most : Int) - (n : Int))), n, u⟩ (l.drop m) := by
  obtain ⟨hq, hm, _⟩ := lnF_ok h
  rw [read_line hq, hm, List.length_append, List.length_singleton]
  congr 2
  unfold endL
  rw [if_pos (by simp), List.dropLast_concat]
  unfold mdN
  split <;> simp_all
/-- where the walk of Read stands -/
structure RInv (w wr : World) (p : Nat) (d s : ByteArray) (M : Nat) (R : CS) (i : Nat) : Prop where
  a : At wr (p + 1) 66 (bdV d false 0 0)
  b : At wr p 66 (bdV ⟨#[]⟩ false 0 0)
  bel : Below p w wr
  run : Ch.run M ⟨.line [], d.size, ls d⟩ ((ls s).drop i) = R
  hi : i ≤ s.size
  hn : d.size ≤ i
theorem mdN_data {k : Nat} (h : k ≠ 0) : mdN (.ok k) = .data k := by
  cases k with
  | zero => exact absurd rfl h
  | succ k => rfl
section
variable {most n : Nat} {u : List UInt8}
theorem cr_one : run most ⟨.cr, n, u⟩ [13] = ⟨.lf, n, u⟩ := rfl
theorem cr_bad {c : UInt8} (h : c ≠ 13) (r : List UInt8) : run most ⟨.cr, n, u⟩ (c :: r) = ⟨.err 3, n, u⟩ := by
  rw [run_cons]
  show run most ⟨if c = 13 then .lf else .err 3, n, u⟩ r = _
  rw [if_neg h, run_err]
theorem cr_bad2 {c : UInt8} (h : c ≠ 10) (r : List UInt8) : run most ⟨.cr, n, u⟩ (13 :: c :: r) = ⟨.err 3, n, u⟩ := by
  rw [run_cons, run_cons]
  show run most ⟨if c = 10 then .line [] else .err 3, n, u⟩ r = _
  rw [if_neg h, run_err]
theorem cr_two (r : List UInt8) : run most ⟨.cr, n, u⟩ (13 :: 10 :: r) = run most ⟨.line [], n, u⟩ r := rfl
end
/-- the start of the two bytes behind data -/
theorem crlf_cut (j : Nat) (jI : Int) (e : jI = j) (h : j ≤ 2) (w : World) : (Instr.slice 9 (.string ⟨#[13, 10]⟩) none (some (.int .i64 jI)) none).run Tryz.prog w = .ok (.string ((⟨#[13, 10]⟩ : ByteArray).extract 0 j)) w := by
  have hx := run_slice_string_to_if (P := Tryz.prog) (w := w) 9 ⟨#[13, 10]⟩ .i64 jI Tryz.underlying9
  rw [if_pos ⟨by omega, by show jI ≤ 2; omega⟩, show jI.toNat = j by omega] at hx
  exact hx
theorem body_of {d s : ByteArray} {R : CS} {er : Int} (h1 : R.md.isDone = false) (h2 : R.md.error = er) (h3 : R.u = ls d) : bodyOf (tx R.u) R s = bdV d false 0 er := by
  unfold bodyOf
  rw [h1, h2, h3, show tx (ls d) = d from ls_inj (by rw [ls_tx])]
  rfl
set_option maxRecDepth 100000 in
set_option maxHeartbeats 8000000 in
theorem rread_pos (s : ByteArray) (M : Nat) (hs : s.size ≤ 1048576) (hMb : (M : Int) ≤ 9223372036854775807) (w : World) :
    Calls Tryz.prog 30 #[.string s, .int .i64 (M : Int)] w fun x w' => x = .returned (.agg (bodyOf (tx (run M init (ls s)).u) (run M init (ls s)) s)) ∧ Below w.heap.size w w' := by
  obtain ⟨B0, A0, F0⟩ := two_bodies w ⟨#[]⟩ false 0 0
  unfold bdV at A0 B0 F0
  have HS := Lib.hid hs
  obtain ⟨R, hR⟩ : ∃ R, R = run M init (ls s) := ⟨_, rfl⟩
  rw [← hR]
  have HR := Lib.hid hR
  clear hR
  go_enter Tryz.func30, Tryz.ntmps30
  go_upto_region 1 with (fail)
  have S0 := bd_stores (d' := ⟨#[]⟩) (dn' := false) (sz' := 0) (er' := 0) A0
  have A1 := A0.row (bdV ⟨#[]⟩ false 0 0)
  have B1 := B0.rowOther (B := w.heap.size + 1) (ds := bdV ⟨#[]⟩ false 0 0) (by omega)
  have F1 := below_row (cs := bdV ⟨#[]⟩ false 0 0) F0 (Nat.le_succ _)
  go_upto_region 2 with (refine wpl_store S0 rfl rfl rfl rfl rfl ?_)
  generalize World.setRow _ (w.heap.size + 1) _ = w1 at A1 B1 F1 ⊢
  clear S0 A0 B0 F0
  go_wp2_with fail
  have I0 : Hid (RInv w w1 w.heap.size ⟨#[]⟩ s M R 0) := Lib.hid ⟨A1, B1, F1, HR.out.symm, Nat.zero_le _, Nat.le_refl _⟩
  clear A1 B1 F1 HR
  go_loopw [6] (fun a wr => ∃ (i : Nat) (d : ByteArray), a = .int .i64 i ∧ RInv w wr w.heap.size d s M R i) (fun a _ => s.size - (intOf a).toNat)
  case atStart => exact ⟨0, ⟨#[]⟩, rfl, I0.out⟩
  case round =>
    clear I0
    obtain ⟨i, d, rfl, I⟩ := hrel
    have AA := I.a
    have BB := I.b
    have FF := I.bel
    have hi := I.hi
    have hn := I.hn
    have rl := rline_any s i hi HS.out wr
    unfold lnPost at rl
    have HL : Hid (∀ x m, lnF ((ls s).drop i) = .ok x m → i + m ≤ s.size ∧ 0 < m) := Lib.hid (fun x m h => by
      obtain ⟨_, h1, h2, _⟩ := lnF_ok h
      rw [List.length_drop, ls_len] at h2
      omega)
    go_wp2_with fail
    refine rl.mono ?_
    rintro x0 w2 (⟨e0, hl, rfl, rfl⟩ | ⟨x, m, hl, rfl, rfl⟩)
    · obtain ⟨t1, t2, t3⟩ := line_err (most := M) (n := d.size) (u := ls d) hl
      rw [I.run] at t1 t2 t3
      have e0v := (lnF_err hl).1
      have g0 : (e0 != 0) = true := by rw [bne_iff_ne]; omega
      have HB : Hid (bodyOf (tx R.u) R s = bdV d false 0 (enE 0 e0)) := Lib.hid (body_of t1 t2 t3)
      clear rl hl I t1 t2 t3 e0v HL hi hn
      have L1 := bd_loads AA
      go_wp2_with (refine wpl_load L1 rfl rfl rfl ?_)
      refine (ended_any d false 0 0 e0 _).mono ?_
      rintro x we ⟨rfl, ge⟩
      have B1 := BB.old ge
      have F1 := FF.trans (ge.mono (by have := BB.lt; omega))
      have S1 := bd_stores (d' := d) (dn' := false) (sz' := 0) (er' := (enE 0 (e0))) B1
      have B9 := B1.row (bdV d false 0 (enE 0 (e0)))
      have F9 := below_row (cs := bdV d false 0 (enE 0 (e0))) F1 (Nat.le_refl _)
      generalize we.setRow w.heap.size (bdV d false 0 (enE 0 (e0))) = w9 at S1 B9 F9
      clear L1 ge B1 F1
      go_wp2_with (refine wpl_store S1 rfl rfl rfl rfl rfl ?_)
      exact bodyPost_ret (results_one Tryz.results30 _ rfl (bd_loads B9)) rfl ⟨by rw [HB.out], F9⟩
    · have hrun := line_ok (most := M) (n := d.size) (u := ls d) hl
      rw [I.run, List.drop_drop] at hrun
      obtain ⟨hm1, hm2⟩ := HL.out x m hl
      have hlx : x.length ≤ 254 := (lnF_ok hl).2.2.2
      clear rl hl I HL
      obtain ⟨j, hj⟩ : ∃ j, j = i + m := ⟨_, rfl⟩
      rw [← hj] at hrun hm1 ⊢
      have hij : i < j := by omega
      have hdj : d.size ≤ j := by omega
      clear hj hm2 hn
      have rn := fun w => rnumber_any (tx x) ((M : Int) - (d.size : Int)) w (by rw [tx_size]; omega) (by have := HS.out; omega) (by omega)
      unfold numPost at rn
      rw [ls_tx] at rn
      generalize tx x = X at rn ⊢
      have nerr := fun e => @numF_err x ((M : Int) - (d.size : Int)) e
      have nok := fun n => @numF_ok x ((M : Int) - (d.size : Int)) n
      generalize numF x ((M : Int) - (d.size : Int)) = q at rn hrun nerr nok
      clear hlx
      have sz := HS.out
      have c0 : wr.cell? ⟨w.heap.size + 1, 0, none⟩ = some (.string d) := AA.cell 0
      cases q with
      | error e =>
        obtain hs2 := nerr e rfl
        clear nerr nok
        rw [show mdN (.error e) = Md.err e from rfl, run_err] at hrun
        have g1 : (e != 0) = true := by rw [bne_iff_ne]; omega
        have HB : Hid (bodyOf (tx R.u) R s = bdV d false 0 (enE 0 e)) := Lib.hid (body_of (by rw [hrun]; rfl) (by rw [hrun]; unfold enE; rw [if_neg (by omega)]; rfl) (by rw [hrun]))
        clear hrun hs2
        simp only [szN, szE] at rn
        go_wp2_with fail
        refine (rn _).mono ?_
        rintro x1 w3 ⟨rfl, rfl⟩
        clear rn c0
        have L1 := bd_loads AA
        go_wp2_with (refine wpl_load L1 rfl rfl rfl ?_)
        refine (ended_any d false 0 0 e _).mono ?_
        rintro x we ⟨rfl, ge⟩
        have B1 := BB.old ge
        have F1 := FF.trans (ge.mono (by have := BB.lt; omega))
        have S1 := bd_stores (d' := d) (dn' := false) (sz' := 0) (er' := (enE 0 (e))) B1
        have B9 := B1.row (bdV d false 0 (enE 0 (e)))
        have F9 := below_row (cs := bdV d false 0 (enE 0 (e))) F1 (Nat.le_refl _)
        generalize we.setRow w.heap.size (bdV d false 0 (enE 0 (e))) = w9 at S1 B9 F9
        clear L1 ge B1 F1
        go_wp2_with (refine wpl_store S1 rfl rfl rfl rfl rfl ?_)
        exact bodyPost_ret (results_one Tryz.results30 _ rfl (bd_loads B9)) rfl ⟨by rw [HB.out], F9⟩
      | ok k =>
        have hk2 := nok k rfl
        clear nerr nok
        simp only [szN, szE] at rn
        go_wp2_with fail
        refine (rn _).mono ?_
        rintro x1 w3 ⟨rfl, rfl⟩
        clear rn
        by_cases hk : k = 0
        · subst hk
          rw [show mdN (.ok 0) = Md.trail [] 0 from rfl] at hrun
          have hu : R.u = ls d := by rw [hrun, run_tail _ _ rfl]
          have g1 : ((((0 : Nat) : Int)) == 0) = true := rfl
          have HB := Lib.hid (show tx R.u = d by rw [hu]; exact ls_inj (by rw [ls_tx]))
          have la := fun w => last_any d s j hm1 HS.out hrun.symm w
          clear hu hrun
          have L1 := bd_loads AA
          go_wp2_with (refine wpl_load L1 rfl rfl rfl ?_)
          refine (la _).mono ?_
          rintro x2 we ⟨rfl, ge⟩
          have B1 := BB.old ge
          have F1 := FF.trans (ge.mono (by have := BB.lt; omega))
          obtain ⟨bd, bs, be, hbd⟩ : ∃ dn sz er, bodyOf d R s = bdV d dn sz er := ⟨_, _, _, rfl⟩
          have HC := Lib.hid hbd
          rw [hbd]
          clear hbd la
          have S1 := bd_stores (d' := d) (dn' := bd) (sz' := bs) (er' := be) B1
          have B9 := B1.row (bdV d bd bs be)
          have F9 := below_row (cs := bdV d bd bs be) F1 (Nat.le_refl _)
          generalize we.setRow w.heap.size (bdV d bd bs be) = w9 at S1 B9 F9
          clear L1 ge B1 F1
          go_wp2_with (refine wpl_store S1 rfl rfl rfl rfl rfl ?_)
          exact bodyPost_ret (results_one Tryz.results30 _ rfl (bd_loads B9)) rfl ⟨by rw [HB.out, HC.out], F9⟩
        · rw [mdN_data hk] at hrun
          have g1 : ((k : Int) == 0) = false := by rw [beq_eq_false_iff_ne]; omega
          have hdz := hdj
          by_cases hfew : s.size - j < k
          · have sl := slice_two s j s.size (j : Int) (s.size : Int) rfl rfl (by omega) (by omega)
            have jz : (j : Int) + ((s.size : Int) - (j : Int)) = (s.size : Int) := by omega
            have hlen : ((ls s).drop j).length = s.size - j := by rw [List.length_drop, ls_len]
            rw [run_data d.size (ls d) _ d.size (ls d) k (by omega), show (ls s).drop j = ls (s.extract j s.size) by rw [ls_extract]; exact (List.take_of_length_le (by rw [hlen]; exact Nat.le_refl _)).symm] at hrun
            have hXz : (s.extract j s.size).size = s.size - j := by rw [ByteArray.size_extract]; omega
            have hsum : d.size + (s.extract j s.size).size ≤ 9223372036854775807 := by omega
            clear hXz
            generalize s.extract j s.size = X at sl hrun hsum
            have HB : Hid (bodyOf (tx R.u) R s = bdV (d ++ X) false 0 0) := Lib.hid (body_of (by rw [hrun]; rfl) (by rw [hrun]; rfl) (by rw [hrun]; simp [ls]))
            have i1 : (s.size : Int) - (j : Int) < (k : Int) := by omega
            have mi : min (k : Int) ((s.size : Int) - (j : Int)) = (s.size : Int) - (j : Int) := by omega
            have i2 : ¬ (k : Int) ≤ (s.size : Int) - (j : Int) := by omega
            have wz : IntKind.i64.wrap (s.size : Int) = (s.size : Int) := IntWalk.i64_in _ (by omega)
            clear hrun hlen hk hfew
            go_upto_region 14 with (fail)
            clear c0
            have c0 : wr.cell? ⟨w.heap.size + 1, 0, none⟩ = some (.string d) := AA.cell 0
            have f0 := AA.frozen 0
            refine wp_region_any (by kernel_rfl) ?_
            change wpAny _ _ _ _ _ _ _ wr.drew
            refine any_take 0 (.pointer (some ⟨w.heap.size + 1, 0, none⟩)) rfl (by kernel_rfl) (by kernel_rfl) (by kernel_rfl) (fun _ _ _ h => h) (Or.inl ⟨by rfl, fun x => by go_simp⟩) (fun K hK => ?_)
            go_simp
            refine hK _ _ ?_
            clear hK K
            refine any_take 2 (.string s) rfl (by kernel_rfl) (by kernel_rfl) (by kernel_rfl) (fun _ _ _ h => h) (Or.inl ⟨by rfl, fun x => by go_simp⟩) (fun K hK => ?_)
            go_simp
            refine hK _ _ ?_
            clear hK K
            refine any_take 3 (.int .i64 (j : Int)) rfl (by kernel_rfl) (by kernel_rfl) (by kernel_rfl) (fun _ _ _ h => h) (Or.inl ⟨by rfl, fun x => by go_simp⟩) (fun K hK => ?_)
            go_simp
            refine hK _ _ ?_
            clear hK K
            refine any_take 4 (.int .i64 (j : Int)) rfl (by kernel_rfl) (by kernel_rfl) (by kernel_rfl) (fun _ _ _ h => h) (Or.inl ⟨by rfl, fun x => by go_simp⟩) (fun K hK => ?_)
            go_simp
            refine hK _ _ ?_
            clear hK K
            refine any_take 5 (.int .i64 ((s.size : Int) - (j : Int))) rfl (by kernel_rfl) (by kernel_rfl) (by kernel_rfl) (fun _ _ _ h => h) (Or.inl ⟨by rfl, fun x => by go_simp⟩) (fun K hK => ?_)
            go_simp
            refine hK _ _ ?_
            clear hK K
            refine any_take 6 (.int .i64 (s.size : Int)) rfl (by kernel_rfl) (by kernel_rfl) (by kernel_rfl) (fun _ _ _ h => h) (Or.inl ⟨by rfl, fun x => by go_simp⟩) (fun K hK => ?_)
            go_simp
            refine hK _ _ ?_
            clear hK K
            refine any_take 7 (.string X) rfl (by kernel_rfl) (by kernel_rfl) (by kernel_rfl) (fun _ _ _ h => h) (Or.inl ⟨by rfl, fun x => by go_simp⟩) (fun K hK => ?_)
            go_simp
            refine hK _ _ ?_
            clear hK K
            refine any_one 1 (by kernel_rfl) (fun K hK => wpOp_in rfl rfl ?_)
            go_simp
            refine hK _ _ ?_
            clear hK K
            refine any_take 8 (.string (d ++ X)) rfl (by kernel_rfl) (by kernel_rfl) (by kernel_rfl) (fun _ _ _ h => h) (Or.inl ⟨by rfl, fun x => by go_simp⟩) (fun K hK => ?_)
            go_simp
            refine hK _ _ ?_
            clear hK K
            refine any_take 9 (.pointer (some ⟨w.heap.size + 1, 0, none⟩)) rfl (by kernel_rfl) (by kernel_rfl) (by kernel_rfl) (fun _ _ _ h => h) (Or.inl ⟨by rfl, fun x => by go_simp⟩) (fun K hK => ?_)
            go_simp
            refine hK _ _ ?_
            clear hK K
            refine any_one 10 (by kernel_rfl) (fun K hK => wpOp_in rfl rfl ?_)
            go_simp
            refine hK _ _ ?_
            clear hK K
            refine wpAny_done (by kernel_rfl) ?_ _
            replace AA : At (wr.setCell ⟨w.heap.size + 1, 0, none⟩ (.string (d ++ X))) (w.heap.size + 1) 66 (bdV (d ++ X) false 0 0) := AA.set 0 (.string (d ++ X))
            replace AA := AA.drew
            replace BB := (BB.other (a := ⟨w.heap.size + 1, 0, none⟩) (by show w.heap.size ≠ w.heap.size + 1; omega) (.string (d ++ X))).drew
            replace FF := (below_set FF 0 (.string (d ++ X)) (Nat.le_succ w.heap.size)).drew
            clear c0 f0 sl
            generalize (wr.setCell ⟨w.heap.size + 1, 0, none⟩ (.string (d ++ X))).drew = w4 at AA BB FF ⊢
            have L1 := bd_loads AA
            have S1 := bd_stores (d' := (d ++ X)) (dn' := false) (sz' := 0) (er' := 0) BB
            have B9 := BB.row (bdV (d ++ X) false 0 0)
            have F9 := below_row (cs := bdV (d ++ X) false 0 0) FF (Nat.le_refl _)
            generalize w4.setRow w.heap.size (bdV (d ++ X) false 0 0) = w9 at S1 B9 F9
            go_wp2_with (first | refine wpl_load L1 rfl rfl rfl ?_ | refine wpl_store S1 rfl rfl rfl rfl rfl ?_)
            exact bodyPost_ret (results_one Tryz.results30 _ rfl (bd_loads B9)) rfl ⟨by rw [HB.out], F9⟩
          · obtain ⟨j2, hj2⟩ : ∃ j2 : Nat, j2 = j + k := ⟨_, rfl⟩
            have jz : (j : Int) + (k : Int) = (j2 : Int) := by omega
            have hj3 : j2 ≤ s.size := by omega
            have hij2 : i < j2 := by omega
            have sl := slice_two s j j2 (j : Int) (j2 : Int) rfl rfl (by omega) hj3
            have hXz : (s.extract j j2).size = k := by rw [ByteArray.size_extract]; omega
            have hXl : ls (s.extract j j2) = ((ls s).drop j).take k := by rw [ls_extract, show j2 - j = k by omega]
            have hsp : (ls s).drop j = ls (s.extract j j2) ++ (ls s).drop j2 := by rw [hXl, hj2, ← List.drop_drop, List.take_append_drop]
            generalize s.extract j j2 = X at sl hXz hsp
            clear hXl
            rw [hsp, run_append, run_data_all (ls X) d.size (ls d) k (by rw [ls_len]; exact hXz) (by omega), show d.size + k = (d ++ X).size by rw [ByteArray.size_append]; omega, show ls d ++ ls X = ls (d ++ X) by simp [ls]] at hrun
            have hDn : (d ++ X).size ≤ j2 := by rw [ByteArray.size_append]; omega
            have hsum : d.size + X.size ≤ 9223372036854775807 := by omega
            have i1 : (k : Int) ≤ (s.size : Int) - (j : Int) := by omega
            have i2 : ¬ (s.size : Int) - (j : Int) < (k : Int) := by omega
            have mi : min (k : Int) ((s.size : Int) - (j : Int)) = (k : Int) := by omega
            have wz : IntKind.i64.wrap (j2 : Int) = (j2 : Int) := IntWalk.i64_in _ (by omega)
            clear hXz hsp hj2 hk hfew hm1 hdj hdz hij
            go_upto_region 14 with (fail)
            clear c0
            have c0 : wr.cell? ⟨w.heap.size + 1, 0, none⟩ = some (.string d) := AA.cell 0
            have f0 := AA.frozen 0
            refine wp_region_any (by kernel_rfl) ?_
            change wpAny _ _ _ _ _ _ _ wr.drew
            refine any_take 0 (.pointer (some ⟨w.heap.size + 1, 0, none⟩)) rfl (by kernel_rfl) (by kernel_rfl) (by kernel_rfl) (fun _ _ _ h => h) (Or.inl ⟨by rfl, fun x => by go_simp⟩) (fun K hK => ?_)
            go_simp
            refine hK _ _ ?_
            clear hK K
            refine any_take 2 (.string s) rfl (by kernel_rfl) (by kernel_rfl) (by kernel_rfl) (fun _ _ _ h => h) (Or.inl ⟨by rfl, fun x => by go_simp⟩) (fun K hK => ?_)
            go_simp
            refine hK _ _ ?_
            clear hK K
            refine any_take 3 (.int .i64 (j : Int)) rfl (by kernel_rfl) (by kernel_rfl) (by kernel_rfl) (fun _ _ _ h => h) (Or.inl ⟨by rfl, fun x => by go_simp⟩) (fun K hK => ?_)
            go_simp
            refine hK _ _ ?_
            clear hK K
            refine any_take 4 (.int .i64 (j : Int)) rfl (by kernel_rfl) (by kernel_rfl) (by kernel_rfl) (fun _ _ _ h => h) (Or.inl ⟨by rfl, fun x => by go_simp⟩) (fun K hK => ?_)
            go_simp
            refine hK _ _ ?_
            clear hK K
            refine any_take 5 (.int .i64 ((k : Int))) rfl (by kernel_rfl) (by kernel_rfl) (by kernel_rfl) (fun _ _ _ h => h) (Or.inl ⟨by rfl, fun x => by go_simp⟩) (fun K hK => ?_)
            go_simp
            refine hK _ _ ?_
            clear hK K
            refine any_take 6 (.int .i64 (j2 : Int)) rfl (by kernel_rfl) (by kernel_rfl) (by kernel_rfl) (fun _ _ _ h => h) (Or.inl ⟨by rfl, fun x => by go_simp⟩) (fun K hK => ?_)
            go_simp
            refine hK _ _ ?_
            clear hK K
            refine any_take 7 (.string X) rfl (by kernel_rfl) (by kernel_rfl) (by kernel_rfl) (fun _ _ _ h => h) (Or.inl ⟨by rfl, fun x => by go_simp⟩) (fun K hK => ?_)
            go_simp
            refine hK _ _ ?_
            clear hK K
            refine any_one 1 (by kernel_rfl) (fun K hK => wpOp_in rfl rfl ?_)
            go_simp
            refine hK _ _ ?_
            clear hK K
            refine any_take 8 (.string (d ++ X)) rfl (by kernel_rfl) (by kernel_rfl) (by kernel_rfl) (fun _ _ _ h => h) (Or.inl ⟨by rfl, fun x => by go_simp⟩) (fun K hK => ?_)
            go_simp
            refine hK _ _ ?_
            clear hK K
            refine any_take 9 (.pointer (some ⟨w.heap.size + 1, 0, none⟩)) rfl (by kernel_rfl) (by kernel_rfl) (by kernel_rfl) (fun _ _ _ h => h) (Or.inl ⟨by rfl, fun x => by go_simp⟩) (fun K hK => ?_)
            go_simp
            refine hK _ _ ?_
            clear hK K
            refine any_one 10 (by kernel_rfl) (fun K hK => wpOp_in rfl rfl ?_)
            go_simp
            refine hK _ _ ?_
            clear hK K
            refine wpAny_done (by kernel_rfl) ?_ _
            replace AA : At (wr.setCell ⟨w.heap.size + 1, 0, none⟩ (.string (d ++ X))) (w.heap.size + 1) 66 (bdV (d ++ X) false 0 0) := AA.set 0 (.string (d ++ X))
            replace AA := AA.drew
            replace BB := (BB.other (a := ⟨w.heap.size + 1, 0, none⟩) (by show w.heap.size ≠ w.heap.size + 1; omega) (.string (d ++ X))).drew
            replace FF := (below_set FF 0 (.string (d ++ X)) (Nat.le_succ w.heap.size)).drew
            clear c0 f0 sl
            generalize (wr.setCell ⟨w.heap.size + 1, 0, none⟩ (.string (d ++ X))).drew = w4 at AA BB FF ⊢
            clear i1 i2 mi hsum
            generalize d ++ X = D at AA BB FF hrun hDn ⊢
            go_upto_region 18 with (fail)
            by_cases hz2 : j2 + 2 < s.size
            · have sl := slice_two s j2 (j2 + 2) (j2 : Int) ((j2 : Int) + 2) rfl (by omega) (by omega) (by omega)
              have sl4 := crlf_cut 2 2 rfl (by omega)
              rw [show (⟨#[13, 10]⟩ : ByteArray).extract 0 2 = ⟨#[13, 10]⟩ from ls_inj (by rw [ls_extract]; rfl)] at sl4
              have ez : (s.extract j2 ((j2 + 2))).size = 2 := by rw [ByteArray.size_extract]; omega
              obtain ⟨c, e, hl2⟩ : ∃ c e, (ls s).drop j2 = c :: e :: (ls s).drop (j2 + 2) := by
                have h1 := List.drop_eq_getElem_cons (l := ls s) (i := j2) (by rw [ls_len]; omega)
                have h2 := List.drop_eq_getElem_cons (l := ls s) (i := j2 + 1) (by rw [ls_len]; omega)
                exact ⟨_, _, by rw [h1, h2]⟩
              have hE : ls (s.extract j2 ((j2 + 2))) = [c, e] := by rw [ls_extract, hl2, show (j2 + 2) - j2 = 2 by omega]; rfl
              generalize s.extract j2 ((j2 + 2)) = E at hE ez sl
              have tl : E.toList = ls E := ByteArray.toList_eq E
              rw [hE] at tl
              rw [hl2] at hrun
              by_cases hc : c = 13 ∧ e = 10
              · have te : (E.toList == [13, 10]) = true := by rw [tl, hc.1, hc.2]; rfl
                rw [hc.1, hc.2, cr_two] at hrun
                clear hl2 tl hE hc
                have i3 : (j2 : Int) + 2 < (s.size : Int) := by omega
                go_wp2_with fail
                go_roundw
                case rel => exact ⟨j2 + 2, D, congrArg (Value.int .i64) (by omega), ⟨AA, BB, FF, hrun.symm, by omega, by omega⟩⟩
                case measure => simp [intOf]; omega
              · have te : (E.toList == [13, 10]) = false := by
                  rw [tl, beq_eq_false_iff_ne]
                  intro h
                  injection h with h1 h2
                  injection h2 with h2
                  exact hc ⟨h1, h2⟩
                have hrun2 : R = ⟨.err 3, D.size, ls D⟩ := by
                  by_cases h1 : c = 13
                  · rw [hrun, h1, cr_bad2 (fun h2 => hc ⟨h1, h2⟩)]
                  · rw [hrun, cr_bad h1]
                have HB : Hid (bodyOf (tx R.u) R s = bdV D false 0 (enE 0 3)) := Lib.hid (body_of (by rw [hrun2]; rfl) (by rw [hrun2]; rfl) (by rw [hrun2]))
                clear hrun hrun2 hl2 tl hE hc
                have i3 : (j2 : Int) + 2 < (s.size : Int) := by omega
                have L1 := bd_loads AA
                go_wp2_with (refine wpl_load L1 rfl rfl rfl ?_)
                refine (ended_any D false 0 0 3 _).mono ?_
                rintro x we ⟨rfl, ge⟩
                have B1 := BB.old ge
                have F1 := FF.trans (ge.mono (by have := BB.lt; omega))
                have S1 := bd_stores (d' := D) (dn' := false) (sz' := 0) (er' := (enE 0 (3))) B1
                have B9 := B1.row (bdV D false 0 (enE 0 (3)))
                have F9 := below_row (cs := bdV D false 0 (enE 0 (3))) F1 (Nat.le_refl _)
                generalize we.setRow w.heap.size (bdV D false 0 (enE 0 (3))) = w9 at S1 B9 F9
                clear L1 ge B1 F1
                go_wp2_with (refine wpl_store S1 rfl rfl rfl rfl rfl ?_)
                exact bodyPost_ret (results_one Tryz.results30 _ rfl (bd_loads B9)) rfl ⟨by rw [HB.out], F9⟩
            · obtain h | h | h : s.size = j2 + 2 ∨ s.size = j2 + 1 ∨ s.size = j2 := by omega
              · have hz3 : j2 + 2 = s.size := by omega
                clear h
                have sl := slice_two s j2 s.size (j2 : Int) ((s.size : Int)) rfl (by omega) (by omega) (by omega)
                have sl4 := crlf_cut 2 2 rfl (by omega)
                rw [show (⟨#[13, 10]⟩ : ByteArray).extract 0 2 = ⟨#[13, 10]⟩ from ls_inj (by rw [ls_extract]; rfl)] at sl4
                have ez : (s.extract j2 (s.size)).size = 2 := by rw [ByteArray.size_extract]; omega
                obtain ⟨c, e, hl2⟩ : ∃ c e, (ls s).drop j2 = c :: e :: (ls s).drop (j2 + 2) := by
                  have h1 := List.drop_eq_getElem_cons (l := ls s) (i := j2) (by rw [ls_len]; omega)
                  have h2 := List.drop_eq_getElem_cons (l := ls s) (i := j2 + 1) (by rw [ls_len]; omega)
                  exact ⟨_, _, by rw [h1, h2]⟩
                have hE : ls (s.extract j2 (s.size)) = [c, e] := by rw [ls_extract, hl2, show s.size - j2 = 2 by omega]; rfl
                generalize s.extract j2 (s.size) = E at hE ez sl
                have tl : E.toList = ls E := ByteArray.toList_eq E
                rw [hE] at tl
                rw [hl2] at hrun
                by_cases hc : c = 13 ∧ e = 10
                · have te : (E.toList == [13, 10]) = true := by rw [tl, hc.1, hc.2]; rfl
                  rw [hc.1, hc.2, cr_two] at hrun
                  clear hl2 tl hE hc
                  have i3 : ¬ (j2 : Int) + 2 < (s.size : Int) := by omega
                  go_wp2_with fail
                  go_roundw
                  case rel => exact ⟨j2 + 2, D, congrArg (Value.int .i64) (by omega), ⟨AA, BB, FF, hrun.symm, by omega, by omega⟩⟩
                  case measure => simp [intOf]; omega
                · have te : (E.toList == [13, 10]) = false := by
                    rw [tl, beq_eq_false_iff_ne]
                    intro h
                    injection h with h1 h2
                    injection h2 with h2
                    exact hc ⟨h1, h2⟩
                  have hrun2 : R = ⟨.err 3, D.size, ls D⟩ := by
                    by_cases h1 : c = 13
                    · rw [hrun, h1, cr_bad2 (fun h2 => hc ⟨h1, h2⟩)]
                    · rw [hrun, cr_bad h1]
                  have HB : Hid (bodyOf (tx R.u) R s = bdV D false 0 (enE 0 3)) := Lib.hid (body_of (by rw [hrun2]; rfl) (by rw [hrun2]; rfl) (by rw [hrun2]))
                  clear hrun hrun2 hl2 tl hE hc
                  have i3 : ¬ (j2 : Int) + 2 < (s.size : Int) := by omega
                  have L1 := bd_loads AA
                  go_wp2_with (refine wpl_load L1 rfl rfl rfl ?_)
                  refine (ended_any D false 0 0 3 _).mono ?_
                  rintro x we ⟨rfl, ge⟩
                  have B1 := BB.old ge
                  have F1 := FF.trans (ge.mono (by have := BB.lt; omega))
                  have S1 := bd_stores (d' := D) (dn' := false) (sz' := 0) (er' := (enE 0 (3))) B1
                  have B9 := B1.row (bdV D false 0 (enE 0 (3)))
                  have F9 := below_row (cs := bdV D false 0 (enE 0 (3))) F1 (Nat.le_refl _)
                  generalize we.setRow w.heap.size (bdV D false 0 (enE 0 (3))) = w9 at S1 B9 F9
                  clear L1 ge B1 F1
                  go_wp2_with (refine wpl_store S1 rfl rfl rfl rfl rfl ?_)
                  exact bodyPost_ret (results_one Tryz.results30 _ rfl (bd_loads B9)) rfl ⟨by rw [HB.out], F9⟩
              · have hz3 : j2 + 1 = s.size := by omega
                clear h
                have sl := slice_two s j2 s.size (j2 : Int) ((s.size : Int)) rfl (by omega) (by omega) (by omega)
                have sl4 := crlf_cut 1 1 rfl (by omega)
                rw [show (⟨#[13, 10]⟩ : ByteArray).extract 0 1 = ⟨#[13]⟩ from ls_inj (by rw [ls_extract]; rfl)] at sl4
                have ez : (s.extract j2 (s.size)).size = 1 := by rw [ByteArray.size_extract]; omega
                obtain ⟨c, hl2⟩ : ∃ c, (ls s).drop j2 = [c] := by
                  have h1 := List.drop_eq_getElem_cons (l := ls s) (i := j2) (by rw [ls_len]; omega)
                  rw [List.drop_of_length_le (i := j2 + 1) (by rw [ls_len]; omega)] at h1
                  exact ⟨_, h1⟩
                have hE : ls (s.extract j2 (s.size)) = [c] := by rw [ls_extract, hl2, show s.size - j2 = 1 by omega]; rfl
                generalize s.extract j2 (s.size) = E at hE ez sl
                have tl : E.toList = ls E := ByteArray.toList_eq E
                rw [hE] at tl
                rw [hl2] at hrun
                by_cases hc : c = 13
                · have te : (E.toList == [13]) = true := by rw [tl, hc]; rfl
                  rw [hc, cr_one] at hrun
                  have HB : Hid (bodyOf (tx R.u) R s = bdV D false 0 0) := Lib.hid (body_of (by rw [hrun]; rfl) (by rw [hrun]; rfl) (by rw [hrun]))
                  clear hrun hl2 tl hE hc
                  have i3 : ¬ (j2 : Int) + 2 < (s.size : Int) := by omega
                  have L1 := bd_loads AA
                  have S1 := bd_stores (d' := D) (dn' := false) (sz' := 0) (er' := 0) BB
                  have B9 := BB.row (bdV D false 0 0)
                  have F9 := below_row (cs := bdV D false 0 0) FF (Nat.le_refl _)
                  generalize w4.setRow w.heap.size (bdV D false 0 0) = w9 at S1 B9 F9
                  go_wp2_with (first | refine wpl_load L1 rfl rfl rfl ?_ | refine wpl_store S1 rfl rfl rfl rfl rfl ?_)
                  exact bodyPost_ret (results_one Tryz.results30 _ rfl (bd_loads B9)) rfl ⟨by rw [HB.out], F9⟩
                · have te : (E.toList == [13]) = false := by rw [tl]; simp [hc]
                  rw [cr_bad hc] at hrun
                  have HB : Hid (bodyOf (tx R.u) R s = bdV D false 0 (enE 0 3)) := Lib.hid (body_of (by rw [hrun]; rfl) (by rw [hrun]; rfl) (by rw [hrun]))
                  clear hrun hl2 tl hE hc
                  have i3 : ¬ (j2 : Int) + 2 < (s.size : Int) := by omega
                  have L1 := bd_loads AA
                  go_wp2_with (refine wpl_load L1 rfl rfl rfl ?_)
                  refine (ended_any D false 0 0 3 _).mono ?_
                  rintro x we ⟨rfl, ge⟩
                  have B1 := BB.old ge
                  have F1 := FF.trans (ge.mono (by have := BB.lt; omega))
                  have S1 := bd_stores (d' := D) (dn' := false) (sz' := 0) (er' := (enE 0 (3))) B1
                  have B9 := B1.row (bdV D false 0 (enE 0 (3)))
                  have F9 := below_row (cs := bdV D false 0 (enE 0 (3))) F1 (Nat.le_refl _)
                  generalize we.setRow w.heap.size (bdV D false 0 (enE 0 (3))) = w9 at S1 B9 F9
                  clear L1 ge B1 F1
                  go_wp2_with (refine wpl_store S1 rfl rfl rfl rfl rfl ?_)
                  exact bodyPost_ret (results_one Tryz.results30 _ rfl (bd_loads B9)) rfl ⟨by rw [HB.out], F9⟩
              · have hz3 : j2 + 0 = s.size := by omega
                clear h
                have sl := slice_two s j2 s.size (j2 : Int) ((s.size : Int)) rfl (by omega) (by omega) (by omega)
                have sl4 := crlf_cut 0 0 rfl (by omega)
                rw [show (⟨#[13, 10]⟩ : ByteArray).extract 0 0 = ⟨#[]⟩ from ls_inj (by rw [ls_extract]; rfl)] at sl4
                have ez : (s.extract j2 (s.size)).size = 0 := by rw [ByteArray.size_extract]; omega
                have hE : s.extract j2 (s.size) = ⟨#[]⟩ := ls_inj (by apply List.eq_nil_of_length_eq_zero; rw [ls_len]; exact ez)
                rw [hE] at sl
                clear ez hE
                rw [List.drop_of_length_le (by rw [ls_len]; omega), run_nil] at hrun
                have HB : Hid (bodyOf (tx R.u) R s = bdV D false 0 0) := Lib.hid (body_of (by rw [hrun]; rfl) (by rw [hrun]; rfl) (by rw [hrun]))
                clear hrun
                have i3 : ¬ (j2 : Int) + 2 < (s.size : Int) := by omega
                have L1 := bd_loads AA
                have S1 := bd_stores (d' := D) (dn' := false) (sz' := 0) (er' := 0) BB
                have B9 := BB.row (bdV D false 0 0)
                have F9 := below_row (cs := bdV D false 0 0) FF (Nat.le_refl _)
                generalize w4.setRow w.heap.size (bdV D false 0 0) = w9 at S1 B9 F9
                go_wp2_with (first | refine wpl_load L1 rfl rfl rfl ?_ | refine wpl_store S1 rfl rfl rfl rfl rfl ?_)
                exact bodyPost_ret (results_one Tryz.results30 _ rfl (bd_loads B9)) rfl ⟨by rw [HB.out], F9⟩
set_option maxRecDepth 100000 in
set_option maxHeartbeats 8000000 in
theorem rread_neg (s : ByteArray) (most : Int) (hs : s.size ≤ 1048576) (hneg : most < 0) (h1 : -9223372036854775808 ≤ most) (w : World) :
    Calls Tryz.prog 30 #[.string s, .int .i64 most] w fun x w' => x = .returned (.agg (bodyOf (tx (run 0 init (ls s)).u) (run 0 init (ls s)) s)) ∧ Below w.heap.size w w' := by
  obtain ⟨B0, A0, F0⟩ := two_bodies w ⟨#[]⟩ false 0 0
  unfold bdV at A0 B0 F0
  have HS := Lib.hid hs
  obtain ⟨R, hR⟩ : ∃ R, R = run 0 init (ls s) := ⟨_, rfl⟩
  rw [← hR]
  have HR := Lib.hid hR
  clear hR
  go_enter Tryz.func30, Tryz.ntmps30
  go_upto_region 1 with (fail)
  have S0 := bd_stores (d' := ⟨#[]⟩) (dn' := false) (sz' := 0) (er' := 0) A0
  have A1 := A0.row (bdV ⟨#[]⟩ false 0 0)
  have B1 := B0.rowOther (B := w.heap.size + 1) (ds := bdV ⟨#[]⟩ false 0 0) (by omega)
  have F1 := below_row (cs := bdV ⟨#[]⟩ false 0 0) F0 (Nat.le_succ _)
  go_upto_region 2 with (refine wpl_store S0 rfl rfl rfl rfl rfl ?_)
  generalize World.setRow _ (w.heap.size + 1) _ = w1 at A1 B1 F1 ⊢
  clear S0 A0 B0 F0
  go_wp2_with fail
  have I0 : Hid (RInv w w1 w.heap.size ⟨#[]⟩ s 0 R 0) := Lib.hid ⟨A1, B1, F1, HR.out.symm, Nat.zero_le _, Nat.le_refl _⟩
  clear A1 B1 F1 HR
  go_loopw [6] (fun a wr => ∃ (i : Nat) (d : ByteArray), a = .int .i64 i ∧ RInv w wr w.heap.size d s 0 R i) (fun a _ => s.size - (intOf a).toNat)
  case atStart => exact ⟨0, ⟨#[]⟩, rfl, I0.out⟩
  case round =>
    clear I0
    obtain ⟨i, d, rfl, I⟩ := hrel
    have AA := I.a
    have BB := I.b
    have FF := I.bel
    have hi := I.hi
    have hn := I.hn
    have rl := rline_any s i hi HS.out wr
    unfold lnPost at rl
    have HL : Hid (∀ x m, lnF ((ls s).drop i) = .ok x m → i + m ≤ s.size ∧ 0 < m) := Lib.hid (fun x m h => by
      obtain ⟨_, h1, h2, _⟩ := lnF_ok h
      rw [List.length_drop, ls_len] at h2
      omega)
    go_wp2_with fail
    refine rl.mono ?_
    rintro x0 w2 (⟨e0, hl, rfl, rfl⟩ | ⟨x, m, hl, rfl, rfl⟩)
    · obtain ⟨t1, t2, t3⟩ := line_err (most := 0) (n := d.size) (u := ls d) hl
      rw [I.run] at t1 t2 t3
      have e0v := (lnF_err hl).1
      have g0 : (e0 != 0) = true := by rw [bne_iff_ne]; omega
      have HB : Hid (bodyOf (tx R.u) R s = bdV d false 0 (enE 0 e0)) := Lib.hid (body_of t1 t2 t3)
      clear rl hl I t1 t2 t3 e0v HL hi hn
      have L1 := bd_loads AA
      go_wp2_with (refine wpl_load L1 rfl rfl rfl ?_)
      refine (ended_any d false 0 0 e0 _).mono ?_
      rintro x we ⟨rfl, ge⟩
      have B1 := BB.old ge
      have F1 := FF.trans (ge.mono (by have := BB.lt; omega))
      have S1 := bd_stores (d' := d) (dn' := false) (sz' := 0) (er' := (enE 0 (e0))) B1
      have B9 := B1.row (bdV d false 0 (enE 0 (e0)))
      have F9 := below_row (cs := bdV d false 0 (enE 0 (e0))) F1 (Nat.le_refl _)
      generalize we.setRow w.heap.size (bdV d false 0 (enE 0 (e0))) = w9 at S1 B9 F9
      clear L1 ge B1 F1
      go_wp2_with (refine wpl_store S1 rfl rfl rfl rfl rfl ?_)
      exact bodyPost_ret (results_one Tryz.results30 _ rfl (bd_loads B9)) rfl ⟨by rw [HB.out], F9⟩
    · have hrun := line_ok (most := 0) (n := d.size) (u := ls d) hl
      rw [I.run, List.drop_drop] at hrun
      rw [show ((0 : Nat) : Int) - (d.size : Int) = -(d.size : Int) by omega] at hrun
      obtain ⟨hm1, hm2⟩ := HL.out x m hl
      have hlx : x.length ≤ 254 := (lnF_ok hl).2.2.2
      clear rl hl I HL
      obtain ⟨j, hj⟩ : ∃ j, j = i + m := ⟨_, rfl⟩
      rw [← hj] at hrun hm1 ⊢
      have hij : i < j := by omega
      have hdj : d.size ≤ j := by omega
      clear hj hm2 hn
      have rn := fun w => rnumber_any (tx x) (-(d.size : Int)) w (by rw [tx_size]; omega) (by have := HS.out; omega) (by omega)
      unfold numPost at rn
      rw [ls_tx] at rn
      generalize tx x = X at rn ⊢
      have nerr := fun e => @numF_err x (-(d.size : Int)) e
      have nok := fun n => @numF_ok x (-(d.size : Int)) n
      generalize numF x (-(d.size : Int)) = q at rn hrun nerr nok
      clear hlx
      have sz := HS.out
      have c0 : wr.cell? ⟨w.heap.size + 1, 0, none⟩ = some (.string d) := AA.cell 0
      cases q with
      | error e =>
        obtain hs2 := nerr e rfl
        clear nerr nok
        rw [show mdN (.error e) = Md.err e from rfl, run_err] at hrun
        have g1 : (e != 0) = true := by rw [bne_iff_ne]; omega
        have HB : Hid (bodyOf (tx R.u) R s = bdV d false 0 (enE 0 e)) := Lib.hid (body_of (by rw [hrun]; rfl) (by rw [hrun]; unfold enE; rw [if_neg (by omega)]; rfl) (by rw [hrun]))
        clear hrun hs2
        simp only [szN, szE] at rn
        go_wp2_with fail
        refine (rn _).mono ?_
        rintro x1 w3 ⟨rfl, rfl⟩
        clear rn c0
        have L1 := bd_loads AA
        go_wp2_with (refine wpl_load L1 rfl rfl rfl ?_)
        refine (ended_any d false 0 0 e _).mono ?_
        rintro x we ⟨rfl, ge⟩
        have B1 := BB.old ge
        have F1 := FF.trans (ge.mono (by have := BB.lt; omega))
        have S1 := bd_stores (d' := d) (dn' := false) (sz' := 0) (er' := (enE 0 (e))) B1
        have B9 := B1.row (bdV d false 0 (enE 0 (e)))
        have F9 := below_row (cs := bdV d false 0 (enE 0 (e))) F1 (Nat.le_refl _)
        generalize we.setRow w.heap.size (bdV d false 0 (enE 0 (e))) = w9 at S1 B9 F9
        clear L1 ge B1 F1
        go_wp2_with (refine wpl_store S1 rfl rfl rfl rfl rfl ?_)
        exact bodyPost_ret (results_one Tryz.results30 _ rfl (bd_loads B9)) rfl ⟨by rw [HB.out], F9⟩
      | ok k =>
        have hk2 := nok k rfl
        clear nerr nok
        simp only [szN, szE] at rn
        go_wp2_with fail
        refine (rn _).mono ?_
        rintro x1 w3 ⟨rfl, rfl⟩
        clear rn
        by_cases hk : k = 0
        · subst hk
          rw [show mdN (.ok 0) = Md.trail [] 0 from rfl] at hrun
          have hu : R.u = ls d := by rw [hrun, run_tail _ _ rfl]
          have g1 : ((((0 : Nat) : Int)) == 0) = true := rfl
          have HB := Lib.hid (show tx R.u = d by rw [hu]; exact ls_inj (by rw [ls_tx]))
          have la := fun w => last_any d s j hm1 HS.out hrun.symm w
          clear hu hrun
          have L1 := bd_loads AA
          go_wp2_with (refine wpl_load L1 rfl rfl rfl ?_)
          refine (la _).mono ?_
          rintro x2 we ⟨rfl, ge⟩
          have B1 := BB.old ge
          have F1 := FF.trans (ge.mono (by have := BB.lt; omega))
          obtain ⟨bd, bs, be, hbd⟩ : ∃ dn sz er, bodyOf d R s = bdV d dn sz er := ⟨_, _, _, rfl⟩
          have HC := Lib.hid hbd
          rw [hbd]
          clear hbd la
          have S1 := bd_stores (d' := d) (dn' := bd) (sz' := bs) (er' := be) B1
          have B9 := B1.row (bdV d bd bs be)
          have F9 := below_row (cs := bdV d bd bs be) F1 (Nat.le_refl _)
          generalize we.setRow w.heap.size (bdV d bd bs be) = w9 at S1 B9 F9
          clear L1 ge B1 F1
          go_wp2_with (refine wpl_store S1 rfl rfl rfl rfl rfl ?_)
          exact bodyPost_ret (results_one Tryz.results30 _ rfl (bd_loads B9)) rfl ⟨by rw [HB.out, HC.out], F9⟩
        · rw [mdN_data hk] at hrun
          have g1 : ((k : Int) == 0) = false := by rw [beq_eq_false_iff_ne]; omega
          have hdz := hdj
          by_cases hfew : s.size - j < k
          · have sl := slice_two s j s.size (j : Int) (s.size : Int) rfl rfl (by omega) (by omega)
            have jz : (j : Int) + ((s.size : Int) - (j : Int)) = (s.size : Int) := by omega
            have hlen : ((ls s).drop j).length = s.size - j := by rw [List.length_drop, ls_len]
            rw [run_data d.size (ls d) _ d.size (ls d) k (by omega), show (ls s).drop j = ls (s.extract j s.size) by rw [ls_extract]; exact (List.take_of_length_le (by rw [hlen]; exact Nat.le_refl _)).symm] at hrun
            have hXz : (s.extract j s.size).size = s.size - j := by rw [ByteArray.size_extract]; omega
            have hsum : d.size + (s.extract j s.size).size ≤ 9223372036854775807 := by omega
            clear hXz
            generalize s.extract j s.size = X at sl hrun hsum
            have HB : Hid (bodyOf (tx R.u) R s = bdV (d ++ X) false 0 0) := Lib.hid (body_of (by rw [hrun]; rfl) (by rw [hrun]; rfl) (by rw [hrun]; simp [ls]))
            have i1 : (s.size : Int) - (j : Int) < (k : Int) := by omega
            have mi : min (k : Int) ((s.size : Int) - (j : Int)) = (s.size : Int) - (j : Int) := by omega
            have i2 : ¬ (k : Int) ≤ (s.size : Int) - (j : Int) := by omega
            have wz : IntKind.i64.wrap (s.size : Int) = (s.size : Int) := IntWalk.i64_in _ (by omega)
            clear hrun hlen hk hfew
            go_upto_region 14 with (fail)
            clear c0
            have c0 : wr.cell? ⟨w.heap.size + 1, 0, none⟩ = some (.string d) := AA.cell 0
            have f0 := AA.frozen 0
            refine wp_region_any (by kernel_rfl) ?_
            change wpAny _ _ _ _ _ _ _ wr.drew
            refine any_take 0 (.pointer (some ⟨w.heap.size + 1, 0, none⟩)) rfl (by kernel_rfl) (by kernel_rfl) (by kernel_rfl) (fun _ _ _ h => h) (Or.inl ⟨by rfl, fun x => by go_simp⟩) (fun K hK => ?_)
            go_simp
            refine hK _ _ ?_
            clear hK K
            refine any_take 2 (.string s) rfl (by kernel_rfl) (by kernel_rfl) (by kernel_rfl) (fun _ _ _ h => h) (Or.inl ⟨by rfl, fun x => by go_simp⟩) (fun K hK => ?_)
            go_simp
            refine hK _ _ ?_
            clear hK K
            refine any_take 3 (.int .i64 (j : Int)) rfl (by kernel_rfl) (by kernel_rfl) (by kernel_rfl) (fun _ _ _ h => h) (Or.inl ⟨by rfl, fun x => by go_simp⟩) (fun K hK => ?_)
            go_simp
            refine hK _ _ ?_
            clear hK K
            refine any_take 4 (.int .i64 (j : Int)) rfl (by kernel_rfl) (by kernel_rfl) (by kernel_rfl) (fun _ _ _ h => h) (Or.inl ⟨by rfl, fun x => by go_simp⟩) (fun K hK => ?_)
            go_simp
            refine hK _ _ ?_
            clear hK K
            refine any_take 5 (.int .i64 ((s.size : Int) - (j : Int))) rfl (by kernel_rfl) (by kernel_rfl) (by kernel_rfl) (fun _ _ _ h => h) (Or.inl ⟨by rfl, fun x => by go_simp⟩) (fun K hK => ?_)
            go_simp
            refine hK _ _ ?_
            clear hK K
            refine any_take 6 (.int .i64 (s.size : Int)) rfl (by kernel_rfl) (by kernel_rfl) (by kernel_rfl) (fun _ _ _ h => h) (Or.inl ⟨by rfl, fun x => by go_simp⟩) (fun K hK => ?_)
            go_simp
            refine hK _ _ ?_
            clear hK K
            refine any_take 7 (.string X) rfl (by kernel_rfl) (by kernel_rfl) (by kernel_rfl) (fun _ _ _ h => h) (Or.inl ⟨by rfl, fun x => by go_simp⟩) (fun K hK => ?_)
            go_simp
            refine hK _ _ ?_
            clear hK K
            refine any_one 1 (by kernel_rfl) (fun K hK => wpOp_in rfl rfl ?_)
            go_simp
            refine hK _ _ ?_
            clear hK K
            refine any_take 8 (.string (d ++ X)) rfl (by kernel_rfl) (by kernel_rfl) (by kernel_rfl) (fun _ _ _ h => h) (Or.inl ⟨by rfl, fun x => by go_simp⟩) (fun K hK => ?_)
            go_simp
            refine hK _ _ ?_
            clear hK K
            refine any_take 9 (.pointer (some ⟨w.heap.size + 1, 0, none⟩)) rfl (by kernel_rfl) (by kernel_rfl) (by kernel_rfl) (fun _ _ _ h => h) (Or.inl ⟨by rfl, fun x => by go_simp⟩) (fun K hK => ?_)
            go_simp
            refine hK _ _ ?_
            clear hK K
            refine any_one 10 (by kernel_rfl) (fun K hK => wpOp_in rfl rfl ?_)
            go_simp
            refine hK _ _ ?_
            clear hK K
            refine wpAny_done (by kernel_rfl) ?_ _
            replace AA : At (wr.setCell ⟨w.heap.size + 1, 0, none⟩ (.string (d ++ X))) (w.heap.size + 1) 66 (bdV (d ++ X) false 0 0) := AA.set 0 (.string (d ++ X))
            replace AA := AA.drew
            replace BB := (BB.other (a := ⟨w.heap.size + 1, 0, none⟩) (by show w.heap.size ≠ w.heap.size + 1; omega) (.string (d ++ X))).drew
            replace FF := (below_set FF 0 (.string (d ++ X)) (Nat.le_succ w.heap.size)).drew
            clear c0 f0 sl
            generalize (wr.setCell ⟨w.heap.size + 1, 0, none⟩ (.string (d ++ X))).drew = w4 at AA BB FF ⊢
            have L1 := bd_loads AA
            have S1 := bd_stores (d' := (d ++ X)) (dn' := false) (sz' := 0) (er' := 0) BB
            have B9 := BB.row (bdV (d ++ X) false 0 0)
            have F9 := below_row (cs := bdV (d ++ X) false 0 0) FF (Nat.le_refl _)
            generalize w4.setRow w.heap.size (bdV (d ++ X) false 0 0) = w9 at S1 B9 F9
            go_wp2_with (first | refine wpl_load L1 rfl rfl rfl ?_ | refine wpl_store S1 rfl rfl rfl rfl rfl ?_)
            exact bodyPost_ret (results_one Tryz.results30 _ rfl (bd_loads B9)) rfl ⟨by rw [HB.out], F9⟩
          · obtain ⟨j2, hj2⟩ : ∃ j2 : Nat, j2 = j + k := ⟨_, rfl⟩
            have jz : (j : Int) + (k : Int) = (j2 : Int) := by omega
            have hj3 : j2 ≤ s.size := by omega
            have hij2 : i < j2 := by omega
            have sl := slice_two s j j2 (j : Int) (j2 : Int) rfl rfl (by omega) hj3
            have hXz : (s.extract j j2).size = k := by rw [ByteArray.size_extract]; omega
            have hXl : ls (s.extract j j2) = ((ls s).drop j).take k := by rw [ls_extract, show j2 - j = k by omega]
            have hsp : (ls s).drop j = ls (s.extract j j2) ++ (ls s).drop j2 := by rw [hXl, hj2, ← List.drop_drop, List.take_append_drop]
            generalize s.extract j j2 = X at sl hXz hsp
            clear hXl
            rw [hsp, run_append, run_data_all (ls X) d.size (ls d) k (by rw [ls_len]; exact hXz) (by omega), show d.size + k = (d ++ X).size by rw [ByteArray.size_append]; omega, show ls d ++ ls X = ls (d ++ X) by simp [ls]] at hrun
            have hDn : (d ++ X).size ≤ j2 := by rw [ByteArray.size_append]; omega
            have hsum : d.size + X.size ≤ 9223372036854775807 := by omega
            have i1 : (k : Int) ≤ (s.size : Int) - (j : Int) := by omega
            have i2 : ¬ (s.size : Int) - (j : Int) < (k : Int) := by omega
            have mi : min (k : Int) ((s.size : Int) - (j : Int)) = (k : Int) := by omega
            have wz : IntKind.i64.wrap (j2 : Int) = (j2 : Int) := IntWalk.i64_in _ (by omega)
            clear hXz hsp hj2 hk hfew hm1 hdj hdz hij
            go_upto_region 14 with (fail)
            clear c0
            have c0 : wr.cell? ⟨w.heap.size + 1, 0, none⟩ = some (.string d) := AA.cell 0
            have f0 := AA.frozen 0
            refine wp_region_any (by kernel_rfl) ?_
            change wpAny _ _ _ _ _ _ _ wr.drew
            refine any_take 0 (.pointer (some ⟨w.heap.size + 1, 0, none⟩)) rfl (by kernel_rfl) (by kernel_rfl) (by kernel_rfl) (fun _ _ _ h => h) (Or.inl ⟨by rfl, fun x => by go_simp⟩) (fun K hK => ?_)
            go_simp
            refine hK _ _ ?_
            clear hK K
            refine any_take 2 (.string s) rfl (by kernel_rfl) (by kernel_rfl) (by kernel_rfl) (fun _ _ _ h => h) (Or.inl ⟨by rfl, fun x => by go_simp⟩) (fun K hK => ?_)
            go_simp
            refine hK _ _ ?_
            clear hK K
            refine any_take 3 (.int .i64 (j : Int)) rfl (by kernel_rfl) (by kernel_rfl) (by kernel_rfl) (fun _ _ _ h => h) (Or.inl ⟨by rfl, fun x => by go_simp⟩) (fun K hK => ?_)
            go_simp
            refine hK _ _ ?_
            clear hK K
            refine any_take 4 (.int .i64 (j : Int)) rfl (by kernel_rfl) (by kernel_rfl) (by kernel_rfl) (fun _ _ _ h => h) (Or.inl ⟨by rfl, fun x => by go_simp⟩) (fun K hK => ?_)
            go_simp
            refine hK _ _ ?_
            clear hK K
            refine any_take 5 (.int .i64 ((k : Int))) rfl (by kernel_rfl) (by kernel_rfl) (by kernel_rfl) (fun _ _ _ h => h) (Or.inl ⟨by rfl, fun x => by go_simp⟩) (fun K hK => ?_)
            go_simp
            refine hK _ _ ?_
            clear hK K
            refine any_take 6 (.int .i64 (j2 : Int)) rfl (by kernel_rfl) (by kernel_rfl) (by kernel_rfl) (fun _ _ _ h => h) (Or.inl ⟨by rfl, fun x => by go_simp⟩) (fun K hK => ?_)
            go_simp
            refine hK _ _ ?_
            clear hK K
            refine any_take 7 (.string X) rfl (by kernel_rfl) (by kernel_rfl) (by kernel_rfl) (fun _ _ _ h => h) (Or.inl ⟨by rfl, fun x => by go_simp⟩) (fun K hK => ?_)
            go_simp
            refine hK _ _ ?_
            clear hK K
            refine any_one 1 (by kernel_rfl) (fun K hK => wpOp_in rfl rfl ?_)
            go_simp
            refine hK _ _ ?_
            clear hK K
            refine any_take 8 (.string (d ++ X)) rfl (by kernel_rfl) (by kernel_rfl) (by kernel_rfl) (fun _ _ _ h => h) (Or.inl ⟨by rfl, fun x => by go_simp⟩) (fun K hK => ?_)
            go_simp
            refine hK _ _ ?_
            clear hK K
            refine any_take 9 (.pointer (some ⟨w.heap.size + 1, 0, none⟩)) rfl (by kernel_rfl) (by kernel_rfl) (by kernel_rfl) (fun _ _ _ h => h) (Or.inl ⟨by rfl, fun x => by go_simp⟩) (fun K hK => ?_)
            go_simp
            refine hK _ _ ?_
            clear hK K
            refine any_one 10 (by kernel_rfl) (fun K hK => wpOp_in rfl rfl ?_)
            go_simp
            refine hK _ _ ?_
            clear hK K
            refine wpAny_done (by kernel_rfl) ?_ _
            replace AA : At (wr.setCell ⟨w.heap.size + 1, 0, none⟩ (.string (d ++ X))) (w.heap.size + 1) 66 (bdV (d ++ X) false 0 0) := AA.set 0 (.string (d ++ X))
            replace AA := AA.drew
            replace BB := (BB.other (a := ⟨w.heap.size + 1, 0, none⟩) (by show w.heap.size ≠ w.heap.size + 1; omega) (.string (d ++ X))).drew
            replace FF := (below_set FF 0 (.string (d ++ X)) (Nat.le_succ w.heap.size)).drew
            clear c0 f0 sl
            generalize (wr.setCell ⟨w.heap.size + 1, 0, none⟩ (.string (d ++ X))).drew = w4 at AA BB FF ⊢
            clear i1 i2 mi hsum
            generalize d ++ X = D at AA BB FF hrun hDn ⊢
            go_upto_region 18 with (fail)
            by_cases hz2 : j2 + 2 < s.size
            · have sl := slice_two s j2 (j2 + 2) (j2 : Int) ((j2 : Int) + 2) rfl (by omega) (by omega) (by omega)
              have sl4 := crlf_cut 2 2 rfl (by omega)
              rw [show (⟨#[13, 10]⟩ : ByteArray).extract 0 2 = ⟨#[13, 10]⟩ from ls_inj (by rw [ls_extract]; rfl)] at sl4
              have ez : (s.extract j2 ((j2 + 2))).size = 2 := by rw [ByteArray.size_extract]; omega
              obtain ⟨c, e, hl2⟩ : ∃ c e, (ls s).drop j2 = c :: e :: (ls s).drop (j2 + 2) := by
                have h1 := List.drop_eq_getElem_cons (l := ls s) (i := j2) (by rw [ls_len]; omega)
                have h2 := List.drop_eq_getElem_cons (l := ls s) (i := j2 + 1) (by rw [ls_len]; omega)
                exact ⟨_, _, by rw [h1, h2]⟩
              have hE : ls (s.extract j2 ((j2 + 2))) = [c, e] := by rw [ls_extract, hl2, show (j2 + 2) - j2 = 2 by omega]; rfl
              generalize s.extract j2 ((j2 + 2)) = E at hE ez sl
              have tl : E.toList = ls E := ByteArray.toList_eq E
              rw [hE] at tl
              rw [hl2] at hrun
              by_cases hc : c = 13 ∧ e = 10
              · have te : (E.toList == [13, 10]) = true := by rw [tl, hc.1, hc.2]; rfl
                rw [hc.1, hc.2, cr_two] at hrun
                clear hl2 tl hE hc
                have i3 : (j2 : Int) + 2 < (s.size : Int) := by omega
                go_wp2_with fail
                go_roundw
                case rel => exact ⟨j2 + 2, D, congrArg (Value.int .i64) (by omega), ⟨AA, BB, FF, hrun.symm, by omega, by omega⟩⟩
                case measure => simp [intOf]; omega
              · have te : (E.toList == [13, 10]) = false := by
                  rw [tl, beq_eq_false_iff_ne]
                  intro h
                  injection h with h1 h2
                  injection h2 with h2
                  exact hc ⟨h1, h2⟩
                have hrun2 : R = ⟨.err 3, D.size, ls D⟩ := by
                  by_cases h1 : c = 13
                  · rw [hrun, h1, cr_bad2 (fun h2 => hc ⟨h1, h2⟩)]
                  · rw [hrun, cr_bad h1]
                have HB : Hid (bodyOf (tx R.u) R s = bdV D false 0 (enE 0 3)) := Lib.hid (body_of (by rw [hrun2]; rfl) (by rw [hrun2]; rfl) (by rw [hrun2]))
                clear hrun hrun2 hl2 tl hE hc
                have i3 : (j2 : Int) + 2 < (s.size : Int) := by omega
                have L1 := bd_loads AA
                go_wp2_with (refine wpl_load L1 rfl rfl rfl ?_)
                refine (ended_any D false 0 0 3 _).mono ?_
                rintro x we ⟨rfl, ge⟩
                have B1 := BB.old ge
                have F1 := FF.trans (ge.mono (by have := BB.lt; omega))
                have S1 := bd_stores (d' := D) (dn' := false) (sz' := 0) (er' := (enE 0 (3))) B1
                have B9 := B1.row (bdV D false 0 (enE 0 (3)))
                have F9 := below_row (cs := bdV D false 0 (enE 0 (3))) F1 (Nat.le_refl _)
                generalize we.setRow w.heap.size (bdV D false 0 (enE 0 (3))) = w9 at S1 B9 F9
                clear L1 ge B1 F1
                go_wp2_with (refine wpl_store S1 rfl rfl rfl rfl rfl ?_)
                exact bodyPost_ret (results_one Tryz.results30 _ rfl (bd_loads B9)) rfl ⟨by rw [HB.out], F9⟩
            · obtain h | h | h : s.size = j2 + 2 ∨ s.size = j2 + 1 ∨ s.size = j2 := by omega
              · have hz3 : j2 + 2 = s.size := by omega
                clear h
                have sl := slice_two s j2 s.size (j2 : Int) ((s.size : Int)) rfl (by omega) (by omega) (by omega)
                have sl4 := crlf_cut 2 2 rfl (by omega)
                rw [show (⟨#[13, 10]⟩ : ByteArray).extract 0 2 = ⟨#[13, 10]⟩ from ls_inj (by rw [ls_extract]; rfl)] at sl4
                have ez : (s.extract j2 (s.size)).size = 2 := by rw [ByteArray.size_extract]; omega
                obtain ⟨c, e, hl2⟩ : ∃ c e, (ls s).drop j2 = c :: e :: (ls s).drop (j2 + 2) := by
                  have h1 := List.drop_eq_getElem_cons (l := ls s) (i := j2) (by rw [ls_len]; omega)
                  have h2 := List.drop_eq_getElem_cons (l := ls s) (i := j2 + 1) (by rw [ls_len]; omega)
                  exact ⟨_, _, by rw [h1, h2]⟩
                have hE : ls (s.extract j2 (s.size)) = [c, e] := by rw [ls_extract, hl2, show s.size - j2 = 2 by omega]; rfl
                generalize s.extract j2 (s.size) = E at hE ez sl
                have tl : E.toList = ls E := ByteArray.toList_eq E
                rw [hE] at tl
                rw [hl2] at hrun
                by_cases hc : c = 13 ∧ e = 10
                · have te : (E.toList == [13, 10]) = true := by rw [tl, hc.1, hc.2]; rfl
                  rw [hc.1, hc.2, cr_two] at hrun
                  clear hl2 tl hE hc
                  have i3 : ¬ (j2 : Int) + 2 < (s.size : Int) := by omega
                  go_wp2_with fail
                  go_roundw
                  case rel => exact ⟨j2 + 2, D, congrArg (Value.int .i64) (by omega), ⟨AA, BB, FF, hrun.symm, by omega, by omega⟩⟩
                  case measure => simp [intOf]; omega
                · have te : (E.toList == [13, 10]) = false := by
                    rw [tl, beq_eq_false_iff_ne]
                    intro h
                    injection h with h1 h2
                    injection h2 with h2
                    exact hc ⟨h1, h2⟩
                  have hrun2 : R = ⟨.err 3, D.size, ls D⟩ := by
                    by_cases h1 : c = 13
                    · rw [hrun, h1, cr_bad2 (fun h2 => hc ⟨h1, h2⟩)]
                    · rw [hrun, cr_bad h1]
                  have HB : Hid (bodyOf (tx R.u) R s = bdV D false 0 (enE 0 3)) := Lib.hid (body_of (by rw [hrun2]; rfl) (by rw [hrun2]; rfl) (by rw [hrun2]))
                  clear hrun hrun2 hl2 tl hE hc
                  have i3 : ¬ (j2 : Int) + 2 < (s.size : Int) := by omega
                  have L1 := bd_loads AA
                  go_wp2_with (refine wpl_load L1 rfl rfl rfl ?_)
                  refine (ended_any D false 0 0 3 _).mono ?_
                  rintro x we ⟨rfl, ge⟩
                  have B1 := BB.old ge
                  have F1 := FF.trans (ge.mono (by have := BB.lt; omega))
                  have S1 := bd_stores (d' := D) (dn' := false) (sz' := 0) (er' := (enE 0 (3))) B1
                  have B9 := B1.row (bdV D false 0 (enE 0 (3)))
                  have F9 := below_row (cs := bdV D false 0 (enE 0 (3))) F1 (Nat.le_refl _)
                  generalize we.setRow w.heap.size (bdV D false 0 (enE 0 (3))) = w9 at S1 B9 F9
                  clear L1 ge B1 F1
                  go_wp2_with (refine wpl_store S1 rfl rfl rfl rfl rfl ?_)
                  exact bodyPost_ret (results_one Tryz.results30 _ rfl (bd_loads B9)) rfl ⟨by rw [HB.out], F9⟩
              · have hz3 : j2 + 1 = s.size := by omega
                clear h
                have sl := slice_two s j2 s.size (j2 : Int) ((s.size : Int)) rfl (by omega) (by omega) (by omega)
                have sl4 := crlf_cut 1 1 rfl (by omega)
                rw [show (⟨#[13, 10]⟩ : ByteArray).extract 0 1 = ⟨#[13]⟩ from ls_inj (by rw [ls_extract]; rfl)] at sl4
                have ez : (s.extract j2 (s.size)).size = 1 := by rw [ByteArray.size_extract]; omega
                obtain ⟨c, hl2⟩ : ∃ c, (ls s).drop j2 = [c] := by
                  have h1 := List.drop_eq_getElem_cons (l := ls s) (i := j2) (by rw [ls_len]; omega)
                  rw [List.drop_of_length_le (i := j2 + 1) (by rw [ls_len]; omega)] at h1
                  exact ⟨_, h1⟩
                have hE : ls (s.extract j2 (s.size)) = [c] := by rw [ls_extract, hl2, show s.size - j2 = 1 by omega]; rfl
                generalize s.extract j2 (s.size) = E at hE ez sl
                have tl : E.toList = ls E := ByteArray.toList_eq E
                rw [hE] at tl
                rw [hl2] at hrun
                by_cases hc : c = 13
                · have te : (E.toList == [13]) = true := by rw [tl, hc]; rfl
                  rw [hc, cr_one] at hrun
                  have HB : Hid (bodyOf (tx R.u) R s = bdV D false 0 0) := Lib.hid (body_of (by rw [hrun]; rfl) (by rw [hrun]; rfl) (by rw [hrun]))
                  clear hrun hl2 tl hE hc
                  have i3 : ¬ (j2 : Int) + 2 < (s.size : Int) := by omega
                  have L1 := bd_loads AA
                  have S1 := bd_stores (d' := D) (dn' := false) (sz' := 0) (er' := 0) BB
                  have B9 := BB.row (bdV D false 0 0)
                  have F9 := below_row (cs := bdV D false 0 0) FF (Nat.le_refl _)
                  generalize w4.setRow w.heap.size (bdV D false 0 0) = w9 at S1 B9 F9
                  go_wp2_with (first | refine wpl_load L1 rfl rfl rfl ?_ | refine wpl_store S1 rfl rfl rfl rfl rfl ?_)
                  exact bodyPost_ret (results_one Tryz.results30 _ rfl (bd_loads B9)) rfl ⟨by rw [HB.out], F9⟩
                · have te : (E.toList == [13]) = false := by rw [tl]; simp [hc]
                  rw [cr_bad hc] at hrun
                  have HB : Hid (bodyOf (tx R.u) R s = bdV D false 0 (enE 0 3)) := Lib.hid (body_of (by rw [hrun]; rfl) (by rw [hrun]; rfl) (by rw [hrun]))
                  clear hrun hl2 tl hE hc
                  have i3 : ¬ (j2 : Int) + 2 < (s.size : Int) := by omega
                  have L1 := bd_loads AA
                  go_wp2_with (refine wpl_load L1 rfl rfl rfl ?_)
                  refine (ended_any D false 0 0 3 _).mono ?_
                  rintro x we ⟨rfl, ge⟩
                  have B1 := BB.old ge
                  have F1 := FF.trans (ge.mono (by have := BB.lt; omega))
                  have S1 := bd_stores (d' := D) (dn' := false) (sz' := 0) (er' := (enE 0 (3))) B1
                  have B9 := B1.row (bdV D false 0 (enE 0 (3)))
                  have F9 := below_row (cs := bdV D false 0 (enE 0 (3))) F1 (Nat.le_refl _)
                  generalize we.setRow w.heap.size (bdV D false 0 (enE 0 (3))) = w9 at S1 B9 F9
                  clear L1 ge B1 F1
                  go_wp2_with (refine wpl_store S1 rfl rfl rfl rfl rfl ?_)
                  exact bodyPost_ret (results_one Tryz.results30 _ rfl (bd_loads B9)) rfl ⟨by rw [HB.out], F9⟩
              · have hz3 : j2 + 0 = s.size := by omega
                clear h
                have sl := slice_two s j2 s.size (j2 : Int) ((s.size : Int)) rfl (by omega) (by omega) (by omega)
                have sl4 := crlf_cut 0 0 rfl (by omega)
                rw [show (⟨#[13, 10]⟩ : ByteArray).extract 0 0 = ⟨#[]⟩ from ls_inj (by rw [ls_extract]; rfl)] at sl4
                have ez : (s.extract j2 (s.size)).size = 0 := by rw [ByteArray.size_extract]; omega
                have hE : s.extract j2 (s.size) = ⟨#[]⟩ := ls_inj (by apply List.eq_nil_of_length_eq_zero; rw [ls_len]; exact ez)
                rw [hE] at sl
                clear ez hE
                rw [List.drop_of_length_le (by rw [ls_len]; omega), run_nil] at hrun
                have HB : Hid (bodyOf (tx R.u) R s = bdV D false 0 0) := Lib.hid (body_of (by rw [hrun]; rfl) (by rw [hrun]; rfl) (by rw [hrun]))
                clear hrun
                have i3 : ¬ (j2 : Int) + 2 < (s.size : Int) := by omega
                have L1 := bd_loads AA
                have S1 := bd_stores (d' := D) (dn' := false) (sz' := 0) (er' := 0) BB
                have B9 := BB.row (bdV D false 0 0)
                have F9 := below_row (cs := bdV D false 0 0) FF (Nat.le_refl _)
                generalize w4.setRow w.heap.size (bdV D false 0 0) = w9 at S1 B9 F9
                go_wp2_with (first | refine wpl_load L1 rfl rfl rfl ?_ | refine wpl_store S1 rfl rfl rfl rfl rfl ?_)
                exact bodyPost_ret (results_one Tryz.results30 _ rfl (bd_loads B9)) rfl ⟨by rw [HB.out], F9⟩
theorem rread_any (s : ByteArray) (most : Int) (hs : s.size ≤ 1048576) (h1 : -9223372036854775808 ≤ most) (h2 : most ≤ 9223372036854775807) (w : World) :
    Calls Tryz.prog 30 #[.string s, .int .i64 most] w fun x w' => x = .returned (.agg (bodyOf (tx (run most.toNat init (ls s)).u) (run most.toNat init (ls s)) s)) ∧ Below w.heap.size w w' := by
  by_cases c : most < 0
  · rw [show most.toNat = 0 by omega]
    exact rread_neg s most hs c h1 w
  · have := rread_pos s most.toNat hs (by omega) w
    rwa [show ((most.toNat : Nat) : Int) = most by omega] at this
end Go.Proofs.YtbngfphiachnoaaGreatDoor.Ch
