/-
  Contracts of ended, last and Read of the document's answers: what all bytes that have come are.
-/
import Derived.Test.YtbngfphiachnoaaGreatDoorChRefL
namespace Go.Proofs.YtbngfphiachnoaaGreatDoor.Ch
open Go.RowKit Go.PlainAid
open Hx Fi
set_option linter.unusedVariables false
set_option maxRecDepth 20000
set_option linter.unusedSimpArgs false

theorem results_one {P : Program} {fn : Func} {p : Tmp} {ty : TypeId} (h : fn.results = #[.cell p ty]) (tmps : Array Value) {w : World} {g : Nat} {cs : Array Value}
    (hp : tmps.getD p undef = .pointer (some ⟨g, 0, none⟩)) (hl : Loads P w ty ⟨g, 0, none⟩ cs) : (results fn tmps).run P w = .ok (.agg cs) w := by
  have hp' : tmps[p]?.getD undef = .pointer (some ⟨g, 0, none⟩) := by simpa using hp
  have hl' : (loadVar ty ⟨g, 0, none⟩).run P w = .ok (.agg cs) w := hl
  simp [results, h, hp', asAddr, hl']
def bdV (d : ByteArray) (dn : Bool) (sz er : Int) : Array Value := #[.string d, .bool dn, .int .i64 sz, .int .i64 er]
theorem bdV_size (d : ByteArray) (dn : Bool) (sz er : Int) : (bdV d dn sz er).size = 4 := rfl
theorem bdV_one (d : ByteArray) (dn : Bool) (sz er : Int) : ∀ v ∈ (bdV d dn sz er).toList, v.oneCell' = true := by
  intro v hv
  simp [bdV] at hv
  rcases hv with rfl | rfl | rfl | rfl <;> rfl
theorem bd_loads {w : World} {B : Nat} {d : ByteArray} {dn : Bool} {sz er : Int} (h : At w B 66 (bdV d dn sz er)) : Loads Tryz.prog w 66 ⟨B, 0, none⟩ (bdV d dn sz er) :=
  h.loads (by kernel_rfl) (by rw [bdV_size]; kernel_rfl)
theorem bd_stores {w : World} {B : Nat} {d d' : ByteArray} {dn dn' : Bool} {sz sz' er er' : Int} (h : At w B 66 (bdV d dn sz er)) : Stores Tryz.prog w 66 B 0 (bdV d' dn' sz' er') (w.setRow B (bdV d' dn' sz' er')) :=
  h.stores (by rw [bdV_size]; kernel_rfl) rfl (bdV_one _ _ _ _)
/-- a body that ends there: an error, unless more bytes are needed -/
def enE (er e : Int) : Int := if e = 17 then er else e
/-- a body as an argument, and the place of the result -/
theorem two_bodies (w : World) (d : ByteArray) (dn : Bool) (sz er : Int) :
    At ((w.alloc (.cells (bdV d dn sz er) 66)).alloc (.cells (bdV ⟨#[]⟩ false 0 0) 66)) w.heap.size 66 (bdV d dn sz er) ∧ At ((w.alloc (.cells (bdV d dn sz er) 66)).alloc (.cells (bdV ⟨#[]⟩ false 0 0) 66)) (w.heap.size + 1) 66 (bdV ⟨#[]⟩ false 0 0) ∧ Below w.heap.size w ((w.alloc (.cells (bdV d dn sz er) 66)).alloc (.cells (bdV ⟨#[]⟩ false 0 0) 66)) := by
  refine ⟨(At.new w _ _).alloc _, ?_, ((Below.refl _ _).alloc (Nat.le_refl _) _).alloc (by simp) _⟩
  have := At.new (w.alloc (.cells (bdV d dn sz er) 66)) 66 (bdV ⟨#[]⟩ false 0 0)
  rw [show (w.alloc (.cells (bdV d dn sz er) 66)).heap.size = w.heap.size + 1 by simp] at this
  exact this
set_option maxHeartbeats 1000000 in
theorem ended_any (d : ByteArray) (dn : Bool) (sz er e : Int) (w : World) :
    Calls Tryz.prog 58 #[.agg (bdV d dn sz er), .int .i64 e] w fun x w' => x = .returned (.agg (bdV d dn sz (enE er e))) ∧ Below w.heap.size w w' := by
  obtain ⟨A0, B0, F0⟩ := two_bodies w d dn sz er
  unfold bdV at A0 B0 F0
  by_cases h : e = 17
  · have g : (e != 17) = false := by rw [h]; rfl
    have HE := Lib.hid (show enE er e = er from if_pos h)
    clear h
    unfold bdV
    go_enter Tryz.func58, Tryz.ntmps58
    go_upto_region 1 with (fail)
    generalize (w.alloc _).alloc _ = w1 at A0 B0 F0 ⊢
    have A1 : At w1 _ _ (bdV d dn sz er) := A0
    have B1 : At w1 _ _ (bdV ⟨#[]⟩ false 0 0) := B0
    have L1 := bd_loads A1
    have S1 := bd_stores (d' := d) (dn' := dn) (sz' := sz) (er' := er) B1
    have B2 := B1.row (bdV d dn sz er)
    have F2 := below_row (cs := bdV d dn sz er) F0 (Nat.le_succ _)
    generalize w1.setRow (w.heap.size + 1) (bdV d dn sz er) = w2 at S1 B2 F2
    clear A0 B0 A1 B1 F0
    go_wp2_with (first | refine wpl_load L1 rfl rfl rfl ?_ | refine wpl_store S1 rfl rfl rfl rfl rfl ?_)
    exact bodyPost_ret (results_one Tryz.results58 _ rfl (bd_loads B2)) rfl ⟨by rw [HE.out]; rfl, F2⟩
  · have g : (e != 17) = true := by rw [bne_iff_ne]; exact h
    have HE := Lib.hid (show enE er e = e from if_neg h)
    clear h
    unfold bdV
    go_enter Tryz.func58, Tryz.ntmps58
    go_upto_region 1 with (fail)
    generalize (w.alloc _).alloc _ = w1 at A0 B0 F0 ⊢
    have A1 : At w1 _ _ (bdV d dn sz er) := A0
    have B1 : At w1 _ _ (bdV ⟨#[]⟩ false 0 0) := B0
    have f3 := A1.frozen 3
    have c3 : w1.cell? ⟨w.heap.size, 3, none⟩ = some (.int .i64 er) := A1.cell 3
    have A2 : At (w1.setCell ⟨w.heap.size, 3, none⟩ (.int .i64 e)) w.heap.size 66 (bdV d dn sz e) := A1.set 3 (.int .i64 e)
    have B2 := B1.other (a := ⟨w.heap.size, 3, none⟩) (by show w.heap.size + 1 ≠ w.heap.size; omega) (.int .i64 e)
    have F2 := below_set F0 3 (.int .i64 e)
    clear A0 B0 A1 B1 F0
    go_upto_region 3 with (fail)
    generalize w1.setCell ⟨w.heap.size, 3, none⟩ (.int .i64 e) = w2 at A2 B2 F2 ⊢
    have L1 := bd_loads A2
    have S1 := bd_stores (d' := d) (dn' := dn) (sz' := sz) (er' := e) B2
    have B3 := B2.row (bdV d dn sz e)
    have F3 := below_row (cs := bdV d dn sz e) F2 (Nat.le_succ _)
    generalize w2.setRow (w.heap.size + 1) (bdV d dn sz e) = w3 at S1 B3 F3
    clear A2 B2 F2 c3 f3
    go_wp2_with (first | refine wpl_load L1 rfl rfl rfl ?_ | refine wpl_store S1 rfl rfl rfl rfl rfl ?_)
    exact bodyPost_ret (results_one Tryz.results58 _ rfl (bd_loads B3)) rfl ⟨by rw [HE.out]; rfl, F3⟩
/-! ### behind the last chunk -/
theorem lnF_err {l : List UInt8} {e0 : Int} (h : lnF l = .err e0) : (e0 = 3 ∨ e0 = 17) ∧ ((lineC l = none ∧ ((256 ≤ l.length ∧ e0 = 3) ∨ (l.length < 256 ∧ e0 = 17))) ∨ ∃ t, lineC l = some t ∧ t.getLast? ≠ some 13 ∧ e0 = 3) := by
  unfold lnF at h
  cases hq : lineC l with
  | none =>
    rw [hq] at h
    simp only at h
    by_cases c : 256 ≤ l.length
    · rw [if_pos c] at h
      injection h with h
      subst h
      exact ⟨.inl rfl, .inl ⟨rfl, .inl ⟨c, rfl⟩⟩⟩
    · rw [if_neg c] at h
      injection h with h
      subst h
      exact ⟨.inr rfl, .inl ⟨rfl, .inr ⟨by omega, rfl⟩⟩⟩
  | some t =>
    rw [hq] at h
    simp only at h
    by_cases c : t.getLast? = some 13
    · rw [if_pos c] at h; cases h
    · rw [if_neg c] at h
      injection h with h
      subst h
      exact ⟨.inl rfl, .inr ⟨t, rfl, c, rfl⟩⟩
theorem lnF_ok {l x : List UInt8} {n : Nat} (h : lnF l = .ok x n) : lineC l = some (x ++ [13]) ∧ n = x.length + 2 ∧ n ≤ l.length ∧ x.length ≤ 254 := by
  unfold lnF at h
  cases hq : lineC l with
  | none =>
    rw [hq] at h
    simp only at h
    split at h <;> cases h
  | some t =>
    rw [hq] at h
    simp only at h
    by_cases c : t.getLast? = some 13
    · rw [if_pos c] at h
      injection h with h1 h2
      obtain ⟨y, hy⟩ := List.getLast?_eq_some_iff.1 c
      subst hy
      rw [List.dropLast_concat] at h1
      subst h1
      obtain ⟨_, _, h3, h4⟩ := lineC_some hq
      rw [List.length_append, List.length_singleton] at h2 h3 h4
      exact ⟨rfl, by omega, by omega, by omega⟩
    · rw [if_neg c] at h; cases h
/-- what the document answers of the machine's state behind all bytes -/
def bodyOf (d : ByteArray) (R : CS) (s : ByteArray) : Array Value := bdV d R.md.isDone (if R.md.isDone = true then ((s.size - R.md.rest.length : Nat) : Int) else 0) R.md.error
theorem trail_err {most n k : Nat} {u l : List UInt8} {e0 : Int} (h : lnF l = .err e0) : (run most ⟨.trail [] k, n, u⟩ l).md.isDone = false ∧ (run most ⟨.trail [] k, n, u⟩ l).md.error = enE 0 e0 := by
  obtain ⟨_, h⟩ := lnF_err h
  rcases h with ⟨hq, ⟨c, rfl⟩ | ⟨c, rfl⟩⟩ | ⟨t, hq, c, rfl⟩
  · rw [read_trail_bad hq c]; exact ⟨rfl, rfl⟩
  · rw [read_trail_wait hq c]; exact ⟨rfl, rfl⟩
  · rw [read_trail hq, endT_bad c, run_err]; exact ⟨rfl, rfl⟩
theorem trail_ok {most n k m : Nat} {u l x : List UInt8} (h : lnF l = .ok x m) : run most ⟨.trail [] k, n, u⟩ l = run most ⟨endT k (x ++ [13]), n, u⟩ (l.drop m) := by
  obtain ⟨hq, hm, _⟩ := lnF_ok h
  rw [read_trail hq, hm, List.length_append, List.length_singleton]
theorem endT_end (k : Nat) : endT k ([] ++ [13]) = .done [] := by
  unfold endT
  rw [if_pos (by decide), if_pos (by decide)]
theorem endT_more {k : Nat} {x : List UInt8} (hx : x ≠ []) : endT k (x ++ [13]) = if (parseF x).isSome = true then (if 16 ≤ k then .err 4 else .trail [] (k + 1)) else .err 3 := by
  unfold endT
  rw [if_pos (by simp), List.dropLast_concat, if_neg hx]
/-- where the walk of last stands -/
structure LInv (w wr : World) (p : Nat) (d : ByteArray) (s : ByteArray) (most n : Nat) (u : List UInt8) (R : CS) (i k : Nat) : Prop where
  a : At wr p 66 (bdV d false 0 0)
  b : At wr (p + 1) 66 (bdV ⟨#[]⟩ false 0 0)
  bel : Below p w wr
  run : Ch.run most ⟨.trail [] k, n, u⟩ ((ls s).drop i) = R
  i : i ≤ s.size
  k : k ≤ 16
set_option maxRecDepth 100000 in
set_option maxHeartbeats 8000000 in
theorem last_any (d s : ByteArray) (i : Nat) (hi : i ≤ s.size) (hs : s.size ≤ 1048576) {most n : Nat} {u : List UInt8} {R : CS} (hR : run most ⟨.trail [] 0, n, u⟩ ((ls s).drop i) = R) (w : World) :
    Calls Tryz.prog 60 #[.agg (bdV d false 0 0), .string s, .int .i64 i] w fun x w' => x = .returned (.agg (bodyOf d R s)) ∧ Below w.heap.size w w' := by
  obtain ⟨A0, B0, F0⟩ := two_bodies w d false 0 0
  unfold bdV at A0 B0 F0
  unfold bdV
  have HS := Lib.hid hs
  have HR0 := Lib.hid hR
  clear hR
  go_enter Tryz.func60, Tryz.ntmps60
  go_wp2_with fail
  generalize (w.alloc _).alloc _ = w1 at A0 B0 F0 ⊢
  have I0 : Hid (LInv w w1 w.heap.size d s most n u R i 0) := Lib.hid ⟨A0, B0, F0, HR0.out, hi, by omega⟩
  clear A0 B0 F0 HR0
  go_loopw [2, 7] (fun a b wr => ∃ i k : Nat, a = .int .i64 i ∧ b = .int .i64 k ∧ LInv w wr w.heap.size d s most n u R i k) (fun a _ _ => s.size - (intOf a).toNat)
  case atStart => exact ⟨i, 0, rfl, rfl, I0.out⟩
  case round =>
    clear I0 hi
    obtain ⟨i, k, rfl, rfl, I⟩ := hrel
    have AA := I.a
    have BB := I.b
    have FF := I.bel
    have hp := AA.lt
    have hp1 := BB.lt
    have hi := I.i
    have hk := I.k
    have rl := rline_any s i hi HS.out wr
    unfold lnPost at rl
    have HL : Hid (∀ x m, lnF ((ls s).drop i) = .ok x m → i + m ≤ s.size ∧ 0 < m) := Lib.hid (fun x m h => by
      obtain ⟨_, h1, h2, _⟩ := lnF_ok h
      rw [List.length_drop, ls_len] at h2
      omega)
    go_wp2_with fail
    refine rl.mono ?_
    rintro x0 w2 (⟨e0, hl, rfl, rfl⟩ | ⟨x, m, hl, rfl, rfl⟩)
    · obtain ⟨t1, t2⟩ := trail_err (most := most) (n := n) (k := k) (u := u) hl
      rw [I.run] at t1 t2
      have e0v := (lnF_err hl).1
      have g0 : (e0 != 0) = true := by rw [bne_iff_ne]; omega
      have HB : Hid (bodyOf d R s = bdV d false 0 (enE 0 e0)) := Lib.hid (by unfold bodyOf; rw [t1, t2]; rfl)
      clear rl hl I t1 t2 e0v HL hi hk
      have L1 := bd_loads AA
      go_wp2_with (refine wpl_load L1 rfl rfl rfl ?_)
      refine (ended_any d false 0 0 e0 _).mono ?_
      rintro x we ⟨rfl, ge⟩
      have B1 := BB.old ge
      have F1 := FF.trans (ge.mono (by have := AA.lt; omega))
      have S1 := bd_stores (d' := d) (dn' := false) (sz' := 0) (er' := enE 0 (e0)) B1
      have B2 := B1.row (bdV d false 0 (enE 0 (e0)))
      have F2 := below_row (cs := bdV d false 0 (enE 0 (e0))) F1 (Nat.le_succ _)
      generalize we.setRow (w.heap.size + 1) (bdV d false 0 (enE 0 (e0))) = wf at S1 B2 F2
      clear L1 ge B1 F1
      go_wp2_with (refine wpl_store S1 rfl rfl rfl rfl rfl ?_)
      exact bodyPost_ret (results_one Tryz.results60 _ rfl (bd_loads B2)) rfl ⟨by rw [HB.out], F2⟩
    · have hrun := trail_ok (most := most) (n := n) (k := k) (u := u) hl
      rw [I.run, List.drop_drop] at hrun
      obtain ⟨hm1, hm2⟩ := HL.out x m hl
      have hlx : x.length ≤ 254 := (lnF_ok hl).2.2.2
      clear rl hl I HL
      by_cases hx : x = []
      · subst hx
        rw [endT_end, run_done, List.nil_append] at hrun
        have t1 := toList_nil (tx []) rfl
        have HB : Hid (bodyOf d R s = bdV d true ((i + m : Nat) : Int) 0) := Lib.hid (by
          unfold bodyOf
          rw [hrun]
          show bdV d true (if true = true then ((s.size - ((ls s).drop (i + m)).length : Nat) : Int) else 0) 0 = _
          rw [if_pos rfl, List.length_drop, ls_len]
          congr 2; omega)
        generalize tx [] = X at t1 ⊢
        clear hrun hlx
        have f1 := AA.frozen 1
        have f2 := AA.frozen 2
        have c1 : wr.cell? ⟨w.heap.size, 1, none⟩ = some (.bool false) := AA.cell 1
        obtain ⟨j, hj⟩ : ∃ j, j = i + m := ⟨_, rfl⟩
        rw [← hj] at HB ⊢
        clear hj
        have A2 : At (wr.setCell ⟨w.heap.size, 1, none⟩ (.bool true)) w.heap.size 66 (bdV d true 0 0) := AA.set 1 (.bool true)
        have B2 := BB.other (a := ⟨w.heap.size, 1, none⟩) (by show w.heap.size + 1 ≠ w.heap.size; omega) (.bool true)
        have F2 := below_set FF 1 (.bool true) (Nat.le_refl _)
        go_upto_region 9 with (fail)
        generalize wr.setCell ⟨w.heap.size, 1, none⟩ (.bool true) = w3 at A2 B2 F2 ⊢
        clear AA BB FF f1 c1 f2
        have f2 := A2.frozen 2
        have c2 : w3.cell? ⟨w.heap.size, 2, none⟩ = some (.int .i64 0) := A2.cell 2
        have A3 : At (w3.setCell ⟨w.heap.size, 2, none⟩ (.int .i64 (j : Int))) w.heap.size 66 (bdV d true (j : Int) 0) := A2.set 2 (.int .i64 (j : Int))
        have B3 := B2.other (a := ⟨w.heap.size, 2, none⟩) (by show w.heap.size + 1 ≠ w.heap.size; omega) (.int .i64 (j : Int))
        have F3 := below_set F2 2 (.int .i64 (j : Int)) (Nat.le_refl _)
        go_upto_region 10 with (fail)
        generalize w3.setCell ⟨w.heap.size, 2, none⟩ (.int .i64 (j : Int)) = w4 at A3 B3 F3 ⊢
        clear A2 B2 F2 c2 f2
        have L1 := bd_loads A3
        have S1 := bd_stores (d' := d) (dn' := true) (sz' := (j : Int)) (er' := 0) B3
        have B4 := B3.row (bdV d true (j : Int) 0)
        have F4 := below_row (cs := bdV d true (j : Int) 0) F3 (Nat.le_succ _)
        generalize w4.setRow (w.heap.size + 1) (bdV d true (j : Int) 0) = w5 at S1 B4 F4
        go_wp2_with (first | refine wpl_load L1 rfl rfl rfl ?_ | refine wpl_store S1 rfl rfl rfl rfl rfl ?_)
        exact bodyPost_ret (results_one Tryz.results60 _ rfl (bd_loads B4)) rfl ⟨by rw [HB.out], F4⟩
      · rw [endT_more hx] at hrun
        have hpos : 0 < (tx x).size := by rw [tx_size]; exact List.length_pos_iff.2 hx
        have t1 := toList_ne (tx x) hpos
        have t2 := toList_ne' (tx x) hpos
        have rp := fun w => refParse_any (tx x) w (by rw [tx_size]; omega)
        unfold ParsePost at rp
        rw [ls_tx] at rp
        obtain ⟨j, hj⟩ : ∃ j, j = i + m := ⟨_, rfl⟩
        rw [← hj] at hrun ⊢
        cases hpf : parseF x with
        | none =>
          rw [hpf, if_neg (by decide), run_err] at hrun
          rw [(p_none hpf).2] at rp
          have HB : Hid (bodyOf d R s = bdV d false 0 (enE 0 3)) := Lib.hid (by rw [hrun]; rfl)
          clear hrun
          generalize pF x = f at rp
          generalize tx x = X at t1 t2 rp ⊢
          clear hx hpos hpf
          go_wp2_with fail
          refine (rp _).mono ?_
          rintro x1 w3 ⟨rfl, g3⟩
          clear rp
          obtain ⟨Y, SS, -, GG, -⟩ := fd_keep w3 f
          replace FF := (FF.trans (g3.mono (by have := AA.lt; omega))).trans (GG.mono (by have := AA.lt; have := g3.size; omega))
          replace AA := (AA.old g3).old GG
          replace BB := (BB.old g3).old GG
          clear g3 GG
          go_upto_region 13 with (refine wpl_store SS rfl rfl rfl rfl rfl ?_)
          clear SS
          have L1 := bd_loads AA
          go_wp2_with (refine wpl_load L1 rfl rfl rfl ?_)
          refine (ended_any d false 0 0 3 _).mono ?_
          rintro x we ⟨rfl, ge⟩
          have B1 := BB.old ge
          have F1 := FF.trans (ge.mono (by have := AA.lt; omega))
          have S1 := bd_stores (d' := d) (dn' := false) (sz' := 0) (er' := enE 0 (3)) B1
          have B2 := B1.row (bdV d false 0 (enE 0 (3)))
          have F2 := below_row (cs := bdV d false 0 (enE 0 (3))) F1 (Nat.le_succ _)
          generalize we.setRow (w.heap.size + 1) (bdV d false 0 (enE 0 (3))) = wf at S1 B2 F2
          clear L1 ge B1 F1
          go_wp2_with (refine wpl_store S1 rfl rfl rfl rfl rfl ?_)
          exact bodyPost_ret (results_one Tryz.results60 _ rfl (bd_loads B2)) rfl ⟨by rw [HB.out], F2⟩
        | some g =>
          rw [hpf, if_pos (show (some g).isSome = true from rfl)] at hrun
          rw [(p_some hpf).2] at rp
          by_cases c16 : 16 ≤ k
          · rw [if_pos c16, run_err] at hrun
            have HB : Hid (bodyOf d R s = bdV d false 0 (enE 0 4)) := Lib.hid (by rw [hrun]; rfl)
            have c17 : (16 : Int) ≤ (k : Int) := by omega
            clear hrun
            generalize pF x = f at rp
            generalize tx x = X at t1 t2 rp ⊢
            clear hx hpos hpf
            go_wp2_with fail
            refine (rp _).mono ?_
            rintro x1 w3 ⟨rfl, g3⟩
            clear rp
            obtain ⟨Y, SS, -, GG, -⟩ := fd_keep w3 f
            replace FF := (FF.trans (g3.mono (by have := AA.lt; omega))).trans (GG.mono (by have := AA.lt; have := g3.size; omega))
            replace AA := (AA.old g3).old GG
            replace BB := (BB.old g3).old GG
            clear g3 GG
            go_upto_region 15 with (refine wpl_store SS rfl rfl rfl rfl rfl ?_)
            clear SS
            have L1 := bd_loads AA
            go_wp2_with (refine wpl_load L1 rfl rfl rfl ?_)
            refine (ended_any d false 0 0 4 _).mono ?_
            rintro x we ⟨rfl, ge⟩
            have B1 := BB.old ge
            have F1 := FF.trans (ge.mono (by have := AA.lt; omega))
            have S1 := bd_stores (d' := d) (dn' := false) (sz' := 0) (er' := enE 0 (4)) B1
            have B2 := B1.row (bdV d false 0 (enE 0 (4)))
            have F2 := below_row (cs := bdV d false 0 (enE 0 (4))) F1 (Nat.le_succ _)
            generalize we.setRow (w.heap.size + 1) (bdV d false 0 (enE 0 (4))) = wf at S1 B2 F2
            clear L1 ge B1 F1
            go_wp2_with (refine wpl_store S1 rfl rfl rfl rfl rfl ?_)
            exact bodyPost_ret (results_one Tryz.results60 _ rfl (bd_loads B2)) rfl ⟨by rw [HB.out], F2⟩
          · rw [if_neg c16] at hrun
            have HRN := Lib.hid hrun
            have c17 : ¬ (16 : Int) ≤ (k : Int) := by omega
            clear hrun
            generalize pF x = f at rp
            generalize tx x = X at t1 t2 rp ⊢
            clear hx hpos hpf
            go_wp2_with fail
            refine (rp _).mono ?_
            rintro x1 w3 ⟨rfl, g3⟩
            clear rp
            obtain ⟨Y, SS, -, GG, -⟩ := fd_keep w3 f
            replace FF := (FF.trans (g3.mono (by have := AA.lt; omega))).trans (GG.mono (by have := AA.lt; have := g3.size; omega))
            replace AA := (AA.old g3).old GG
            replace BB := (BB.old g3).old GG
            clear g3 GG
            go_wp2_with (refine wpl_store SS rfl rfl rfl rfl rfl ?_)
            go_roundw
            case rel => exact ⟨j, k + 1, congrArg (Value.int .i64) (by omega), by go_num, ⟨AA, BB, FF, HRN.out.symm, by omega, by omega⟩⟩
            case measure => simp [intOf]; omega
end Go.Proofs.YtbngfphiachnoaaGreatDoor.Ch
