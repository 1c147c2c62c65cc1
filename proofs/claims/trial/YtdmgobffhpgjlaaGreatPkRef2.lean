/-
  Contracts of the document's Off, Arm and begin.
-/
import Derived.Test.YtdmgobffhpgjlaaGreatPkRef
namespace Go.Proofs.YtdmgobffhpgjlaaGreat.Pk
open Go.RowKit Go.PlainAid Go.Maps
set_option linter.unusedVariables false
set_option maxRecDepth 20000
set_option linter.unusedSimpArgs false

/-- behind a call: the document's disk is D', and nothing but its own blocks has turned -/
def RPost (w w' : World) (u : Nat) (v : Value) (D' : Dk) : Prop := ∃ v' a' mo', RefAt w' u v' a' mo' D' ∧ Goes w w' (rzone u v) (rzone u v')
section
variable {w w' : World} {u : Nat} {v : Value} {a mo : Int} {D : Dk}
theorem RefAt.set (h : RefAt w u v a mo D) {a' mo' : Int} {D' : Dk} (hL : D'.L = D.L) (ok : D'.Ok) (j : Nat) (x : Value) (e : (refV v a mo D).setIfInBounds j x = refV v a' mo' D') (harm : D'.kd ≠ 0 → a' = D'.fa ∧ max mo' 0 = D'.fm) (h0 : 0 ≤ a') (h1 : a' ≤ 2199023255552) (h2 : mo' ≤ 9223372036854775807) :
    RefAt (w.setCell ⟨u, j, none⟩ x) u v a' mo' D' ∧ Goes w (w.setCell ⟨u, j, none⟩ x) (rzone u v) (rzone u v) := by
  refine ⟨⟨?_, ?_, harm, h0, h1, h2, ok⟩, Goes.of_set rfl (.inl rfl)⟩
  · rw [heap_set _ _ _ _ _ _ _ h.head, e]
  · rw [hL]
    exact orow_same h.row fun b hb => Below.heap_setCell _ _ _ _ (h.ur hb).symm
set_option maxRecDepth 100000 in
set_option maxHeartbeats 1000000 in
theorem roff_any (h : RefAt w u v a mo D) :
    Calls Tryz.prog 14 #[.pointer (some ⟨u, 0, none⟩)] w fun e w' => e = .returned (.tuple #[]) ∧ RefAt w' u v a mo D.offd ∧ Goes w w' (rzone u v) (rzone u v) := by
  have c6 := h.cell 6
  have c4 := h.cell 4
  have f6 := h.frozen 6
  have f4 := h.frozen 4
  have okO := h.ok.offd
  simp [refV] at c6 c4
  have s1 : (w.setCell ⟨u, 6, none⟩ (.bool true)).heap[u]? = some (.cells ((refV v a mo D).setIfInBounds 6 (.bool true)) 63 (0, 0)) := heap_set _ _ _ _ _ _ _ h.head
  have s2 : ((w.setCell ⟨u, 6, none⟩ (.bool true)).setCell ⟨u, 4, none⟩ (.int .i64 0)).heap[u]? = some (.cells (refV v a mo D.offd) 63 (0, 0)) := (heap_set _ _ _ _ _ _ _ s1).trans rfl
  have R : RefAt ((w.setCell ⟨u, 6, none⟩ (.bool true)).setCell ⟨u, 4, none⟩ (.int .i64 0)) u v a mo D.offd :=
    ⟨s2, orow_same h.row fun b hb => (Below.heap_setCell _ _ _ _ (h.ur hb).symm).trans (Below.heap_setCell _ _ _ _ (h.ur hb).symm), by simp [Dk.offd], h.a0, h.a1, h.m1, okO⟩
  have G : Goes w ((w.setCell ⟨u, 6, none⟩ (.bool true)).setCell ⟨u, 4, none⟩ (.int .i64 0)) (rzone u v) (rzone u v) := (Goes.of_set rfl (.inl rfl)).trans (Goes.of_set rfl (.inl rfl))
  have RH := Lib.hid R
  have GH := Lib.hid G
  clear R G s1 s2 h okO
  go_enter Tryz.func14, Tryz.ntmps14
  go_wp2
  exact bodyPost_end (v := .tuple #[]) (by simp [results, Tryz.results14, go_sem]) rfl ⟨rfl, RH.out, GH.out⟩
set_option maxRecDepth 100000 in
set_option maxHeartbeats 2000000 in
theorem rarm_any (h : RefAt w u v a mo D) (ho : D.ops ≤ 1099511627776) (pos kind more : Int) (hm : more ≤ 9223372036854775807) :
    Calls Tryz.prog 12 #[.pointer (some ⟨u, 0, none⟩), .int .i64 pos, .int .i64 kind, .int .i64 more] w fun e w' => e = .returned (.tuple #[]) ∧ RPost w w' u v (D.arm pos kind more) := by
  have o0 := h.ok.ops0
  have okB := h.ok.arm ho pos kind more hm
  have c4 := h.cell 4
  have c2 := h.cell 2
  have c3 := h.cell 3
  have c5 := h.cell 5
  have f4 := h.frozen 4
  have f3 := h.frozen 3
  have f5 := h.frozen 5
  simp [refV] at c4 c2 c3 c5
  have s1 : (w.setCell ⟨u, 4, none⟩ (.int .i64 0)).heap[u]? = some (.cells (refV v a mo { D with kd := 0, fa := 0, fm := 0 }) 63 (0, 0)) := heap_set _ _ _ _ _ _ _ h.head
  have far : ∀ b, v.ownBlock = some b → b ≠ u := fun b hb => (h.ur hb).symm
  unfold Dk.arm at okB ⊢
  by_cases c : pos < 1 ∨ 1099511627776 < pos ∨ (kind ≠ 1 ∧ kind ≠ 2)
  · rw [if_pos c] at okB ⊢
    have R : RefAt (w.setCell ⟨u, 4, none⟩ (.int .i64 0)) u v a mo { D with kd := 0, fa := 0, fm := 0 } := ⟨s1, orow_same h.row fun b hb => Below.heap_setCell _ _ _ _ (far b hb), by simp, h.a0, h.a1, h.m1, okB⟩
    have G : Goes w (w.setCell ⟨u, 4, none⟩ (.int .i64 0)) (rzone u v) (rzone u v) := Goes.of_set rfl (.inl rfl)
    have RH := Lib.hid R
    have GH := Lib.hid G
    clear R G s1 h far okB
    have c1 : ¬ 1 ≤ pos ∨ (1 ≤ pos ∧ (kind == 1) = false ∧ (kind == 2) = false) ∨ (1 ≤ pos ∧ kind = 1 ∧ ¬ pos ≤ 1099511627776) ∨ (1 ≤ pos ∧ kind = 2 ∧ ¬ pos ≤ 1099511627776) := by
      by_cases p1 : 1 ≤ pos
      · by_cases k1 : kind = 1
        · exact .inr (.inr (.inl ⟨p1, k1, by omega⟩))
        · by_cases k2 : kind = 2
          · exact .inr (.inr (.inr ⟨p1, k2, by omega⟩))
          · exact .inr (.inl ⟨p1, by simpa using k1, by simpa using k2⟩)
      · exact .inl p1
    clear c
    rcases c1 with c1 | ⟨c1, k1, k2⟩ | ⟨c1, rfl, k2⟩ | ⟨c1, rfl, k2⟩
    all_goals
      go_enter Tryz.func12, Tryz.ntmps12
      go_wp2
      exact bodyPost_end (v := .tuple #[]) (by simp [results, Tryz.results12, go_sem]) rfl ⟨rfl, v, a, mo, RH.out, GH.out⟩
  · rw [if_neg c] at okB ⊢
    have p1 : 1 ≤ pos ∧ pos ≤ 1099511627776 ∧ (kind = 1 ∨ kind = 2) := by omega
    clear c
    obtain ⟨p1, p2, p3⟩ := p1
    have q3 : IntKind.i64.wrap (D.ops + pos) = D.ops + pos := IntWalk.i64_in _ (by omega)
    have s2 : ((w.setCell ⟨u, 4, none⟩ (.int .i64 0)).setCell ⟨u, 4, none⟩ (.int .i64 kind)).heap[u]? = some (.cells (refV v a mo { D with kd := kind, fa := 0, fm := 0 }) 63 (0, 0)) := (heap_set _ _ _ _ _ _ _ s1).trans rfl
    have s3 : (((w.setCell ⟨u, 4, none⟩ (.int .i64 0)).setCell ⟨u, 4, none⟩ (.int .i64 kind)).setCell ⟨u, 3, none⟩ (.int .i64 (D.ops + pos))).heap[u]? = some (.cells (refV v (D.ops + pos) mo { D with kd := kind, fa := 0, fm := 0 }) 63 (0, 0)) := (heap_set _ _ _ _ _ _ _ s2).trans rfl
    have s4 : ((((w.setCell ⟨u, 4, none⟩ (.int .i64 0)).setCell ⟨u, 4, none⟩ (.int .i64 kind)).setCell ⟨u, 3, none⟩ (.int .i64 (D.ops + pos))).setCell ⟨u, 5, none⟩ (.int .i64 more)).heap[u]? = some (.cells (refV v (D.ops + pos) more { D with kd := kind, fa := D.ops + pos, fm := max more 0 }) 63 (0, 0)) := (heap_set _ _ _ _ _ _ _ s3).trans rfl
    have R : RefAt ((((w.setCell ⟨u, 4, none⟩ (.int .i64 0)).setCell ⟨u, 4, none⟩ (.int .i64 kind)).setCell ⟨u, 3, none⟩ (.int .i64 (D.ops + pos))).setCell ⟨u, 5, none⟩ (.int .i64 more)) u v (D.ops + pos) more { D with kd := kind, fa := D.ops + pos, fm := max more 0 } :=
      ⟨s4, orow_same h.row fun b hb => by rw [Below.heap_setCell _ _ _ _ (far b hb), Below.heap_setCell _ _ _ _ (far b hb), Below.heap_setCell _ _ _ _ (far b hb), Below.heap_setCell _ _ _ _ (far b hb)], fun _ => ⟨rfl, rfl⟩, by omega, by omega, hm, okB⟩
    have G : Goes w ((((w.setCell ⟨u, 4, none⟩ (.int .i64 0)).setCell ⟨u, 4, none⟩ (.int .i64 kind)).setCell ⟨u, 3, none⟩ (.int .i64 (D.ops + pos))).setCell ⟨u, 5, none⟩ (.int .i64 more)) (rzone u v) (rzone u v) := (((Goes.of_set rfl (.inl rfl)).trans (Goes.of_set rfl (.inl rfl))).trans (Goes.of_set rfl (.inl rfl))).trans (Goes.of_set rfl (.inl rfl))
    have RH := Lib.hid R
    have GH := Lib.hid G
    clear R G s1 s2 s3 s4 h far okB
    rcases p3 with rfl | rfl
    all_goals
      go_enter Tryz.func12, Tryz.ntmps12
      go_wp2
      exact bodyPost_end (v := .tuple #[]) (by simp [results, Tryz.results12, go_sem]) rfl ⟨rfl, v, _, _, RH.out, GH.out⟩
theorem isName_iff (s : ByteArray) : isName (kl s) = true ↔ 1 ≤ s.size ∧ s.size ≤ 80 := by
  have := kl_len s
  unfold isName
  rw [decide_eq_true_iff, this]
theorem beg_name {g : Bool} (h : g = false) : D.beg g = (1, D) := by subst h; rfl
theorem beg_off (h : D.off = true) : D.beg true = (12, D) := by
  unfold Dk.beg
  rw [if_neg (by simp), if_pos h]
theorem beg_on (h : D.off = false) : D.beg true = { D with ops := D.ops + 1 }.fail := by
  unfold Dk.beg
  rw [if_neg (by simp), if_neg (by simp [h])]
set_option maxRecDepth 100000 in
set_option maxHeartbeats 2000000 in
theorem rbegin_any (h : RefAt w u v a mo D) (pw : D.Pw) (ho : D.ops ≤ 1099511627776) (s t : ByteArray) (hs : s.size ≤ 9223372036854775807) (ht : t.size ≤ 9223372036854775807) :
    Calls Tryz.prog 50 #[.pointer (some ⟨u, 0, none⟩), .agg #[.string s, .string t]] w fun e w' => e = .returned (.int .i64 (D.beg (isName (kl s) && isName (kl t))).1) ∧ RPost w w' u v (D.beg (isName (kl s) && isName (kl t))).2 := by
  have hA := h.alloc (.cells #[.string s, .string t] 97)
  have gA := Goes.alloc w (.cells #[.string s, .string t] 97) (rzone u v)
  have hB := heap_alloc_new w (.cells #[.string s, .string t] 97)
  have n1 := isName_iff s
  have n2 := isName_iff t
  have HA := Lib.hid hA
  have GA := Lib.hid gA
  have cs : (w.alloc (.cells #[.string s, .string t] 97)).cell? ⟨w.heap.size, 0, none⟩ = some (.string s) := cell_of_row _ _ _ _ _ _ hB
  have ct : (w.alloc (.cells #[.string s, .string t] 97)).cell? ⟨w.heap.size, 1, none⟩ = some (.string t) := cell_of_row _ _ _ _ _ _ hB
  clear hA gA hB h
  have F1 : ∀ g, g = false → D.beg g = (1, D) := fun g e => beg_name e
  by_cases b1 : isName (kl s) = true
  · have z1 := n1.1 b1
    rw [b1, Bool.true_and]
    have e1 : ¬ (s.size : Int) < 1 := by omega
    have e2 : ¬ (80 : Int) < (s.size : Int) := by omega
    by_cases b2 : isName (kl t) = true
    · have z2 := n2.1 b2
      rw [b2]
      have e3 : ¬ (t.size : Int) < 1 := by omega
      have e4 : ¬ (80 : Int) < (t.size : Int) := by omega
      clear n1 n2 b1 b2 z1 z2 F1
      have c6 := HA.out.cell 6
      have c2 := HA.out.cell 2
      have f2 := HA.out.frozen 2
      simp only [refV] at c6 c2
      have a0 := HA.out.ok.ops0
      have w1 : IntKind.i64.wrap (D.ops + 1) = D.ops + 1 := IntWalk.i64_in _ (by omega)
      by_cases hoff : D.off = true
      · rw [beg_off hoff]
        simp [hoff] at c6
        simp at c2
        have H := HA
        clear pw
        go_enter Tryz.func50, Tryz.ntmps50
        go_wp2
        refine wp_loop_rounds 3 ?_
        rw [rounds_succ]
        go_wp2
        rw [rounds_succ]
        go_wp2
        rw [rounds_succ]
        go_wp2
        go_ret
        exact ⟨rfl, v, a, mo, HA.out, GA.out⟩
      · have hoff : D.off = false := by simpa using hoff
        rw [beg_on hoff]
        simp [hoff] at c6
        simp at c2
        have arm1 := HA.out.arm
        have kd3 := HA.out.ok.kd
        have am0 := HA.out.a0
        have am1 := HA.out.a1
        have fm0 := HA.out.ok.fm0
        obtain ⟨r1, g1⟩ := HA.out.set (a' := a) (mo' := mo) (D' := { D with ops := D.ops + 1 }) rfl HA.out.ok.count 2 (.int .i64 (D.ops + 1)) rfl HA.out.arm HA.out.a0 HA.out.a1 HA.out.m1
        have R1 := Lib.hid r1
        have G1 := Lib.hid (GA.out.trans g1)
        clear r1 g1 HA GA
        unfold Dk.Pw at pw
        have FL : ∀ x, { D with ops := D.ops + 1 }.fail = x → { D with ops := D.ops + 1 }.fail = x := fun _ h => h
        by_cases k0 : D.kd = 0
        · have fl : { D with ops := D.ops + 1 }.fail = (0, { D with ops := D.ops + 1 }) := by unfold Dk.fail; rw [if_pos (.inl k0)]
          rw [fl]
          have KD := Lib.hid k0
          clear fl FL arm1 kd3 pw
          have c4 := R1.out.cell 4
          simp [refV, k0] at c4
          go_enter Tryz.func50, Tryz.ntmps50
          go_wp2
          refine wp_loop_rounds 3 ?_
          rw [rounds_succ]
          go_wp2
          rw [rounds_succ]
          go_wp2
          rw [rounds_succ]
          go_wp2_with fail
          go_quiet (fail)
          have R3 := Lib.hid (R1.out.drewN nq)
          have G3 := Lib.hid (G1.out.trans (Goes.drewN _ nq _))
          generalize World.drewN _ nq = wq at R3 G3 ⊢
          go_wp2
          go_ret
          exact ⟨rfl, v, a, mo, R3.out, G3.out⟩
        obtain ⟨arm2, arm3⟩ := arm1 k0
        have KN : (D.kd == 0) = false := by simpa using k0
        have c4 := R1.out.cell 4
        have c2' := R1.out.cell 2
        have c3 := R1.out.cell 3
        simp [refV] at c4 c2' c3
        by_cases k1 : D.ops + 1 < a
        · have fl : { D with ops := D.ops + 1 }.fail = (0, { D with ops := D.ops + 1 }) := by unfold Dk.fail; rw [if_pos (.inr (.inl (by simp; omega)))]
          rw [fl]
          clear fl FL arm2 arm3 arm1 kd3 pw k0
          go_enter Tryz.func50, Tryz.ntmps50
          go_wp2
          refine wp_loop_rounds 3 ?_
          rw [rounds_succ]
          go_wp2
          rw [rounds_succ]
          go_wp2
          rw [rounds_succ]
          go_wp2_with fail
          go_quiet (fail)
          have R3 := Lib.hid (R1.out.drewN nq)
          have G3 := Lib.hid (G1.out.trans (Goes.drewN _ nq _))
          generalize World.drewN _ nq = wq at R3 G3 ⊢
          go_wp2
          go_ret
          exact ⟨rfl, v, a, mo, R3.out, G3.out⟩
        by_cases k2 : D.kd = 2
        · have fl : { D with ops := D.ops + 1 }.fail = (12, { D with ops := D.ops + 1 }.offd) := by
            have := pw k2
            unfold Dk.fail
            rw [if_neg (by simp; omega), if_neg (by simp; omega)]
          rw [fl]
          clear fl FL arm2 arm3 arm1 kd3 pw k0 KN
          rw [k2] at c4
          have K2 := Lib.hid k2
          clear k2
          go_enter Tryz.func50, Tryz.ntmps50
          go_wp2
          refine wp_loop_rounds 3 ?_
          rw [rounds_succ]
          go_wp2
          rw [rounds_succ]
          go_wp2
          rw [rounds_succ]
          go_wp2_with fail
          go_quiet (fail)
          have R3 := Lib.hid (R1.out.drewN nq)
          have G3 := Lib.hid (G1.out.trans (Goes.drewN _ nq _))
          generalize World.drewN _ nq = wq at R3 G3 ⊢
          have c5 := R3.out.cell 4
          simp [refV, K2.out] at c5
          have OF := roff_any R3.out
          go_wp2_with fail
          refine OF.mono ?_
          rintro e wz ⟨rfl, rz, gz⟩
          have RZ := Lib.hid rz
          have GZ := Lib.hid (G3.out.trans gz)
          clear rz gz OF
          go_wp2
          go_ret
          exact ⟨rfl, v, a, mo, RZ.out, GZ.out⟩
        have k3 : D.kd = 1 := by omega
        rw [k3] at c4
        have q8 : IntKind.i64.wrap (D.ops + 1 - a) = D.ops + 1 - a := IntWalk.i64_in _ (by omega)
        by_cases k4 : D.ops + 1 - a ≤ max mo 0
        · have fl : { D with ops := D.ops + 1 }.fail = (11, { D with ops := D.ops + 1 }) := by
            unfold Dk.fail
            rw [if_neg (by simp; omega), if_pos k3]
          rw [fl]
          have K3 := Lib.hid k3
          clear fl FL arm2 arm3 arm1 kd3 pw k0 KN k2 k3
          go_enter Tryz.func50, Tryz.ntmps50
          go_wp2
          refine wp_loop_rounds 3 ?_
          rw [rounds_succ]
          go_wp2
          rw [rounds_succ]
          go_wp2
          rw [rounds_succ]
          go_wp2_with fail
          go_quiet (fail)
          have R3 := Lib.hid (R1.out.drewN nq)
          have G3 := Lib.hid (G1.out.trans (Goes.drewN _ nq _))
          generalize World.drewN _ nq = wq at R3 G3 ⊢
          have d4 := R3.out.cell 4
          have d2 := R3.out.cell 2
          have d3 := R3.out.cell 3
          have d5 := R3.out.cell 5
          simp [refV, K3.out] at d4 d2 d3 d5
          go_wp2_with fail
          go_quiet (fail)
          have R4 := Lib.hid (R3.out.drewN nq)
          have G4 := Lib.hid (G3.out.trans (Goes.drewN _ nq _))
          generalize World.drewN _ nq = wz at R4 G4 ⊢
          go_wp2
          go_ret
          exact ⟨rfl, v, a, mo, R4.out, G4.out⟩
        · have fl : { D with ops := D.ops + 1 }.fail = (0, { D with ops := D.ops + 1 }) := by
            unfold Dk.fail
            rw [if_pos (.inr (.inr (by simp; omega)))]
          rw [fl]
          have K3 := Lib.hid k3
          clear fl FL arm2 arm3 arm1 kd3 pw k0 KN k2 k3
          go_enter Tryz.func50, Tryz.ntmps50
          go_wp2
          refine wp_loop_rounds 3 ?_
          rw [rounds_succ]
          go_wp2
          rw [rounds_succ]
          go_wp2
          rw [rounds_succ]
          go_wp2_with fail
          go_quiet (fail)
          have R3 := Lib.hid (R1.out.drewN nq)
          have G3 := Lib.hid (G1.out.trans (Goes.drewN _ nq _))
          generalize World.drewN _ nq = wq at R3 G3 ⊢
          have d4 := R3.out.cell 4
          have d2 := R3.out.cell 2
          have d3 := R3.out.cell 3
          have d5 := R3.out.cell 5
          simp [refV, K3.out] at d4 d2 d3 d5
          go_wp2_with fail
          go_quiet (fail)
          have R4 := Lib.hid (R3.out.drewN nq)
          have G4 := Lib.hid (G3.out.trans (Goes.drewN _ nq _))
          generalize World.drewN _ nq = wz at R4 G4 ⊢
          go_wp2
          go_ret
          exact ⟨rfl, v, a, mo, R4.out, G4.out⟩
    · have b2 : isName (kl t) = false := by simpa using b2
      rw [b2, beg_name rfl]
      rcases Nat.lt_or_ge t.size 1 with c | c
      · have e3 : (t.size : Int) < 1 := by omega
        clear n1 n2 b1 b2 z1 F1
        go_enter Tryz.func50, Tryz.ntmps50
        go_wp2
        refine wp_loop_rounds 2 ?_
        rw [rounds_succ]
        go_wp2
        rw [rounds_succ]
        go_wp2
        all_goals
          go_ret
          exact ⟨rfl, v, a, mo, HA.out, GA.out⟩
      · rcases Nat.lt_or_ge 80 t.size with d | d
        · have e3 : ¬ (t.size : Int) < 1 := by omega
          have e4 : (80 : Int) < (t.size : Int) := by omega
          clear n1 n2 b1 b2 z1 F1
          go_enter Tryz.func50, Tryz.ntmps50
          go_wp2
          refine wp_loop_rounds 2 ?_
          rw [rounds_succ]
          go_wp2
          rw [rounds_succ]
          go_wp2
          all_goals
            go_ret
            exact ⟨rfl, v, a, mo, HA.out, GA.out⟩
        · rw [n2.2 ⟨c, d⟩] at b2
          cases b2
  · have b1 : isName (kl s) = false := by simpa using b1
    rw [b1, Bool.false_and, beg_name rfl]
    rcases Nat.lt_or_ge s.size 1 with c | c
    · have e3 : (s.size : Int) < 1 := by omega
      clear n1 n2 b1 F1
      go_enter Tryz.func50, Tryz.ntmps50
      go_wp2
      refine wp_loop_rounds 1 ?_
      rw [rounds_succ]
      go_wp2
      all_goals
        go_ret
        exact ⟨rfl, v, a, mo, HA.out, GA.out⟩
    · rcases Nat.lt_or_ge 80 s.size with d | d
      · have e3 : ¬ (s.size : Int) < 1 := by omega
        have e4 : (80 : Int) < (s.size : Int) := by omega
        clear n1 n2 b1 F1
        go_enter Tryz.func50, Tryz.ntmps50
        go_wp2
        refine wp_loop_rounds 1 ?_
        rw [rounds_succ]
        go_wp2
        all_goals
          go_ret
          exact ⟨rfl, v, a, mo, HA.out, GA.out⟩
      · rw [n1.2 ⟨c, d⟩] at b1
        cases b1
end
end Go.Proofs.YtdmgobffhpgjlaaGreat.Pk
