/-
  The document's turn.
-/
import Derived.Test.YtdmgobffhpgjlaaGreatPkRef5
namespace Go.Proofs.YtdmgobffhpgjlaaGreat.Pk
open Go.RowKit Go.PlainAid Go.Maps
set_option linter.unusedVariables false
set_option maxRecDepth 20000
set_option linter.unusedSimpArgs false

theorem rowF_take (l : List Fi) (i : Nat) : rowF (l.take i) = (rowF l).take (i * 3) := by
  rcases Nat.le_total i l.length with h | h
  · have e : rowF l = rowF (l.take i) ++ rowF (l.drop i) := by rw [← rowF_app, List.take_append_drop]
    have el : (rowF (l.take i)).length = i * 3 := by rw [rowF_len]; simp; omega
    rw [e]
    exact (List.take_left' el).symm
  · rw [List.take_of_length_le h, List.take_of_length_le (by rw [rowF_len]; omega)]
theorem rowF_drop (l : List Fi) (i : Nat) (h : i ≤ l.length) : rowF (l.drop i) = (rowF l).drop (i * 3) := by
  have e : rowF l = rowF (l.take i) ++ rowF (l.drop i) := by rw [← rowF_app, List.take_append_drop]
  have el : (rowF (l.take i)).length = i * 3 := by rw [rowF_len]; simp; omega
  rw [e]
  exact (List.drop_left' el).symm
theorem rowF_set {l : List Fi} {i : Nat} (f : Fi) (h : i < l.length) : rowF (l.set i f) = (rowF l).take (i * 3) ++ fiV f ++ (rowF l).drop (i * 3 + 3) := by
  rw [List.set_eq_take_append_cons_drop, if_pos h, rowF_app, rowF_take, rowF, rowF_drop _ _ (by omega), show (i + 1) * 3 = i * 3 + 3 by omega]
  simp
theorem row_store {w : World} {g cap i : Nat} {l : List Fi} (hr : w.ownsRow 0 65 3 (.slice (some ⟨g, 0, none⟩) l.length cap) l.length (rowF l)) (hi : i < l.length) (f : Fi) :
    ∃ X, Stores Tryz.prog w 65 g (i * 3) #[.string (nmB f.nm), .string (nmB f.bs), .int .i64 (f.sf : Int)] X ∧ X.ownsRow 0 65 3 (.slice (some ⟨g, 0, none⟩) l.length cap) (l.set i f).length (rowF (l.set i f)) ∧ (∀ b, b ≠ g → X.heap[b]? = w.heap[b]?) ∧ X.heap.size = w.heap.size ∧ X.os = w.os ∧ X.tape = w.tape ∧ X.output = w.output := by
  rcases hr.2 with ⟨e, _⟩ | ⟨g', cap', cur, e, _, hg, hn, hm, hc, ht⟩
  · cases e
  · injection e with e1 _ e3
    injection e1 with e1
    injection e1 with e1
    subst e1 e3
    have s := stores_part (P := Tryz.prog) (ty := 65) (off := i * 3) (cs := #[.string (nmB f.nm), .string (nmB f.bs), .int .i64 (f.sf : Int)]) hg (by kernel_rfl) (by simp; omega) (by simp [Value.oneCell'])
    refine ⟨_, s, ⟨by rw [rowF_len], .inr ⟨g, cap, _, by simp, Nat.zero_le _, setRow_heap w g _ _ _ _ hg, by simpa using hn, hm, ?_, ?_⟩⟩, fun b hb => heap_setRow_other hb, by simp, rfl, rfl, rfl⟩
    · simp
      omega
    · have hcl : cur.toList.length = cap * 3 := by rw [Array.length_toList, hc]
      have e1 : (rowF l).take (i * 3) = cur.toList.take (i * 3) := by rw [← ht, List.take_take, Nat.min_eq_left (by omega)]
      have e2 : (rowF l).drop (i * 3 + 3) = (cur.toList.drop (i * 3 + 3)).take (l.length * 3 - (i * 3 + 3)) := by rw [← ht, List.drop_take]
      have l1 : (cur.toList.take (i * 3) ++ fiV f).length = i * 3 + 3 := by simp [fiV]; omega
      rw [rowF_set f hi, e1, e2, List.length_set]
      show (cur.toList.take (i * 3) ++ fiV f ++ cur.toList.drop (i * 3 + 3)).take (l.length * 3) = _
      rw [List.take_append, List.take_of_length_le (by omega), l1]
theorem wps_loadA {P : Program} {ops : Array Oper} {rest : List Oper} {o : Oper} {a : Act} {w : World} {ty : TypeId} {x : Operand} {ad : Addr} {cs : Array Value} {Q : Act → Prop} (hl : LoadsA P w ty ad cs) (hgd : o.guard = none) (hop : o.op = .load ty x) (hx : a.eval x = .pointer (some ad)) (h : wpStill P ops w Q rest (a.put o.dst (.agg cs))) : wpStill P ops w Q (o :: rest) a := by
  refine wpStill_step fun K hK => ?_
  rw [if_pos (by simp [Region.wanted, hgd])]
  unfold Oper.still execOp
  simp only [hop, hx, Instr.loadAt, Instr.sureAddr, Sem.run_bind, Sem.run_pure, Result.andThen_ok, show (loadVar ty ad).run P w = .ok (.agg cs) w from hl]
  exact ⟨rfl, hK _ h⟩
section
variable {w w' : World} {u : Nat} {v : Value} {a mo : Int} {D : Dk}
set_option maxRecDepth 100000 in
set_option maxHeartbeats 2000000 in
theorem rturn_any (h : RefAt w u v a mo D) {i : Nat} {f : Fi} (hi : D.L[i]? = some f) (q : Fi) (hq : q.nm = f.nm) (ok : { D with L := updF f.nm q D.L }.Ok) :
    Calls Tryz.prog 46 #[.pointer (some ⟨u, 0, none⟩), .int .i64 (i : Int), .agg #[.string (nmB q.nm), .string (nmB q.bs), .int .i64 (q.sf : Int)]] w fun e w' => e = .returned (.tuple #[]) ∧ RPost w w' u v { D with L := updF f.nm q D.L } := by
  have hlt := (List.getElem?_eq_some_iff.1 hi).1
  have hcn := h.ok.cnt
  have ed := upd_at h.ok.up.ne (g := q) hi
  rw [ed] at ok ⊢
  -- the boxed file, and an empty row
  have bw1 : Below w.heap.size w (w.alloc (.cells #[.string (nmB q.nm), .string (nmB q.bs), .int .i64 (q.sf : Int)] 65)) := (Below.refl _ _).alloc (Nat.le_refl _) _
  have hB := heap_alloc_new w (.cells #[.string (nmB q.nm), .string (nmB q.bs), .int .i64 (q.sf : Int)] 65)
  generalize hw1 : w.alloc (.cells #[.string (nmB q.nm), .string (nmB q.bs), .int .i64 (q.sf : Int)] 65) = w1 at *
  have sz1 : w1.heap.size = w.heap.size + 1 := by rw [← hw1]; simp
  have h1 : RefAt w1 u v a mo D := h.kept fun b z => bw1.block b (h.lt z)
  have KP : ∀ w2, Below w1.heap.size w1 w2 → RefAt w2 u v a mo D := fun w2 hb => h1.kept fun b z => hb.block b (h1.lt z)
  obtain ⟨g, cap, ev, hcap⟩ : ∃ g cap, v = .slice (some ⟨g, 0, none⟩) D.L.length cap ∧ D.L.length ≤ cap := by
    rcases h.row.2 with ⟨_, h0⟩ | ⟨g, cap, cur, e, _, _, hn, _⟩
    · omega
    · exact ⟨g, cap, e, hn⟩
  subst ev
  have bw : Below w1.heap.size w1 (w1.alloc (.cells #[] 65)) := (Below.refl _ _).alloc (Nat.le_refl _) _
  have C1 : ∀ j y, (rowF D.L)[j]? = some y → (w1.alloc (.cells #[] 65)).cell? ((⟨g, 0, none⟩ : Addr).add j) = some y := (KP _ bw).row.cells (g := g) rfl
  have hown0 := World.ownsRow_made w1 (e := 65) (size := 3) (base := 0) #[] 0 (Nat.zero_le _) (by unfold maxLen; omega) rfl
  have CE : ∀ w2, Below w1.heap.size w1 w2 → w2.cell? ⟨u, 0, none⟩ = some (.slice (some ⟨g, 0, none⟩) D.L.length cap) ∧ w2.frozen? ⟨u, 0, none⟩ = false := fun w2 hb => by
    have r := KP w2 hb
    have c := r.cell 0
    simp [refV] at c
    exact ⟨c, r.frozen 0⟩
  have cA := (CE _ bw).1
  have CEH := Lib.hid CE
  have ul := in_heap h.head
  have NEXT : ∀ w3 o3 cap3, Below w1.heap.size w1 w3 → w3.ownsRow 0 65 3 (.slice o3 D.L.length cap3) D.L.length (rowF D.L) → (∀ b, Value.ownBlock (.slice o3 D.L.length cap3) = some b → w1.heap.size ≤ b) →
      ∃ g3, o3 = some ⟨g3, 0, none⟩ ∧ LoadsA Tryz.prog (w3.setCell ⟨u, 0, none⟩ (.slice o3 D.L.length cap3)).drew 65 ⟨w.heap.size, 0, none⟩ #[.string (nmB q.nm), .string (nmB q.bs), .int .i64 (q.sf : Int)] ∧ (w3.setCell ⟨u, 0, none⟩ (.slice o3 D.L.length cap3)).cell? ⟨u, 0, none⟩ = some (.slice o3 D.L.length cap3) ∧
        ∃ X, Stores Tryz.prog (w3.setCell ⟨u, 0, none⟩ (.slice o3 D.L.length cap3)).drew 65 g3 (i * 3) #[.string (nmB q.nm), .string (nmB q.bs), .int .i64 (q.sf : Int)] X ∧ RPost w X u (.slice (some ⟨g, 0, none⟩) D.L.length cap) { D with L := D.L.set i q } := by
    intro w3 o3 cap3 hb hr hx
    have b0 : Below w.heap.size w w3 := bw1.trans (hb.mono (by omega))
    obtain ⟨g3, e3⟩ : ∃ g3, o3 = some ⟨g3, 0, none⟩ := by
      rcases hr.2 with ⟨_, h0⟩ | ⟨g3, _, _, e, _⟩
      · omega
      · injection e with e _ _
        exact ⟨g3, e⟩
    subst e3
    have hg3 : w1.heap.size ≤ g3 := hx g3 rfl
    obtain ⟨v1, a1, m1, R1, G1⟩ := h.setRow b0 (l := D.L) hr (fun b hb => by have := hx b hb; omega) h.ok
    refine ⟨g3, rfl, ?_, ?_, ?_⟩
    · refine loads_fi (f := q) fun c x hc => ?_
      rw [add_addr, Nat.zero_add]
      have e : (w3.setCell ⟨u, 0, none⟩ (.slice (some ⟨g3, 0, none⟩) D.L.length cap3)).heap[w.heap.size]? = some (.cells (fiV q).toArray 65 (0, 0)) := by
        rw [Below.heap_setCell _ _ _ _ (by simp; omega), hb.block _ (by omega)]
        exact hB
      show (w3.setCell ⟨u, 0, none⟩ (.slice (some ⟨g3, 0, none⟩) D.L.length cap3)).cell? ⟨w.heap.size, c, none⟩ = some x
      rw [cell_of_row _ _ _ _ _ _ e]
      simpa using hc
    · have hh : w3.heap[u]? = some (.cells (refV (.slice (some ⟨g, 0, none⟩) D.L.length cap) a mo D) 63 (0, 0)) := (b0.block u ul).trans h.head
      rw [cell_of_row _ _ _ _ _ _ (heap_set _ _ _ _ _ _ _ hh)]
      rfl
    · have hne : g3 ≠ u := by omega
      have hr3 : (w3.setCell ⟨u, 0, none⟩ (.slice (some ⟨g3, 0, none⟩) D.L.length cap3)).drew.ownsRow 0 65 3 (.slice (some ⟨g3, 0, none⟩) D.L.length cap3) D.L.length (rowF D.L) :=
        orow_same hr fun b hb => Below.heap_setCell _ _ _ _ (by have := hx b hb; simp; omega)
      obtain ⟨X, s1, s2, s3, s4, s5, s6, s7⟩ := row_store hr3 hlt q
      refine ⟨X, s1, .slice (some ⟨g3, 0, none⟩) D.L.length cap3, a, mo, ⟨?_, by simpa using s2, h.arm, h.a0, h.a1, h.m1, ok⟩, ?_⟩
      · rw [s3 u hne.symm]
        show (w3.setCell ⟨u, 0, none⟩ (.slice (some ⟨g3, 0, none⟩) D.L.length cap3)).heap[u]? = _
        have hh : w3.heap[u]? = some (.cells (refV (.slice (some ⟨g, 0, none⟩) D.L.length cap) a mo D) 63 (0, 0)) := (b0.block u ul).trans h.head
        rw [heap_set _ _ _ _ _ _ _ hh]
        rfl
      · refine ⟨s5.trans b0.os, s6.trans b0.tape, s7.trans b0.output, by rw [s4]; simpa using b0.size, fun b hb' hz => ?_, fun b hz => ?_⟩
        · rw [s3 b (by omega)]
          exact (Below.heap_setCell _ _ _ _ fun e => hz (.inl e)).trans (b0.block b hb')
        · rcases hz with rfl | hz
          · exact .inl (.inl rfl)
          · have : g3 = b := by simpa [Value.ownBlock] using hz
            exact .inr (by omega)
  have NH := Lib.hid NEXT
  clear NEXT CE KP h1 h hB ok ed hi hq
  generalize hB0 : w.heap.size = B0 at *
  rw [sz1] at hown0
  have hx0 : ∀ b, Value.ownBlock (.slice (some ⟨B0 + 1, 0, none⟩) 0 0) = some b → w1.heap.size ≤ b := by
    intro b hb
    have : B0 + 1 = b := by simpa [Value.ownBlock] using hb
    omega
  go_enter Tryz.func46, Tryz.ntmps46
  go_upto_region 2 with (first | (at_builtin; refine wpl_appA w1.heap.size (l := []) (news := D.L) hown0 hx0 bw.size ⟨g, 0, none⟩ D.L.length cap rfl C1 (by simp; omega) rfl _ _ rfl rfl rfl ?_; intro o3 cap3 w3 hown3 hx3 hb3; obtain ⟨c3, z3⟩ := CEH.out w3 (bw.trans hb3)))
  simp only [List.nil_append] at hown3 hx3
  obtain ⟨g3, rfl, LA, cc, X, ST, PO⟩ := NH.out w3 o3 cap3 (bw.trans hb3) hown3 hx3
  have PH := Lib.hid PO
  have l1 : (i : Int) < (D.L.length : Int) := by omega
  clear NH PO hown3 hx3 hb3 c3 z3 CEH hown0 hx0 C1 cA
  generalize World.setCell _ _ _ = wA at LA cc ST ⊢
  refine wp_region_still_tail 7 (by kernel_rfl) (by kernel_rfl) ?_
  simp only [List.take_succ_cons, List.take_zero, List.drop_succ_cons, List.drop_zero]
  still_step
  still_step
  still_step
  still_step
  still_step
  refine wps_loadA LA rfl rfl rfl ?_
  still_step
  refine wpStill_nil ?_
  go_wp2_with (first | refine wpl_store ST rfl rfl rfl rfl rfl ?_)
  exact bodyPost_end (v := .tuple #[]) (by simp [results, Tryz.results46, go_sem]) rfl ⟨rfl, PH.out⟩
end
end Go.Proofs.YtdmgobffhpgjlaaGreat.Pk
