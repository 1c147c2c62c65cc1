/-
  The document's Flip.
-/
import Derived.Test.YtdmgobffhpgjlaaGreatPkRefA
import Derived.Test.YtdmgobffhpgjlaaGreatPkLast

namespace Go.Proofs.YtdmgobffhpgjlaaGreat.Pk
open Go.RowKit Go.PlainAid Go.Maps
set_option linter.unusedVariables false
set_option maxRecDepth 20000
set_option linter.unusedSimpArgs false

theorem fcut_lo (b : Bs) {a : Nat} (ha : a ≤ b.length) (x : World) : (Instr.slice 9 (.string (nmB b)) none (some (.int .i64 (a : Int))) none).run Tryz.prog x = .ok (.string (nmB (b.take a))) x := by
  rw [run_slice_string_h x 9 _ Tryz.underlying9 _ _ (by omega) (by rw [nmB_size]; omega)]
  congr 2
  apply WideShapes.bytes_inj
  simp [nmB, ByteArray.data_extract, Array.toList_extract, List.extract_eq_take_drop]
theorem fcut_hi (b : Bs) {a : Nat} (ha : a ≤ b.length) (x : World) : (Instr.slice 9 (.string (nmB b)) (some (.int .i64 (a : Int))) none none).run Tryz.prog x = .ok (.string (nmB (b.drop a))) x := by
  rw [run_slice_string_l x 9 _ Tryz.underlying9 _ _ (by omega) (by rw [nmB_size]; omega)]
  congr 2
  apply WideShapes.bytes_inj
  simp only [nmB, ByteArray.data_extract, Array.toList_extract, List.extract_eq_take_drop]
  exact List.take_of_length_le (by rw [List.length_drop]; show b.length - a ≤ b.toArray.size - a; simp)
theorem fget (b : Bs) {a : Nat} (ha : a < b.length) (x : World) : (Instr.index 9 (.string (nmB b)) (.int .i64 (a : Int))).run Tryz.prog x = .ok (.int .u8 (b[a].toNat : Int)) x := by
  have hs := nmB_size b
  rw [run_index_string x 9 _ _ _ Tryz.underlying9, dif_pos (by omega)]
  rfl
theorem conv_one (wd : World) (c b : UInt8) : (convert 87 9 (.slice (some ⟨wd.heap.size, 0, none⟩) 1 1)).run Tryz.prog (wd.alloc (.cells #[.int .u8 (bits .xor .u8 (c.toNat : Int) (b.toNat : Int))] 5)) = .ok (.string (nmB [c ^^^ b])) (wd.alloc (.cells #[.int .u8 (bits .xor .u8 (c.toNat : Int) (b.toNat : Int))] 5)) := by
  have hn := heap_alloc_new wd (.cells #[.int .u8 (bits .xor .u8 (c.toNat : Int) (b.toNat : Int))] 5)
  have := run_convert_bytes_back (wd.alloc (.cells #[.int .u8 (bits .xor .u8 (c.toNat : Int) (b.toNat : Int))] 5)) 87 9 5 ⟨wd.heap.size, 0, none⟩ 1 [c ^^^ b] Tryz.underlying87 Tryz.underlying5 Tryz.underlying9 (P := Tryz.prog) fun j hj => by
    obtain rfl : j = 0 := by simpa using hj
    rw [add_addr, Nat.zero_add, cell_of_row _ _ _ _ _ _ hn]
    rw [xor_bv]
    rfl
  exact this
theorem set_cut (b : Bs) {a : Nat} (ha : a < b.length) (c : UInt8) : b.take a ++ [c] ++ b.drop (a + 1) = b.set a c := by
  rw [List.set_eq_take_append_cons_drop, if_pos ha]
  simp
section
variable {w w' : World} {u : Nat} {v : Value} {a mo : Int} {D : Dk}
set_option maxRecDepth 100000 in
set_option maxHeartbeats 4000000 in
theorem rflip_any (h : RefAt w u v a mo D) {s : ByteArray} (pos : Int) (hp : pos ≤ 9223372036854775807) (b : UInt8) :
    Calls Tryz.prog 18 #[.pointer (some ⟨u, 0, none⟩), .string s, .int .i64 pos, .int .u8 (b.toNat : Int)] w fun e w' => e = .returned (.bool (D.flip (kl s) pos b).1) ∧ RPost w w' u v (D.flip (kl s) pos b).2 := by
  have PHH := Lib.hid (show RPost w w u v D from ⟨v, a, mo, h, Goes.refl _ _⟩)
  have PL := place_any h s
  unfold Dk.flip
  cases hg : getF (kl s) D.L with
  | none =>
    simp only
    clear h
    go_enter Tryz.func18, Tryz.ntmps18
    go_wp2_with fail
    refine PL.mono ?_
    rintro e w' ⟨i, rfl, PI, rfl⟩
    clear PL
    rcases PI with ⟨rfl, e⟩ | ⟨n, f', rfl, p1, p2, p3⟩
    case inr => rw [hg] at p3; cases p3
    go_wp2
    go_ret
    exact ⟨rfl, PHH.out⟩
  | some f =>
    simp only
    by_cases b3 : b = 0
    · subst b3
      rw [if_pos (.inr (.inr rfl))]
      go_enter Tryz.func18, Tryz.ntmps18
      go_wp2_with fail
      refine PL.mono ?_
      rintro e w' ⟨i, rfl, PI, rfl⟩
      clear PL
      rcases PI with ⟨_, e⟩ | ⟨n, f', rfl, p1, p2, p3⟩
      · rw [hg] at e; cases e
      obtain rfl : f = f' := by rw [hg] at p3; injection p3
      have n1 : ¬ (n : Int) < 0 := by omega
      have nl := (List.getElem?_eq_some_iff.1 p1).1
      have n2 : (n : Int) < (D.L.length : Int) := by omega
      obtain ⟨g, cap, ev, cells, LA⟩ := h.file p1
      have cS := cells 1 _ rfl
      have c9 := h.cell 0
      subst ev
      simp [refV] at c9
      have sz := nmB_size f.bs
      have fz := mem_used (List.mem_of_getElem? p1)
      clear h cells LA
      go_wp2
      go_ret
      exact ⟨rfl, PHH.out⟩
    have d3 : ((b.toNat : Int) == 0) = false := by
      rw [beq_eq_false_iff_ne]
      intro e
      apply b3
      apply UInt8.toNat_inj.1
      simp
      omega
    by_cases b1 : pos < 0
    · rw [if_pos (.inl b1)]
      go_enter Tryz.func18, Tryz.ntmps18
      go_wp2_with fail
      refine PL.mono ?_
      rintro e w' ⟨i, rfl, PI, rfl⟩
      clear PL
      rcases PI with ⟨_, e⟩ | ⟨n, f', rfl, p1, p2, p3⟩
      · rw [hg] at e; cases e
      obtain rfl : f = f' := by rw [hg] at p3; injection p3
      have n1 : ¬ (n : Int) < 0 := by omega
      have nl := (List.getElem?_eq_some_iff.1 p1).1
      have n2 : (n : Int) < (D.L.length : Int) := by omega
      obtain ⟨g, cap, ev, cells, LA⟩ := h.file p1
      have cS := cells 1 _ rfl
      have c9 := h.cell 0
      subst ev
      simp [refV] at c9
      have sz := nmB_size f.bs
      have fz := mem_used (List.mem_of_getElem? p1)
      clear h cells LA
      go_wp2
      go_ret
      exact ⟨rfl, PHH.out⟩
    by_cases b2 : (f.bs.length : Int) ≤ pos
    · rw [if_pos (.inr (.inl b2))]
      go_enter Tryz.func18, Tryz.ntmps18
      go_wp2_with fail
      refine PL.mono ?_
      rintro e w' ⟨i, rfl, PI, rfl⟩
      clear PL
      rcases PI with ⟨_, e⟩ | ⟨n, f', rfl, p1, p2, p3⟩
      · rw [hg] at e; cases e
      obtain rfl : f = f' := by rw [hg] at p3; injection p3
      have n1 : ¬ (n : Int) < 0 := by omega
      have nl := (List.getElem?_eq_some_iff.1 p1).1
      have n2 : (n : Int) < (D.L.length : Int) := by omega
      obtain ⟨g, cap, ev, cells, LA⟩ := h.file p1
      have cS := cells 1 _ rfl
      have c9 := h.cell 0
      subst ev
      simp [refV] at c9
      have sz := nmB_size f.bs
      have fz := mem_used (List.mem_of_getElem? p1)
      clear h cells LA
      go_wp2
      go_ret
      exact ⟨rfl, PHH.out⟩
    rw [if_neg (by
      rintro (c | c | c)
      · exact b1 c
      · exact b2 c
      · exact b3 c)]
    obtain ⟨q, rfl⟩ : ∃ q : Nat, pos = (q : Int) := ⟨pos.toNat, by omega⟩
    have hq : q < f.bs.length := by omega
    have eg : f.bs.getD q 0 = f.bs[q] := by simp [List.getD, hq]
    rw [Int.toNat_natCast, eg, ← set_cut f.bs hq]
    clear PHH
    go_enter Tryz.func18, Tryz.ntmps18
    go_wp2_with fail
    refine PL.mono ?_
    rintro e w' ⟨i, rfl, PI, rfl⟩
    clear PL
    rcases PI with ⟨_, e⟩ | ⟨n, f', rfl, p1, p2, p3⟩
    · rw [hg] at e; cases e
    obtain rfl : f = f' := by rw [hg] at p3; injection p3
    have n1 : ¬ (n : Int) < 0 := by omega
    have nl := (List.getElem?_eq_some_iff.1 p1).1
    have n2 : (n : Int) < (D.L.length : Int) := by omega
    obtain ⟨g, cap, ev, cells, LA⟩ := h.file p1
    have cS := cells 1 _ rfl
    have c9 := h.cell 0
    subst ev
    simp [refV] at c9
    have sz := nmB_size f.bs
    have fz := mem_used (List.mem_of_getElem? p1)
    have CU1 := fcut_lo f.bs (a := q) (by omega)
    have CU2 : ∀ x, (Instr.slice 9 (.string (nmB f.bs)) (some (.int .i64 ((q : Int) + 1))) none none).run Tryz.prog x = .ok (.string (nmB (f.bs.drop (q + 1)))) x := fcut_hi f.bs (a := q + 1) (by omega)
    have CI := fget f.bs hq
    obtain ⟨Y, S, hY, bY⟩ := box_fi w f
    have hz := zfi
    have hlt := h.lt (.inl rfl)
    have RY : RefAt Y u (.slice (some ⟨g, 0, none⟩) D.L.length cap) a mo D := h.kept fun b z => bY.block b (h.lt z)
    have GY : Goes w Y (rzone u (.slice (some ⟨g, 0, none⟩) D.L.length cap)) (rzone u (.slice (some ⟨g, 0, none⟩) D.L.length cap)) := Goes.of_below bY _
    have bl : f.bs.length ≤ 4194304 := Nat.le_trans fz (by have := h.ok.used; have := h.ok.room1; omega)
    have w1 : IntKind.i64.wrap ((q : Int) + 1) = (q : Int) + 1 := IntWalk.i64_in _ (by omega)
    have n3 : ¬ (q : Int) < 0 := by omega
    clear cells b3 b1 hp
    rw [p2] at LA S hY
    generalize hcc : f.bs[q] = cc at *
    go_upto_region 5 with (first | refine wpl_loadA LA rfl rfl rfl ?_ | refine wpl_store S rfl rfl rfl rfl rfl ?_)
    refine held_but_last 20 (S := fun x => RefAt x u (.slice (some ⟨g, 0, none⟩) D.L.length cap) a mo D ∧ Goes w x (rzone u (.slice (some ⟨g, 0, none⟩) D.L.length cap)) (rzone u (.slice (some ⟨g, 0, none⟩) D.L.length cap)) ∧ x.heap[w.heap.size]? = some (.cells #[.string (nmB (kl s)), .string (nmB f.bs), .int .i64 (f.sf : Int)] 65 (0, 0))) (by kernel_rfl) (by kernel_rfl) ?_
    change wpAnyH _ _ _ _ _ _ _ _ Y.drew
    have j0 : RefAt Y.drew u (.slice (some ⟨g, 0, none⟩) D.L.length cap) a mo D ∧ Goes w Y.drew (rzone u (.slice (some ⟨g, 0, none⟩) D.L.length cap)) (rzone u (.slice (some ⟨g, 0, none⟩) D.L.length cap)) ∧ Y.drew.heap[w.heap.size]? = some (.cells #[.string (nmB (kl s)), .string (nmB f.bs), .int .i64 (f.sf : Int)] 65 (0, 0)) := ⟨RY.drewN 1, GY.trans (Goes.drewN Y 1 _), hY⟩
    have CB : ∀ x, (RefAt x u (.slice (some ⟨g, 0, none⟩) D.L.length cap) a mo D ∧ Goes w x (rzone u (.slice (some ⟨g, 0, none⟩) D.L.length cap)) (rzone u (.slice (some ⟨g, 0, none⟩) D.L.length cap)) ∧ x.heap[w.heap.size]? = some (.cells #[.string (nmB (kl s)), .string (nmB f.bs), .int .i64 (f.sf : Int)] 65 (0, 0))) → x.cell? ⟨w.heap.size, 1, none⟩ = some (.string (nmB f.bs)) := fun x j => by rw [cell_of_row _ _ _ _ _ _ j.2.2]; rfl
    have CBH := Lib.hid CB
    have JA : ∀ x o, (RefAt x u (.slice (some ⟨g, 0, none⟩) D.L.length cap) a mo D ∧ Goes w x (rzone u (.slice (some ⟨g, 0, none⟩) D.L.length cap)) (rzone u (.slice (some ⟨g, 0, none⟩) D.L.length cap)) ∧ x.heap[w.heap.size]? = some (.cells #[.string (nmB (kl s)), .string (nmB f.bs), .int .i64 (f.sf : Int)] 65 (0, 0))) → (RefAt (x.alloc o) u (.slice (some ⟨g, 0, none⟩) D.L.length cap) a mo D ∧ Goes w (x.alloc o) (rzone u (.slice (some ⟨g, 0, none⟩) D.L.length cap)) (rzone u (.slice (some ⟨g, 0, none⟩) D.L.length cap)) ∧ (x.alloc o).heap[w.heap.size]? = some (.cells #[.string (nmB (kl s)), .string (nmB f.bs), .int .i64 (f.sf : Int)] 65 (0, 0))) := fun x o j => ⟨j.1.alloc o, j.2.1.trans (Goes.alloc x o _), (Below.heap_alloc _ _ _ (in_heap j.2.2)).trans j.2.2⟩
    have JA := Lib.hid JA
    have NB := Lib.hid (show ¬ rzone u (.slice (some ⟨g, 0, none⟩) D.L.length cap) w.heap.size from fun z => by have := h.lt z; omega)
    have OKH := Lib.hid (h.ok.upd (g := ⟨f.nm, f.bs.take q ++ [cc ^^^ b] ++ f.bs.drop (q + 1), f.sf⟩) (List.mem_of_getElem? p1) rfl (by have := h.ok.safe f (List.mem_of_getElem? p1); simp; omega) (by have := h.ok.used; simp; omega))
    have z1 := nmB_size (f.bs.take q)
    have z2 := nmB_size [cc ^^^ b]
    have z3 := nmB_size (f.bs.drop (q + 1))
    rw [List.length_take, Nat.min_eq_left (by omega)] at z1
    rw [List.length_drop] at z3
    rw [List.length_singleton] at z2
    have q4 : ¬ (9223372036854775807 : Int) < (((nmB (f.bs.take q)).size + (nmB [cc ^^^ b]).size : Nat) : Int) := by omega
    have q5 : ¬ (9223372036854775807 : Int) < (((nmB (f.bs.take q) ++ nmB [cc ^^^ b]).size + (nmB (f.bs.drop (q + 1))).size : Nat) : Int) := by rw [ByteArray.size_append]; omega
    clear RY GY hY CB h
    generalize Y.drew = wd at j0 ⊢
    refine held_take 0 (.pointer (some ⟨w.heap.size, 1, none⟩)) rfl (by kernel_rfl) (by kernel_rfl) (by kernel_rfl) (fun _ _ _ h => h) (Or.inl ⟨by rfl, fun x j => by go_simp⟩) j0 (fun K hK => ?_)
    go_simp
    refine hK _ _ ?_
    clear hK K
    refine held_take 1 (.string (nmB f.bs)) rfl (by kernel_rfl) (by kernel_rfl) (by kernel_rfl) (fun _ _ _ h => h) (Or.inl ⟨by rfl, fun x j => by have c0 := CBH.out x j; go_simp⟩) j0 (fun K hK => ?_)
    go_simp
    refine hK _ _ ?_
    clear hK K
    refine held_take 2 (.int .i64 (q : Int)) rfl (by kernel_rfl) (by kernel_rfl) (by kernel_rfl) (fun _ _ _ h => h) (Or.inl ⟨by rfl, fun x j => by go_simp⟩) j0 (fun K hK => ?_)
    go_simp
    refine hK _ _ ?_
    clear hK K
    refine held_take 3 (.string (nmB (f.bs.take q))) rfl (by kernel_rfl) (by kernel_rfl) (by kernel_rfl) (fun _ _ _ h => h) (Or.inl ⟨by rfl, fun x j => by have c0 := CU1 x; go_simp⟩) j0 (fun K hK => ?_)
    go_simp
    refine hK _ _ ?_
    clear hK K
    refine held_take 4 (.pointer (some ⟨w.heap.size, 1, none⟩)) rfl (by kernel_rfl) (by kernel_rfl) (by kernel_rfl) (fun _ _ _ h => h) (Or.inl ⟨by rfl, fun x j => by go_simp⟩) j0 (fun K hK => ?_)
    go_simp
    refine hK _ _ ?_
    clear hK K
    refine held_take 5 (.string (nmB f.bs)) rfl (by kernel_rfl) (by kernel_rfl) (by kernel_rfl) (fun _ _ _ h => h) (Or.inl ⟨by rfl, fun x j => by have c0 := CBH.out x j; go_simp⟩) j0 (fun K hK => ?_)
    go_simp
    refine hK _ _ ?_
    clear hK K
    refine held_take 6 (.int .i64 (q : Int)) rfl (by kernel_rfl) (by kernel_rfl) (by kernel_rfl) (fun _ _ _ h => h) (Or.inl ⟨by rfl, fun x j => by go_simp⟩) j0 (fun K hK => ?_)
    go_simp
    refine hK _ _ ?_
    clear hK K
    refine held_take 7 (.int .u8 (cc.toNat : Int)) rfl (by kernel_rfl) (by kernel_rfl) (by kernel_rfl) (fun _ _ _ h => h) (Or.inl ⟨by rfl, fun x j => by have c0 := CI x; go_simp⟩) j0 (fun K hK => ?_)
    go_simp
    refine hK _ _ ?_
    clear hK K
    refine held_take 8 (.int .u8 (b.toNat : Int)) rfl (by kernel_rfl) (by kernel_rfl) (by kernel_rfl) (fun _ _ _ h => h) (Or.inl ⟨by rfl, fun x j => by go_simp⟩) j0 (fun K hK => ?_)
    go_simp
    refine hK _ _ ?_
    clear hK K
    refine held_take 9 (.int .u8 (bits .xor .u8 (cc.toNat : Int) (b.toNat : Int))) rfl (by kernel_rfl) (by kernel_rfl) (by kernel_rfl) (fun _ _ _ h => h) (Or.inl ⟨by rfl, fun x j => by go_simp⟩) j0 (fun K hK => ?_)
    go_simp
    refine hK _ _ ?_
    clear hK K
    refine held_take 13 (.pointer (some ⟨w.heap.size, 1, none⟩)) rfl (by kernel_rfl) (by kernel_rfl) (by kernel_rfl) (fun _ _ _ h => h) (Or.inl ⟨by rfl, fun x j => by go_simp⟩) j0 (fun K hK => ?_)
    go_simp
    refine hK _ _ ?_
    clear hK K
    refine held_take 14 (.string (nmB f.bs)) rfl (by kernel_rfl) (by kernel_rfl) (by kernel_rfl) (fun _ _ _ h => h) (Or.inl ⟨by rfl, fun x j => by have c0 := CBH.out x j; go_simp⟩) j0 (fun K hK => ?_)
    go_simp
    refine hK _ _ ?_
    clear hK K
    refine held_take 15 (.int .i64 (q : Int)) rfl (by kernel_rfl) (by kernel_rfl) (by kernel_rfl) (fun _ _ _ h => h) (Or.inl ⟨by rfl, fun x j => by go_simp⟩) j0 (fun K hK => ?_)
    go_simp
    refine hK _ _ ?_
    clear hK K
    refine held_take 16 (.int .i64 ((q : Int) + 1)) rfl (by kernel_rfl) (by kernel_rfl) (by kernel_rfl) (fun _ _ _ h => h) (Or.inl ⟨by rfl, fun x j => by go_simp⟩) j0 (fun K hK => ?_)
    go_simp
    refine hK _ _ ?_
    clear hK K
    refine held_take 17 (.string (nmB (f.bs.drop (q + 1)))) rfl (by kernel_rfl) (by kernel_rfl) (by kernel_rfl) (fun _ _ _ h => h) (Or.inl ⟨by rfl, fun x j => by have c0 := CU2 x; go_simp⟩) j0 (fun K hK => ?_)
    go_simp
    refine hK _ _ ?_
    clear hK K
    refine held_one 10 (by kernel_rfl) (fun K hK => wpOp_in rfl rfl ?_)
    go_simp
    have j1 := JA.out wd (.cells #[.int .u8 (bits .xor .u8 (cc.toNat : Int) (b.toNat : Int))] 5) j0
    have CV := conv_one wd cc b
    refine hK _ _ j1 ?_
    clear hK K j0
    generalize wd.alloc (.cells #[.int .u8 (bits .xor .u8 (cc.toNat : Int) (b.toNat : Int))] 5) = wf at *
    refine held_one 11 (by kernel_rfl) (fun K hK => wpOp_in rfl rfl ?_)
    go_simp
    refine hK _ _ j1 ?_
    clear hK K CV
    refine held_take 12 (.string (nmB (f.bs.take q) ++ nmB [cc ^^^ b])) rfl (by kernel_rfl) (by kernel_rfl) (by kernel_rfl) (fun _ _ _ h => h) (Or.inl ⟨by rfl, fun x j => by go_simp; omega⟩) j1 (fun K hK => ?_)
    go_simp
    refine hK _ _ ?_
    clear hK K
    refine held_take 18 (.string (nmB (f.bs.take q) ++ nmB [cc ^^^ b] ++ nmB (f.bs.drop (q + 1)))) rfl (by kernel_rfl) (by kernel_rfl) (by kernel_rfl) (fun _ _ _ h => h) (Or.inl ⟨by rfl, fun x j => by go_simp; omega⟩) j1 (fun K hK => ?_)
    go_simp
    refine hK _ _ ?_
    clear hK K
    refine held_take 19 (.pointer (some ⟨w.heap.size, 1, none⟩)) rfl (by kernel_rfl) (by kernel_rfl) (by kernel_rfl) (fun _ _ _ h => h) (Or.inl ⟨by rfl, fun x j => by go_simp⟩) j1 (fun K hK => ?_)
    go_simp
    refine hK _ _ ?_
    clear hK K
    refine wpAnyH_done (by kernel_rfl) ?_ _
    refine last_turn rfl rfl ?_
    have b1 := CBH.out wf j1
    have f1 := frozen_of_row wf _ 1 _ _ j1.2.2
    have hY2 := heap_set wf w.heap.size 1 (.string (nmB (f.bs.take q) ++ nmB [cc ^^^ b] ++ nmB (f.bs.drop (q + 1)))) _ _ _ j1.2.2
    have LB : Loads Tryz.prog (wf.setCell ⟨w.heap.size, 1, none⟩ (.string (nmB (f.bs.take q) ++ nmB [cc ^^^ b] ++ nmB (f.bs.drop (q + 1))))) 65 w.heap.size 0 #[.string (nmB (kl s)), .string (nmB (f.bs.take q) ++ nmB [cc ^^^ b] ++ nmB (f.bs.drop (q + 1))), .int .i64 (f.sf : Int)] := fi_loads (by simpa using hY2)
    have R2 : RefAt (wf.setCell ⟨w.heap.size, 1, none⟩ (.string (nmB (f.bs.take q) ++ nmB [cc ^^^ b] ++ nmB (f.bs.drop (q + 1))))) u (.slice (some ⟨g, 0, none⟩) D.L.length cap) a mo D := j1.1.kept fun b z => Below.heap_setCell _ _ _ _ (by intro e; simp at e; subst e; exact NB.out z)
    have G2 : Goes w (wf.setCell ⟨w.heap.size, 1, none⟩ (.string (nmB (f.bs.take q) ++ nmB [cc ^^^ b] ++ nmB (f.bs.drop (q + 1))))) (rzone u (.slice (some ⟨g, 0, none⟩) D.L.length cap)) (rzone u (.slice (some ⟨g, 0, none⟩) D.L.length cap)) := j1.2.1.box (Nat.le_refl _)
    have TU := rturn_any R2 p1 ⟨f.nm, f.bs.take q ++ [cc ^^^ b] ++ f.bs.drop (q + 1), f.sf⟩ rfl OKH.out
    rw [p2] at TU
    have ee : nmB (f.bs.take q) ++ nmB [cc ^^^ b] ++ nmB (f.bs.drop (q + 1)) = nmB (f.bs.take q ++ [cc ^^^ b] ++ f.bs.drop (q + 1)) := by rw [nmB_app, kl_nmB, nmB_app, kl_nmB]
    have GH := Lib.hid G2
    rw [ee] at LB TU GH
    have EE := Lib.hid ee
    clear R2 G2 hY2 j1 ee CU1 CU2
    go_simp
    rw [EE.out]
    clear EE
    generalize hfb : f.bs.take q ++ [cc ^^^ b] ++ f.bs.drop (q + 1) = fb at *
    generalize wf.setCell ⟨w.heap.size, 1, none⟩ (.string (nmB fb)) = wz at *
    clear b1 f1 q4 q5 CBH JA
    go_wp2_with (first | refine wpl_load LB rfl rfl rfl ?_)
    refine TU.mono ?_
    rintro e w2 ⟨rfl, P2⟩
    have PH := Lib.hid (P2.next GH.out)
    clear TU P2 LB
    go_wp2
    go_ret
    exact ⟨rfl, by rw [hcc, hfb]; exact PH.out⟩
end
end Go.Proofs.YtdmgobffhpgjlaaGreat.Pk
