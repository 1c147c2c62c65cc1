/-
  The document's Append.
-/
import Derived.Test.YtdmgobffhpgjlaaGreatPkRef8
namespace Go.Proofs.YtdmgobffhpgjlaaGreat.Pk
open Go.RowKit Go.PlainAid Go.Maps
set_option linter.unusedVariables false
set_option maxRecDepth 20000
set_option linter.unusedSimpArgs false

section
variable {w w' : World} {u : Nat} {v : Value} {a mo : Int} {D : Dk}
set_option maxRecDepth 100000 in
set_option maxHeartbeats 2000000 in
theorem rappend_any (h : RefAt w u v a mo D) (pw : D.Pw) (ho : D.ops ≤ 1099511627776) {s t : ByteArray} (hs : s.size ≤ 9223372036854775807) (ht : t.size ≤ 1099511627) :
    Calls Tryz.prog 20 #[.pointer (some ⟨u, 0, none⟩), .string s, .string t] w fun e w' => e = .returned (.int .i64 (D.append (kl s) (kl t)).1) ∧ RPost w w' u v (D.append (kl s) (kl t)).2 := by
  have B := rbegin_any h pw ho s s hs hs
  rw [Bool.and_self] at B
  clear h
  by_cases hr : (D.beg (isName (kl s))).1 ≠ 0
  · rw [append_r hr]
    clear pw
    generalize D.beg (isName (kl s)) = r at *
    obtain ⟨r1, r2⟩ := r
    simp only at hr B ⊢
    go_enter Tryz.func20, Tryz.ntmps20
    go_wp2_with fail
    refine B.mono ?_
    rintro e w1 ⟨rfl, P1⟩
    have PH := Lib.hid P1
    clear B P1
    go_wp2
    go_ret
    exact ⟨rfl, PH.out⟩
  have hr : (D.beg (isName (kl s))).1 = 0 := by simpa using hr
  have hgd := beg_good hr
  rw [hr] at B
  cases hg : getF (kl s) (D.beg (isName (kl s))).2.L with
  | none =>
    rw [append_n hr hg]
    generalize (D.beg (isName (kl s))).2 = r at *
    go_enter Tryz.func20, Tryz.ntmps20
    go_wp2_with fail
    refine B.mono ?_
    rintro e w1 ⟨rfl, v1, a1, m1, R1, G1⟩
    clear B
    have PL := place_any R1 s
    go_wp2_with fail
    refine PL.mono ?_
    rintro e w' ⟨i, rfl, PI, rfl⟩
    clear PL
    rcases PI with ⟨rfl, e⟩ | ⟨n, f', rfl, p1, p2, p3⟩
    case inr => rw [hg] at p3; cases p3
    have PH : RPost w w1 u v r := ⟨v1, a1, m1, R1, G1⟩
    have PHH := Lib.hid PH
    clear R1 G1 PH
    go_wp2
    go_ret
    exact ⟨rfl, PHH.out⟩
  | some f =>
    have hkt := kl_len t
    by_cases hc : (D.beg (isName (kl s))).2.room < (usedF (D.beg (isName (kl s))).2.L : Int) + ((kl t).length : Int)
    · rw [append_f hr hg hc]
      generalize (D.beg (isName (kl s))).2 = r at *
      have hc2 : r.room - (usedF r.L : Int) < (t.size : Int) := by omega
      clear hkt hc
      go_enter Tryz.func20, Tryz.ntmps20
      go_wp2_with fail
      refine B.mono ?_
      rintro e w1 ⟨rfl, v1, a1, m1, R1, G1⟩
      clear B
      have PL := place_any R1 s
      go_wp2_with fail
      refine PL.mono ?_
      rintro e w' ⟨i, rfl, PI, rfl⟩
      clear PL
      rcases PI with ⟨_, e⟩ | ⟨n, f', rfl, p1, p2, p3⟩
      · rw [hg] at e; cases e
      obtain rfl : f = f' := by rw [hg] at p3; injection p3
      have n1 : ¬ (n : Int) < 0 := by omega
      have nl := (List.getElem?_eq_some_iff.1 p1).1
      have n2 : (n : Int) < (r.L.length : Int) := by omega
      have US := Lib.hid fun x (h : RefAt x u v1 a1 m1 r) => rused_any h
      have RM : ∀ x, RefAt x u v1 a1 m1 r → x.cell? ⟨u, 1, none⟩ = some (.int .i64 r.room) := fun x h => by
        have c := h.cell 1
        simpa [refV] using c
      have RMH := Lib.hid RM
      have ro0 := R1.ok.room0
      have ro1 := R1.ok.room1
      have uu := R1.ok.used
      have q1 : IntKind.i64.wrap (r.room - (usedF r.L : Int)) = r.room - (usedF r.L : Int) := IntWalk.i64_in _ (by omega)
      clear RM
      go_upto_region 7 with (fail)
      refine wp_region_held (S := fun x => RefAt x u v1 a1 m1 r ∧ Goes w x (rzone u v) (rzone u v1)) (by kernel_rfl) ?_
      change wpAnyH _ _ _ _ _ _ _ _ w1.drew
      have j0 : RefAt w1.drew u v1 a1 m1 r ∧ Goes w w1.drew (rzone u v) (rzone u v1) := ⟨R1.drewN 1, G1.trans (Goes.drewN w1 1 _)⟩
      clear R1 G1
      generalize w1.drew = wd at j0 ⊢
      refine held_take 0 (.string t) rfl (by kernel_rfl) (by kernel_rfl) (by kernel_rfl) (fun _ _ _ h => h) (Or.inl ⟨by rfl, fun x j => by go_simp⟩) j0 (fun K hK => ?_)
      go_simp
      refine hK _ _ ?_
      clear hK K
      refine held_take 1 (.int .i64 (t.size : Int)) rfl (by kernel_rfl) (by kernel_rfl) (by kernel_rfl) (fun _ _ _ h => h) (Or.inl ⟨by rfl, fun x j => by go_simp⟩) j0 (fun K hK => ?_)
      go_simp
      refine hK _ _ ?_
      clear hK K
      refine held_take 2 (.pointer (some ⟨u, 0, none⟩)) rfl (by kernel_rfl) (by kernel_rfl) (by kernel_rfl) (fun _ _ _ h => h) (Or.inl ⟨by rfl, fun x j => by go_simp⟩) j0 (fun K hK => ?_)
      go_simp
      refine hK _ _ ?_
      clear hK K
      refine held_take 3 (.pointer (some ⟨u, 0, none⟩)) rfl (by kernel_rfl) (by kernel_rfl) (by kernel_rfl) (fun _ _ _ h => h) (Or.inl ⟨by rfl, fun x j => by go_simp⟩) j0 (fun K hK => ?_)
      go_simp
      refine hK _ _ ?_
      clear hK K
      refine held_take 4 (.pointer (some ⟨u, 1, none⟩)) rfl (by kernel_rfl) (by kernel_rfl) (by kernel_rfl) (fun _ _ _ h => h) (Or.inl ⟨by rfl, fun x j => by go_simp⟩) j0 (fun K hK => ?_)
      go_simp
      refine hK _ _ ?_
      clear hK K
      refine held_take 5 (.int .i64 r.room) rfl (by kernel_rfl) (by kernel_rfl) (by kernel_rfl) (fun _ _ _ h => h) (Or.inl ⟨by rfl, fun x j => by have c0 := RMH.out x j.1; go_simp⟩) j0 (fun K hK => ?_)
      go_simp
      refine hK _ _ ?_
      clear hK K
      refine held_take 6 (.pointer (some ⟨u, 0, none⟩)) rfl (by kernel_rfl) (by kernel_rfl) (by kernel_rfl) (fun _ _ _ h => h) (Or.inl ⟨by rfl, fun x j => by go_simp⟩) j0 (fun K hK => ?_)
      go_simp
      refine hK _ _ ?_
      clear hK K
      refine held_one 7 (by kernel_rfl) (fun K hK => wpOp_in rfl rfl ?_)
      go_simp
      refine (US.out _ j0.1).mono ?_
      rintro e w' ⟨rfl, rfl⟩
      refine hK _ _ j0 ?_
      clear hK K
      refine held_take 8 (.int .i64 (r.room - (usedF r.L : Int))) rfl (by kernel_rfl) (by kernel_rfl) (by kernel_rfl) (fun _ _ _ h => h) (Or.inl ⟨by rfl, fun x j => by go_simp⟩) j0 (fun K hK => ?_)
      go_simp
      refine hK _ _ ?_
      clear hK K
      refine held_take 9 (.bool true) rfl (by kernel_rfl) (by kernel_rfl) (by kernel_rfl) (fun _ _ _ h => h) (Or.inl ⟨by rfl, fun x j => by go_simp⟩) j0 (fun K hK => ?_)
      go_simp
      refine hK _ _ ?_
      clear hK K
      refine wpAnyH_done (by kernel_rfl) ?_ _
      have PHH := Lib.hid (show RPost w wd u v r from ⟨v1, a1, m1, j0.1, j0.2⟩)
      clear j0
      go_wp2
      go_ret
      exact ⟨rfl, PHH.out⟩
    · rw [append_o hr hg hc]
      generalize (D.beg (isName (kl s))).2 = r at *
      have hc2 : ¬ r.room - (usedF r.L : Int) < (t.size : Int) := by omega
      go_enter Tryz.func20, Tryz.ntmps20
      go_wp2_with fail
      refine B.mono ?_
      rintro e w1 ⟨rfl, v1, a1, m1, R1, G1⟩
      clear B
      have PL := place_any R1 s
      go_wp2_with fail
      refine PL.mono ?_
      rintro e w' ⟨i, rfl, PI, rfl⟩
      clear PL
      rcases PI with ⟨_, e⟩ | ⟨n, f', rfl, p1, p2, p3⟩
      · rw [hg] at e; cases e
      obtain rfl : f = f' := by rw [hg] at p3; injection p3
      have n1 : ¬ (n : Int) < 0 := by omega
      have nl := (List.getElem?_eq_some_iff.1 p1).1
      have n2 : (n : Int) < (r.L.length : Int) := by omega
      have okr := R1.ok
      have US := Lib.hid fun x (h : RefAt x u v1 a1 m1 r) => rused_any h
      have RM : ∀ x, RefAt x u v1 a1 m1 r → x.cell? ⟨u, 1, none⟩ = some (.int .i64 r.room) := fun x h => by
        have c := h.cell 1
        simpa [refV] using c
      have RMH := Lib.hid RM
      have ro0 := R1.ok.room0
      have ro1 := R1.ok.room1
      have uu := R1.ok.used
      have q1 : IntKind.i64.wrap (r.room - (usedF r.L : Int)) = r.room - (usedF r.L : Int) := IntWalk.i64_in _ (by omega)
      clear RM
      go_upto_region 7 with (fail)
      refine wp_region_held (S := fun x => RefAt x u v1 a1 m1 r ∧ Goes w x (rzone u v) (rzone u v1)) (by kernel_rfl) ?_
      change wpAnyH _ _ _ _ _ _ _ _ w1.drew
      have j0 : RefAt w1.drew u v1 a1 m1 r ∧ Goes w w1.drew (rzone u v) (rzone u v1) := ⟨R1.drewN 1, G1.trans (Goes.drewN w1 1 _)⟩
      clear R1 G1
      generalize w1.drew = wd at j0 ⊢
      refine held_take 0 (.string t) rfl (by kernel_rfl) (by kernel_rfl) (by kernel_rfl) (fun _ _ _ h => h) (Or.inl ⟨by rfl, fun x j => by go_simp⟩) j0 (fun K hK => ?_)
      go_simp
      refine hK _ _ ?_
      clear hK K
      refine held_take 1 (.int .i64 (t.size : Int)) rfl (by kernel_rfl) (by kernel_rfl) (by kernel_rfl) (fun _ _ _ h => h) (Or.inl ⟨by rfl, fun x j => by go_simp⟩) j0 (fun K hK => ?_)
      go_simp
      refine hK _ _ ?_
      clear hK K
      refine held_take 2 (.pointer (some ⟨u, 0, none⟩)) rfl (by kernel_rfl) (by kernel_rfl) (by kernel_rfl) (fun _ _ _ h => h) (Or.inl ⟨by rfl, fun x j => by go_simp⟩) j0 (fun K hK => ?_)
      go_simp
      refine hK _ _ ?_
      clear hK K
      refine held_take 3 (.pointer (some ⟨u, 0, none⟩)) rfl (by kernel_rfl) (by kernel_rfl) (by kernel_rfl) (fun _ _ _ h => h) (Or.inl ⟨by rfl, fun x j => by go_simp⟩) j0 (fun K hK => ?_)
      go_simp
      refine hK _ _ ?_
      clear hK K
      refine held_take 4 (.pointer (some ⟨u, 1, none⟩)) rfl (by kernel_rfl) (by kernel_rfl) (by kernel_rfl) (fun _ _ _ h => h) (Or.inl ⟨by rfl, fun x j => by go_simp⟩) j0 (fun K hK => ?_)
      go_simp
      refine hK _ _ ?_
      clear hK K
      refine held_take 5 (.int .i64 r.room) rfl (by kernel_rfl) (by kernel_rfl) (by kernel_rfl) (fun _ _ _ h => h) (Or.inl ⟨by rfl, fun x j => by have c0 := RMH.out x j.1; go_simp⟩) j0 (fun K hK => ?_)
      go_simp
      refine hK _ _ ?_
      clear hK K
      refine held_take 6 (.pointer (some ⟨u, 0, none⟩)) rfl (by kernel_rfl) (by kernel_rfl) (by kernel_rfl) (fun _ _ _ h => h) (Or.inl ⟨by rfl, fun x j => by go_simp⟩) j0 (fun K hK => ?_)
      go_simp
      refine hK _ _ ?_
      clear hK K
      refine held_one 7 (by kernel_rfl) (fun K hK => wpOp_in rfl rfl ?_)
      go_simp
      refine (US.out _ j0.1).mono ?_
      rintro e w' ⟨rfl, rfl⟩
      refine hK _ _ j0 ?_
      clear hK K
      refine held_take 8 (.int .i64 (r.room - (usedF r.L : Int))) rfl (by kernel_rfl) (by kernel_rfl) (by kernel_rfl) (fun _ _ _ h => h) (Or.inl ⟨by rfl, fun x j => by go_simp⟩) j0 (fun K hK => ?_)
      go_simp
      refine hK _ _ ?_
      clear hK K
      refine held_take 9 (.bool false) rfl (by kernel_rfl) (by kernel_rfl) (by kernel_rfl) (fun _ _ _ h => h) (Or.inl ⟨by rfl, fun x j => by go_simp⟩) j0 (fun K hK => ?_)
      go_simp
      refine hK _ _ ?_
      clear hK K
      refine wpAnyH_done (by kernel_rfl) ?_ _
      have R1 := j0.1
      have G1 := j0.2
      clear j0
      generalize wd = w1 at *
      obtain ⟨g, cap, ev, cells, LA⟩ := R1.file p1
      obtain ⟨Y, S, hY, bY⟩ := box_fi w1 f
      have RY : RefAt Y u v1 a1 m1 r := R1.kept fun b z => bY.block b (R1.lt z)
      have GY : Goes w Y (rzone u v) (rzone u v1) := G1.trans (Goes.of_below bY _)
      have hlt := R1.lt (.inl rfl)
      have c0 := R1.cell 0
      subst ev
      simp [refV] at c0
      have hz := zfi
      have b1 := cell_of_row Y _ 1 _ _ _ hY
      have fz := frozen_of_row Y _ 1 _ _ hY
      simp at b1
      have hY2 := heap_set Y w1.heap.size 1 (.string (nmB f.bs ++ t)) _ _ _ hY
      have LB : Loads Tryz.prog (Y.setCell ⟨w1.heap.size, 1, none⟩ (.string (nmB f.bs ++ t))) 65 w1.heap.size 0 #[.string (nmB f.nm), .string (nmB f.bs ++ t), .int .i64 (f.sf : Int)] := fi_loads (by simpa using hY2)
      have R2 : RefAt (Y.setCell ⟨w1.heap.size, 1, none⟩ (.string (nmB f.bs ++ t))) u (.slice (some ⟨g, 0, none⟩) r.L.length cap) a1 m1 r := RY.kept fun b z => Below.heap_setCell _ _ _ _ (by have := R1.lt z; simp; omega)
      have G2 : Goes w (Y.setCell ⟨w1.heap.size, 1, none⟩ (.string (nmB f.bs ++ t))) (rzone u v) (rzone u (.slice (some ⟨g, 0, none⟩) r.L.length cap)) := G1.trans ⟨bY.os, bY.tape, bY.output, by simpa using bY.size, fun b hb hz => (Below.heap_setCell _ _ _ _ (by simp; omega)).trans (bY.block b hb), fun _ h => .inl h⟩
      have fm := List.mem_of_getElem? p1
      have fsz := mem_used fm
      have TU := rturn_any R2 p1 ⟨f.nm, f.bs ++ kl t, f.sf⟩ rfl (okr.upd fm rfl (by have := okr.safe f fm; simp; omega) (by simp [hkt]; omega))
      rw [p2] at TU
      simp only [← nmB_app] at TU
      have GH := Lib.hid G2
      have sz := nmB_size f.bs
      have q4 : ¬ (9223372036854775807 : Int) < (((nmB f.bs).size + t.size : Nat) : Int) := by omega
      clear R1 R2 G1 G2 GY RY okr hY hY2 cells bY
      rw [p2] at LA S LB
      go_wp2_with (first | refine wpl_loadA LA rfl rfl rfl ?_ | refine wpl_store S rfl rfl rfl rfl rfl ?_ | refine wpl_load LB rfl rfl rfl ?_)
      refine TU.mono ?_
      rintro e w2 ⟨rfl, P2⟩
      have PH := Lib.hid (P2.next GH.out)
      clear TU P2 LB
      go_wp2
      go_ret
      exact ⟨rfl, PH.out⟩
end
end Go.Proofs.YtdmgobffhpgjlaaGreat.Pk
