/-
  The document's Rename.
-/
import Derived.Test.YtdmgobffhpgjlaaGreatPkRef8
namespace Go.Proofs.YtdmgobffhpgjlaaGreat.Pk
open Go.RowKit Go.PlainAid Go.Maps
set_option linter.unusedVariables false
set_option maxRecDepth 20000
set_option linter.unusedSimpArgs false

theorem rename_ok {r : Dk} (okr : r.Ok) {f : Fi} {nm to : Bs} (hf : f ∈ r.L) (hn : f.nm = nm) (hto : isName to = true) : { r with L := insF ⟨to, f.bs, f.sf⟩ (delF to (delF nm r.L)) }.Ok := by
  have hu := used_del okr.up.ne hf
  have hl := len_del okr.up.ne hf
  rw [hn] at hu hl
  have huse := okr.used
  have hcnt := okr.cnt
  have o1 := (okr.del nm).del to
  refine o1.ins (D := { r with L := delF to (delF nm r.L) }) hto (okr.safe f hf) (fun x hx => (mem_del.1 hx).2) ?_ ?_
  · have : usedF (delF to (delF nm r.L)) ≤ usedF (delF nm r.L) := by
      cases hgt : getF to (delF nm r.L) with
      | none => rw [del_none (get_none hgt)]; exact Nat.le_refl _
      | some x =>
        obtain ⟨x1, x2⟩ := get_some hgt
        have := used_del (okr.up.del nm).ne x1
        rw [x2] at this
        omega
    simp
    omega
  · have : (delF to (delF nm r.L)).length ≤ (delF nm r.L).length := List.length_filter_le _ _
    simp
    omega
/-- a block that isn't the document's stays -/
theorem Goes.stay {w w' : World} {Z Z' : Nat → Prop} (g : Goes w w' Z Z') {B : Nat} {o : Obj} (h : w.heap[B]? = some o) (hz : ¬ Z B) : w'.heap[B]? = some o ∧ ¬ Z' B := by
  have hb := in_heap h
  refine ⟨(g.block B hb hz).trans h, fun z => ?_⟩
  rcases g.sub B z with c | c
  · exact hz c
  · omega
theorem Goes.box {w wz : World} {Z Zz : Nat → Prop} (g : Goes w wz Z Zz) {B j : Nat} {x : Value} (hB : w.heap.size ≤ B) : Goes w (wz.setCell ⟨B, j, none⟩ x) Z Zz :=
  ⟨g.os, g.tape, g.output, by simpa using g.size, fun b hb hz => (Below.heap_setCell _ _ _ _ (by simp; omega)).trans (g.block b hb hz), g.sub⟩
section
variable {w w' : World} {u : Nat} {v : Value} {a mo : Int} {D : Dk}
set_option maxRecDepth 100000 in
set_option maxHeartbeats 2000000 in
theorem rrename_any (h : RefAt w u v a mo D) (pw : D.Pw) (ho : D.ops ≤ 1099511627776) {s t : ByteArray} (hs : s.size ≤ 9223372036854775807) (ht : t.size ≤ 9223372036854775807) :
    Calls Tryz.prog 59 #[.pointer (some ⟨u, 0, none⟩), .string s, .string t] w fun e w' => e = .returned (.int .i64 (D.rename (kl s) (kl t)).1) ∧ RPost w w' u v (D.rename (kl s) (kl t)).2 := by
  have B := rbegin_any h pw ho s t hs ht
  clear h
  by_cases hr : (D.beg (isName (kl s) && isName (kl t))).1 ≠ 0
  · rw [rename_r hr]
    clear pw
    generalize D.beg (isName (kl s) && isName (kl t)) = r at *
    obtain ⟨r1, r2⟩ := r
    simp only at hr B ⊢
    go_enter Tryz.func59, Tryz.ntmps59
    go_wp2_with fail
    refine B.mono ?_
    rintro e w1 ⟨rfl, P1⟩
    have PH := Lib.hid P1
    clear B P1
    go_wp2
    go_ret
    exact ⟨rfl, PH.out⟩
  have hr : (D.beg (isName (kl s) && isName (kl t))).1 = 0 := by simpa using hr
  have hgd := beg_good hr
  rw [hr] at B
  have hto : isName (kl t) = true := by
    simp only [Bool.and_eq_true] at hgd
    exact hgd.2
  have KT := Lib.hid hto
  clear hto
  cases hg : getF (kl s) (D.beg (isName (kl s) && isName (kl t))).2.L with
  | none =>
    rw [rename_n hr hg]
    generalize (D.beg (isName (kl s) && isName (kl t))).2 = r at *
    go_enter Tryz.func59, Tryz.ntmps59
    go_wp2_with fail
    refine B.mono ?_
    rintro e w1 ⟨rfl, v1, a1, m1, R1, G1⟩
    clear B
    have PL := place_any R1 s
    go_wp2_with fail
    refine PL.mono ?_
    rintro e w' ⟨i, rfl, PI, rfl⟩
    clear PL
    rcases PI with ⟨rfl, e⟩ | ⟨n, f', rfl, p1, p2, p3⟩
    case inr => rw [hg] at p3; cases p3
    have PH : RPost w w1 u v r := ⟨v1, a1, m1, R1, G1⟩
    have PHH := Lib.hid PH
    clear R1 G1 PH
    go_wp2
    go_ret
    exact ⟨rfl, PHH.out⟩
  | some f =>
    rw [rename_s hr hg]
    generalize (D.beg (isName (kl s) && isName (kl t))).2 = r at *
    go_enter Tryz.func59, Tryz.ntmps59
    go_wp2_with fail
    refine B.mono ?_
    rintro e w1 ⟨rfl, v1, a1, m1, R1, G1⟩
    clear B
    have PL := place_any R1 s
    go_wp2_with fail
    refine PL.mono ?_
    rintro e w' ⟨i, rfl, PI, rfl⟩
    clear PL
    rcases PI with ⟨_, e⟩ | ⟨n, f', rfl, p1, p2, p3⟩
    · rw [hg] at e; cases e
    obtain rfl : f = f' := by rw [hg] at p3; injection p3
    have n1 : ¬ (n : Int) < 0 := by omega
    have nl := (List.getElem?_eq_some_iff.1 p1).1
    have n2 : (n : Int) < (r.L.length : Int) := by omega
    obtain ⟨g, cap, ev, cells, LA⟩ := R1.file p1
    obtain ⟨Y, S, hY, bY⟩ := box_fi w1 f
    have RY : RefAt Y u v1 a1 m1 r := R1.kept fun b z => bY.block b (R1.lt z)
    have GY : Goes w Y (rzone u v) (rzone u v1) := G1.trans (Goes.of_below bY _)
    have hlt := R1.lt (.inl rfl)
    have c0 := R1.cell 0
    subst ev
    simp [refV] at c0
    have hz := zfi
    have okR := rename_ok R1.ok (List.mem_of_getElem? p1) p2 KT.out
    have nB : ¬ rzone u (.slice (some ⟨g, 0, none⟩) r.L.length cap) w1.heap.size := fun z => by have := R1.lt z; omega
    have DR := rdrop_any RY p1
    rw [p2] at DR
    have wB : w.heap.size ≤ w1.heap.size := G1.size
    have FIN : ∀ wz vz az mz, RefAt wz u vz az mz { r with L := delF (kl t) (delF (kl s) r.L) } → Goes w wz (rzone u v) (rzone u vz) → wz.heap[w1.heap.size]? = some (.cells #[.string (nmB f.nm), .string (nmB f.bs), .int .i64 (f.sf : Int)] 65 (0, 0)) → ¬ rzone u vz w1.heap.size →
        wz.cell? ⟨w1.heap.size, 0, none⟩ = some (.string (nmB f.nm)) ∧ wz.frozen? ⟨w1.heap.size, 0, none⟩ = false ∧ Loads Tryz.prog (wz.setCell ⟨w1.heap.size, 0, none⟩ (.string t)) 65 w1.heap.size 0 #[.string t, .string (nmB f.bs), .int .i64 (f.sf : Int)] ∧
        Calls Tryz.prog 69 #[.pointer (some ⟨u, 0, none⟩), .agg #[.string t, .string (nmB f.bs), .int .i64 (f.sf : Int)]] (wz.setCell ⟨w1.heap.size, 0, none⟩ (.string t)) fun e w' => e = .returned (.tuple #[]) ∧ RPost w w' u v { r with L := insF ⟨kl t, f.bs, f.sf⟩ (delF (kl t) (delF (kl s) r.L)) } := by
      intro wz vz az mz Rz Gz hB nBz
      have hB2 := heap_set wz w1.heap.size 0 (.string t) _ _ _ hB
      refine ⟨by rw [cell_of_row _ _ _ _ _ _ hB]; rfl, frozen_of_row _ _ _ _ _ hB, fi_loads (by simpa using hB2), ?_⟩
      have R5 : RefAt (wz.setCell ⟨w1.heap.size, 0, none⟩ (.string t)) u vz az mz { r with L := delF (kl t) (delF (kl s) r.L) } := Rz.kept fun b z => Below.heap_setCell _ _ _ _ (by intro e; simp at e; subst e; exact nBz z)
      have PU := rput_any R5 ⟨kl t, f.bs, f.sf⟩ okR
      simp only [nmB_kl] at PU
      exact PU.mono fun e wy ⟨he, P⟩ => ⟨he, P.next (Gz.box wB)⟩
    have FH := Lib.hid FIN
    have GYH := Lib.hid GY
    have HY := Lib.hid hY
    have NB := Lib.hid nB
    clear R1 G1 GY RY hY cells bY FIN okR nB
    rw [p2] at LA S
    go_wp2_with (first | refine wpl_loadA LA rfl rfl rfl ?_ | refine wpl_store S rfl rfl rfl rfl rfl ?_)
    refine DR.mono ?_
    rintro e w2 ⟨rfl, v2, a2, m2, R2, G2⟩
    clear DR S LA
    obtain ⟨hB2, nB2⟩ := G2.stay HY.out NB.out
    have G2T := GYH.out.trans G2
    have PL2 := place_any R2 t
    go_wp2_with fail
    refine PL2.mono ?_
    rintro e w' ⟨i2, rfl, PI2, rfl⟩
    clear PL2
    rcases PI2 with ⟨rfl, e2⟩ | ⟨n2, f2, rfl, t1, t2, t3⟩
    · have en := del_none (get_none e2)
      obtain ⟨k1, k2, k3, k4⟩ := FH.out w2 v2 a2 m2 (by rw [en]; exact R2) G2T hB2 nB2
      rw [p2] at k1
      clear R2 G2 G2T hB2 nB2 FH
      go_wp2_with (first | refine wpl_load k3 rfl rfl rfl ?_)
      refine k4.mono ?_
      rintro e w9 ⟨rfl, P9⟩
      have PH := Lib.hid P9
      clear k4 k3 P9
      go_wp2
      go_ret
      exact ⟨rfl, PH.out⟩
    · have DR2 := rdrop_any R2 t1
      rw [t2] at DR2
      have n3 : ¬ (n2 : Int) < 0 := by omega
      have n4 : (0 : Int) ≤ (n2 : Int) := by omega
      clear R2
      go_wp2_with fail
      refine DR2.mono ?_
      rintro e w3 ⟨rfl, v3, a3, m3, R3, G3⟩
      clear DR2
      obtain ⟨hB3, nB3⟩ := G3.stay hB2 nB2
      obtain ⟨k1, k2, k3, k4⟩ := FH.out w3 v3 a3 m3 R3 (G2T.trans G3) hB3 nB3
      rw [p2] at k1
      clear R3 G3 G2 G2T hB3 nB3 hB2 nB2 FH
      go_wp2_with (first | refine wpl_load k3 rfl rfl rfl ?_)
      refine k4.mono ?_
      rintro e w9 ⟨rfl, P9⟩
      have PH := Lib.hid P9
      clear k4 k3 P9
      go_wp2
      go_ret
      exact ⟨rfl, PH.out⟩
end
end Go.Proofs.YtdmgobffhpgjlaaGreat.Pk
