/-
  The document's Sync.
-/
import Derived.Test.YtdmgobffhpgjlaaGreatPkRef7
namespace Go.Proofs.YtdmgobffhpgjlaaGreat.Pk
open Go.RowKit Go.PlainAid Go.Maps
set_option linter.unusedVariables false
set_option maxRecDepth 20000
set_option linter.unusedSimpArgs false

theorem zfi : ∀ w, (zeroValue 65).run Tryz.prog w = .ok (.agg #[.string ⟨#[]⟩, .string ⟨#[]⟩, .int .i64 0]) w := (zero_of_info (P := Tryz.prog) (t := 65) (n := 3) (by kernel_rfl)).1
/-- a variable that holds a file -/
theorem box_fi (w : World) (f : Fi) : ∃ Y, Stores Tryz.prog (w.alloc (.cells #[.string ⟨#[]⟩, .string ⟨#[]⟩, .int .i64 0] 65)) 65 w.heap.size 0 #[.string (nmB f.nm), .string (nmB f.bs), .int .i64 (f.sf : Int)] Y ∧
    Y.heap[w.heap.size]? = some (.cells #[.string (nmB f.nm), .string (nmB f.bs), .int .i64 (f.sf : Int)] 65 (0, 0)) ∧ Below w.heap.size w Y := by
  have hn := heap_alloc_new w (.cells #[.string ⟨#[]⟩, .string ⟨#[]⟩, .int .i64 0] 65)
  have s := stores_part (P := Tryz.prog) (ty := 65) (off := 0) (cs := #[.string (nmB f.nm), .string (nmB f.bs), .int .i64 (f.sf : Int)]) hn (by kernel_rfl) (by simp) (by simp [Value.oneCell'])
  refine ⟨_, s, ?_, below_row ((Below.refl _ _).alloc (Nat.le_refl _) _) (Nat.le_refl _)⟩
  rw [setRow_heap _ _ _ _ _ _ hn]
  simp
theorem fi_loads {w : World} {B : Nat} {c0 c1 c2 : Value} (h : w.heap[B]? = some (.cells #[c0, c1, c2] 65 (0, 0))) : Loads Tryz.prog w 65 B 0 #[c0, c1, c2] := by
  have := loads_part (P := Tryz.prog) (ty := 65) (off := 0) (n := 3) h (by kernel_rfl) (by kernel_rfl) (by simp)
  simpa using this
theorem nmB_app (b : Bs) (s : ByteArray) : nmB b ++ s = nmB (b ++ kl s) := by
  apply WideShapes.bytes_inj
  simp [nmB, kl, ByteArray.data_append]
/-- the file at a place, read whole -/
theorem RefAt.file {w : World} {u : Nat} {v : Value} {a mo : Int} {D : Dk} (h : RefAt w u v a mo D) {n : Nat} {f : Fi} (hn : D.L[n]? = some f) : ∃ g cap, v = .slice (some ⟨g, 0, none⟩) D.L.length cap ∧ (∀ c x, (fiV f)[c]? = some x → w.cell? ⟨g, n * 3 + c, none⟩ = some x) ∧ LoadsA Tryz.prog w 65 ⟨g, n * 3, none⟩ #[.string (nmB f.nm), .string (nmB f.bs), .int .i64 (f.sf : Int)] := by
  obtain ⟨o, cap, e, hc⟩ := h.form
  obtain ⟨g, rfl, hx⟩ := hc n f hn
  exact ⟨g, cap, e, hx, loads_fi fun c x hc => by rw [add_addr]; exact hx c x hc⟩
section
variable {w w' : World} {u : Nat} {v : Value} {a mo : Int} {D : Dk}
set_option maxRecDepth 100000 in
set_option maxHeartbeats 2000000 in
theorem rsync_any (h : RefAt w u v a mo D) (pw : D.Pw) (ho : D.ops ≤ 1099511627776) {s : ByteArray} (hs : s.size ≤ 9223372036854775807) :
    Calls Tryz.prog 43 #[.pointer (some ⟨u, 0, none⟩), .string s] w fun e w' => e = .returned (.int .i64 (D.sync (kl s)).1) ∧ RPost w w' u v (D.sync (kl s)).2 := by
  have B := rbegin_any h pw ho s s hs hs
  rw [Bool.and_self] at B
  clear h
  by_cases hr : (D.beg (isName (kl s))).1 ≠ 0
  · rw [sync_r hr]
    clear pw
    generalize D.beg (isName (kl s)) = r at *
    obtain ⟨r1, r2⟩ := r
    simp only at hr B ⊢
    go_enter Tryz.func43, Tryz.ntmps43
    go_wp2_with fail
    refine B.mono ?_
    rintro e w1 ⟨rfl, P1⟩
    have PH := Lib.hid P1
    clear B P1
    go_wp2
    go_ret
    exact ⟨rfl, PH.out⟩
  have hr : (D.beg (isName (kl s))).1 = 0 := by simpa using hr
  have hgd := beg_good hr
  rw [hr] at B
  cases hg : getF (kl s) (D.beg (isName (kl s))).2.L with
  | none =>
    rw [sync_n hr hg]
    generalize (D.beg (isName (kl s))).2 = r at *
    go_enter Tryz.func43, Tryz.ntmps43
    go_wp2_with fail
    refine B.mono ?_
    rintro e w1 ⟨rfl, v1, a1, m1, R1, G1⟩
    clear B
    have PL := place_any R1 s
    go_wp2_with fail
    refine PL.mono ?_
    rintro e w' ⟨i, rfl, PI, rfl⟩
    clear PL
    rcases PI with ⟨rfl, e⟩ | ⟨n, f', rfl, p1, p2, p3⟩
    case inr => rw [hg] at p3; cases p3
    have PH : RPost w w1 u v r := ⟨v1, a1, m1, R1, G1⟩
    have PHH := Lib.hid PH
    clear R1 G1 PH
    go_wp2
    go_ret
    exact ⟨rfl, PHH.out⟩
  | some f =>
    rw [sync_s hr hg]
    generalize (D.beg (isName (kl s))).2 = r at *
    go_enter Tryz.func43, Tryz.ntmps43
    go_wp2_with fail
    refine B.mono ?_
    rintro e w1 ⟨rfl, v1, a1, m1, R1, G1⟩
    clear B
    have PL := place_any R1 s
    go_wp2_with fail
    refine PL.mono ?_
    rintro e w' ⟨i, rfl, PI, rfl⟩
    clear PL
    rcases PI with ⟨_, e⟩ | ⟨n, f', rfl, p1, p2, p3⟩
    · rw [hg] at e; cases e
    obtain rfl : f = f' := by rw [hg] at p3; injection p3
    have n1 : ¬ (n : Int) < 0 := by omega
    have nl := (List.getElem?_eq_some_iff.1 p1).1
    have n2 : (n : Int) < (r.L.length : Int) := by omega
    obtain ⟨g, cap, ev, cells, LA⟩ := R1.file p1
    obtain ⟨Y, S, hY, bY⟩ := box_fi w1 f
    have RY : RefAt Y u v1 a1 m1 r := R1.kept fun b z => bY.block b (R1.lt z)
    have GY : Goes w Y (rzone u v) (rzone u v1) := G1.trans (Goes.of_below bY _)
    have hlt := R1.lt (.inl rfl)
    have c0 := R1.cell 0
    subst ev
    simp [refV] at c0
    have hz := zfi
    have b1 := cell_of_row Y _ 1 _ _ _ hY
    have b2 := cell_of_row Y _ 2 _ _ _ hY
    have fz := frozen_of_row Y _ 2 _ _ hY
    simp at b1 b2
    have hY2 := heap_set Y w1.heap.size 2 (.int .i64 (f.bs.length : Int)) _ _ _ hY
    have LB : Loads Tryz.prog (Y.setCell ⟨w1.heap.size, 2, none⟩ (.int .i64 (f.bs.length : Int))) 65 w1.heap.size 0 #[.string (nmB f.nm), .string (nmB f.bs), .int .i64 (f.bs.length : Int)] := fi_loads (by simpa using hY2)
    have R2 : RefAt (Y.setCell ⟨w1.heap.size, 2, none⟩ (.int .i64 (f.bs.length : Int))) u (.slice (some ⟨g, 0, none⟩) r.L.length cap) a1 m1 r := RY.kept fun b z => Below.heap_setCell _ _ _ _ (by have := R1.lt z; simp; omega)
    have G2 : Goes w (Y.setCell ⟨w1.heap.size, 2, none⟩ (.int .i64 (f.bs.length : Int))) (rzone u v) (rzone u (.slice (some ⟨g, 0, none⟩) r.L.length cap)) := G1.trans ⟨bY.os, bY.tape, bY.output, by simpa using bY.size, fun b hb hz => (Below.heap_setCell _ _ _ _ (by simp; omega)).trans (bY.block b hb), fun _ h => .inl h⟩
    have okr := R1.ok
    have TU := rturn_any R2 p1 ⟨f.nm, f.bs, f.bs.length⟩ rfl (okr.upd (List.mem_of_getElem? p1) rfl (Nat.le_refl _) (by have := okr.used; simp; omega))
    rw [p2] at TU
    have GH := Lib.hid G2
    have sz := nmB_size f.bs
    clear R1 R2 G1 G2 GY RY okr hY hY2 cells bY
    rw [p2] at LA S LB
    skip
    go_wp2_with (first | refine wpl_loadA LA rfl rfl rfl ?_ | refine wpl_store S rfl rfl rfl rfl rfl ?_ | refine wpl_load LB rfl rfl rfl ?_)
    refine TU.mono ?_
    rintro e w2 ⟨rfl, P2⟩
    have PH := Lib.hid (P2.next GH.out)
    clear TU P2 LB
    go_wp2
    go_ret
    exact ⟨rfl, PH.out⟩
end
end Go.Proofs.YtdmgobffhpgjlaaGreat.Pk
