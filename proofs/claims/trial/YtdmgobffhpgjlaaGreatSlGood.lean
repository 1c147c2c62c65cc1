/-
  Contracts of only and Good, the program's, and of Good, the document's.
-/
import Derived.Test.YtdmgobffhpgjlaaGreatSlEq
import Derived.Test.YtdmgobffhpgjlaaGreatSlLeaf
import Derived.Test.YtdmgobffhpgjlaaGreatCrEnds

namespace Go.Proofs.YtdmgobffhpgjlaaGreat.Sl
open Go.RowKit Go.PlainAid Go.Proofs.YtdmgobffhpgjlaaGreat.Cr
set_option linter.unusedVariables false
set_option maxRecDepth 20000
set_option linter.unusedSimpArgs false

/-- x without the fields that its kind doesn't have -/
def onlyS (x : Sp) : Sp := ⟨x.k, if hT x.k then x.repo else none8, if hT x.k then x.tag else none8, if hD x.k then x.dig else zeros, if hM x.k then x.ty else none8, if hM x.k then x.sz else 0, if hA x.k then x.tm else 0⟩
/-- what only holds in memory: the layout, the slip, its answer, and the slip that it makes -/
structure On (w0 w : World) (n L X R Y : Nat) (k : Int) (x y : Sp) : Prop where
  l : At w L 146 (layV k)
  x : At w X 39 (slV x)
  r : At w R 39 (slV Sp.zero)
  y : At w Y 39 (slV y)
  bel : Below n w0 w
  ne : L ≠ Y ∧ X ≠ Y ∧ R ≠ Y ∧ n ≤ Y ∧ n ≤ R
theorem On.set {w0 w : World} {n L X R Y : Nat} {k : Int} {x y y' : Sp} (h : On w0 w n L X R Y k x y) (j : Nat) (v : Value) (e : (slV y).setIfInBounds j v = slV y') : On w0 (w.setCell ⟨Y, j, none⟩ v) n L X R Y k x y' :=
  ⟨h.l.other h.ne.1 v, h.x.other h.ne.2.1 v, h.r.other h.ne.2.2.1 v, by rw [← e]; exact h.y.set j v, h.bel.setCell h.ne.2.2.2.1 v, h.ne⟩
theorem On.row {w0 w : World} {n L X R Y : Nat} {k : Int} {x y y' : Sp} (h : On w0 w n L X R Y k x y) : On w0 (w.setRow Y (slV y')) n L X R Y k x y' :=
  ⟨h.l.rowOther h.ne.1, h.x.rowOther h.ne.2.1, h.r.rowOther h.ne.2.2.1, h.y.row _, below_row h.bel h.ne.2.2.2.1, h.ne⟩
theorem On.drew {w0 w : World} {n L X R Y : Nat} {k : Int} {x y : Sp} (h : On w0 w n L X R Y k x y) : On w0 w.drew n L X R Y k x y := ⟨h.l.drew, h.x.drew, h.r.drew, h.y.drew, h.bel.drew, h.ne⟩
theorem on_start (w : World) (k : Int) (x : Sp) : ∃ L X R, L = w.heap.size ∧ X = w.heap.size + 1 ∧ R = w.heap.size + 1 + 1 ∧ ∀ W, W = (((w.alloc (.cells (layV k) 146)).alloc (.cells (slV x) 39)).alloc (.cells #[.int .i64 0, .string ⟨#[]⟩, .string ⟨#[]⟩, .int .u8 0, .int .u8 0, .int .u8 0, .int .u8 0, .int .u8 0, .int .u8 0, .int .u8 0, .int .u8 0, .int .u8 0, .int .u8 0, .int .u8 0, .int .u8 0, .int .u8 0, .int .u8 0, .int .u8 0, .int .u8 0, .int .u8 0, .int .u8 0, .int .u8 0, .int .u8 0, .int .u8 0, .int .u8 0, .int .u8 0, .int .u8 0, .int .u8 0, .int .u8 0, .int .u8 0, .int .u8 0, .int .u8 0, .int .u8 0, .int .u8 0, .int .u8 0, .string ⟨#[]⟩, .int .i64 0, .int .i64 0] 39)) →
    At W L 146 (layV k) ∧ At W X 39 (slV x) ∧ At W R 39 (slV Sp.zero) ∧ Below w.heap.size w W ∧ w.heap.size ≤ R := by
  refine ⟨_, _, _, rfl, rfl, rfl, ?_⟩
  intro W hW
  subst hW
  rw [zslip]
  have h1 := At.new w 146 (layV k)
  have h2 := At.new (w.alloc (.cells (layV k) 146)) 39 (slV x)
  have h3 := At.new ((w.alloc (.cells (layV k) 146)).alloc (.cells (slV x) 39)) 39 (slV Sp.zero)
  rw [World.size_alloc] at h2
  rw [World.size_alloc, World.size_alloc] at h3
  refine ⟨(h1.alloc _).alloc _, h2.alloc _, h3, ?_, by omega⟩
  exact (((Below.refl _ _).alloc (Nat.le_refl _) _).alloc (by simp) _).alloc (by simp; omega) _
set_option maxHeartbeats 4000000 in
theorem only_bind (x : Sp) (w : World) (hk : x.k = 1) (hd : Dig x.dig) :
    Calls Tryz.prog 97 #[.agg (layV 1), .agg (slV x)] w fun e w' => e = .returned (.agg (slV (onlyS x))) ∧ Below w.heap.size w w' := by
  obtain ⟨L, X, R, e1, e2, e3, st⟩ := on_start w 1 x
  have E1 := Lib.hid e1; have E2 := Lib.hid e2; have E3 := Lib.hid e3; have ST := Lib.hid st
  clear e1 e2 e3 st
  go_enter Tryz.func97, Tryz.ntmps97
  go_upto_region 1 with (fail)
  rw [← E3.out, ← E2.out, ← E1.out]
  obtain ⟨w1, hw1⟩ : ∃ w1, w1 = (((w.alloc (.cells (layV 1) 146)).alloc (.cells (slV x) 39)).alloc (.cells #[.int .i64 0, .string ⟨#[]⟩, .string ⟨#[]⟩, .int .u8 0, .int .u8 0, .int .u8 0, .int .u8 0, .int .u8 0, .int .u8 0, .int .u8 0, .int .u8 0, .int .u8 0, .int .u8 0, .int .u8 0, .int .u8 0, .int .u8 0, .int .u8 0, .int .u8 0, .int .u8 0, .int .u8 0, .int .u8 0, .int .u8 0, .int .u8 0, .int .u8 0, .int .u8 0, .int .u8 0, .int .u8 0, .int .u8 0, .int .u8 0, .int .u8 0, .int .u8 0, .int .u8 0, .int .u8 0, .int .u8 0, .int .u8 0, .string ⟨#[]⟩, .int .i64 0, .int .i64 0] 39)) := ⟨_, rfl⟩
  obtain ⟨hl, hx, hr, hb, hn⟩ := ST.out _ hw1
  rw [← hw1]
  clear hw1 ST E1 E2 E3
  have c0 : w1.cell? ⟨X, 0, none⟩ = some (.int .i64 1) := (hx.cell 0).trans (by rw [sl0, hk])
  obtain ⟨w2, S2, hy, G, Z2⟩ := k_keep w1 1
  clear Z2
  have O : On w w2 w.heap.size L X R w1.heap.size 1 x { Sp.zero with k := 1 } := ⟨hl.old G, hx.old G, hr.old G, hy, hb.trans (G.mono hb.size), by have := hl.lt; have := hx.lt; have := hr.lt; have := hb.size; omega⟩
  go_upto_region 2 with (refine wpl_store S2 rfl rfl rfl rfl rfl ?_)
  clear S2 hy G hl hx hr hb hn c0
  generalize w1.heap.size = Y at O ⊢
  replace O : On w w2 w.heap.size L X R Y 1 x ⟨1, none8, none8, zeros, none8, 0, 0⟩ := O
  have y0 : w2.cell? ⟨L, 0, none⟩ = some (.bool true) := O.l.cell 0
  have f1 := O.y.frozen 1
  have f2 := O.y.frozen 2
  have c1 : w2.cell? ⟨X, 1, none⟩ = some (.string x.repo) := (O.x.cell 1)
  have c2 : w2.cell? ⟨X, 2, none⟩ = some (.string x.tag) := (O.x.cell 2)
  have d1 : w2.cell? ⟨Y, 1, none⟩ = some (.string none8) := (O.y.cell 1)
  have d2 : w2.cell? ⟨Y, 2, none⟩ = some (.string none8) := (O.y.cell 2)
  go_upto_region 3 with (fail)
  go_region
  have O2 := ((O.set 1 (.string x.repo) (set1 _ _)).set 2 (.string x.tag) (set2 _ _)).drew
  clear O
  clear f1 f2 c1 c2 d1 d2 y0
  generalize ((w2.setCell ⟨Y, 1, none⟩ (.string x.repo)).setCell ⟨Y, 2, none⟩ (.string x.tag)).drew = w3 at O2 ⊢
  have O : On w w3 w.heap.size L X R Y 1 x ⟨1, x.repo, x.tag, zeros, none8, 0, 0⟩ := O2
  clear O2
  have zdl := zeros_dig.len
  have y1 : w3.cell? ⟨L, 1, none⟩ = some (.bool true) := O.l.cell 1
  have D1 := dig_loads O.x hd.len
  have D2 : Stores Tryz.prog w3 37 Y 3 (dV x.dig).toArray (w3.setRow Y (slV ⟨1, x.repo, x.tag, x.dig, none8, 0, 0⟩)) := dig_stores O.y zdl hd.len
  have O2 := O.row (y' := ⟨1, x.repo, x.tag, x.dig, none8, 0, 0⟩)
  generalize w3.setRow Y (slV ⟨1, x.repo, x.tag, x.dig, none8, 0, 0⟩) = w4 at D2 O2
  go_upto_region 6 with (first | refine wpl_load D1 rfl rfl rfl ?_ | refine wpl_store D2 rfl rfl rfl rfl rfl ?_)
  clear O D1 D2 y1
  have O := O2
  clear O2
  clear zdl
  have zdl := hd.len
  have y2 : w4.cell? ⟨L, 2, none⟩ = some (.bool true) := O.l.cell 2
  have f1 := O.y.frozen 35
  have f2 := O.y.frozen 36
  have c1 : w4.cell? ⟨X, 35, none⟩ = some (.string x.ty) := (O.x.cell 35).trans (sl35 hd.len)
  have c2 : w4.cell? ⟨X, 36, none⟩ = some (.int .i64 x.sz) := (O.x.cell 36).trans (sl36 hd.len)
  have d1 : w4.cell? ⟨Y, 35, none⟩ = some (.string none8) := (O.y.cell 35).trans (sl35 zdl)
  have d2 : w4.cell? ⟨Y, 36, none⟩ = some (.int .i64 0) := (O.y.cell 36).trans (sl36 zdl)
  go_upto_region 7 with (fail)
  go_region
  have O2 := ((O.set 35 (.string x.ty) (set35 (x := ⟨1, x.repo, x.tag, x.dig, none8, 0, 0⟩) zdl _)).set 36 (.int .i64 x.sz) (set36 (x := ⟨1, x.repo, x.tag, x.dig, x.ty, 0, 0⟩) zdl _)).drew
  clear O
  clear f1 f2 c1 c2 d1 d2 y2
  generalize ((w4.setCell ⟨Y, 35, none⟩ (.string x.ty)).setCell ⟨Y, 36, none⟩ (.int .i64 x.sz)).drew = w5 at O2 ⊢
  have O : On w w5 w.heap.size L X R Y 1 x ⟨1, x.repo, x.tag, x.dig, x.ty, x.sz, 0⟩ := O2
  clear O2
  have y3 : w5.cell? ⟨L, 3, none⟩ = some (.bool true) := O.l.cell 3
  have f1 := O.y.frozen 37
  have c1 : w5.cell? ⟨X, 37, none⟩ = some (.int .i64 x.tm) := (O.x.cell 37).trans (sl37 hd.len)
  have d1 : w5.cell? ⟨Y, 37, none⟩ = some (.int .i64 0) := (O.y.cell 37).trans (sl37 zdl)
  go_upto_region 10 with (fail)
  have O2 := O.set 37 (.int .i64 x.tm) (set37 (x := ⟨1, x.repo, x.tag, x.dig, x.ty, x.sz, 0⟩) zdl _)
  clear O f1 c1 d1 y3
  generalize w5.setCell ⟨Y, 37, none⟩ (.int .i64 x.tm) = w6 at O2 ⊢
  have O : On w w6 w.heap.size L X R Y 1 x ⟨1, x.repo, x.tag, x.dig, x.ty, x.sz, x.tm⟩ := O2
  clear O2
  have fin : ⟨1, x.repo, x.tag, x.dig, x.ty, x.sz, x.tm⟩ = onlyS x := by
    unfold onlyS
    rw [hk]
    rfl
  rw [fin] at O
  have zd : (onlyS x).dig.length = 32 := by rw [← fin]; exact zdl
  clear fin zdl
  have D1 := sl_loads O.y zd
  have D2 := sl_stores O.r zeros_dig.len zd
  have R1 := O.r.row (slV (onlyS x))
  have bel := below_row (cs := slV (onlyS x)) O.bel O.ne.2.2.2.2
  generalize w6.setRow R (slV (onlyS x)) = w9 at D2 R1 bel
  go_wp2_with (first | refine wpl_load D1 rfl rfl rfl ?_ | refine wpl_store D2 rfl rfl rfl rfl rfl ?_)
  exact bodyPost_ret (results_cell_row Tryz.results97 _ _ R 39 (slV (onlyS x)) (0, 0) _ rfl R1.heap Tryz.underlying39 rfl (by rw [slV_size zd]; kernel_rfl)) rfl ⟨rfl, bel⟩
set_option maxHeartbeats 4000000 in
theorem only_miss (x : Sp) (w : World) (hk : x.k = 2) (hd : Dig x.dig) :
    Calls Tryz.prog 97 #[.agg (layV 2), .agg (slV x)] w fun e w' => e = .returned (.agg (slV (onlyS x))) ∧ Below w.heap.size w w' := by
  obtain ⟨L, X, R, e1, e2, e3, st⟩ := on_start w 2 x
  have E1 := Lib.hid e1; have E2 := Lib.hid e2; have E3 := Lib.hid e3; have ST := Lib.hid st
  clear e1 e2 e3 st
  go_enter Tryz.func97, Tryz.ntmps97
  go_upto_region 1 with (fail)
  rw [← E3.out, ← E2.out, ← E1.out]
  obtain ⟨w1, hw1⟩ : ∃ w1, w1 = (((w.alloc (.cells (layV 2) 146)).alloc (.cells (slV x) 39)).alloc (.cells #[.int .i64 0, .string ⟨#[]⟩, .string ⟨#[]⟩, .int .u8 0, .int .u8 0, .int .u8 0, .int .u8 0, .int .u8 0, .int .u8 0, .int .u8 0, .int .u8 0, .int .u8 0, .int .u8 0, .int .u8 0, .int .u8 0, .int .u8 0, .int .u8 0, .int .u8 0, .int .u8 0, .int .u8 0, .int .u8 0, .int .u8 0, .int .u8 0, .int .u8 0, .int .u8 0, .int .u8 0, .int .u8 0, .int .u8 0, .int .u8 0, .int .u8 0, .int .u8 0, .int .u8 0, .int .u8 0, .int .u8 0, .int .u8 0, .string ⟨#[]⟩, .int .i64 0, .int .i64 0] 39)) := ⟨_, rfl⟩
  obtain ⟨hl, hx, hr, hb, hn⟩ := ST.out _ hw1
  rw [← hw1]
  clear hw1 ST E1 E2 E3
  have c0 : w1.cell? ⟨X, 0, none⟩ = some (.int .i64 2) := (hx.cell 0).trans (by rw [sl0, hk])
  obtain ⟨w2, S2, hy, G, Z2⟩ := k_keep w1 2
  clear Z2
  have O : On w w2 w.heap.size L X R w1.heap.size 2 x { Sp.zero with k := 2 } := ⟨hl.old G, hx.old G, hr.old G, hy, hb.trans (G.mono hb.size), by have := hl.lt; have := hx.lt; have := hr.lt; have := hb.size; omega⟩
  go_upto_region 2 with (refine wpl_store S2 rfl rfl rfl rfl rfl ?_)
  clear S2 hy G hl hx hr hb hn c0
  generalize w1.heap.size = Y at O ⊢
  replace O : On w w2 w.heap.size L X R Y 2 x ⟨2, none8, none8, zeros, none8, 0, 0⟩ := O
  have y0 : w2.cell? ⟨L, 0, none⟩ = some (.bool true) := O.l.cell 0
  have f1 := O.y.frozen 1
  have f2 := O.y.frozen 2
  have c1 : w2.cell? ⟨X, 1, none⟩ = some (.string x.repo) := (O.x.cell 1)
  have c2 : w2.cell? ⟨X, 2, none⟩ = some (.string x.tag) := (O.x.cell 2)
  have d1 : w2.cell? ⟨Y, 1, none⟩ = some (.string none8) := (O.y.cell 1)
  have d2 : w2.cell? ⟨Y, 2, none⟩ = some (.string none8) := (O.y.cell 2)
  go_upto_region 3 with (fail)
  go_region
  have O2 := ((O.set 1 (.string x.repo) (set1 _ _)).set 2 (.string x.tag) (set2 _ _)).drew
  clear O
  clear f1 f2 c1 c2 d1 d2 y0
  generalize ((w2.setCell ⟨Y, 1, none⟩ (.string x.repo)).setCell ⟨Y, 2, none⟩ (.string x.tag)).drew = w3 at O2 ⊢
  have O : On w w3 w.heap.size L X R Y 2 x ⟨2, x.repo, x.tag, zeros, none8, 0, 0⟩ := O2
  clear O2
  have zdl := zeros_dig.len
  have y1 : w3.cell? ⟨L, 1, none⟩ = some (.bool false) := O.l.cell 1
  have y2 : w3.cell? ⟨L, 2, none⟩ = some (.bool false) := O.l.cell 2
  have y3 : w3.cell? ⟨L, 3, none⟩ = some (.bool true) := O.l.cell 3
  have f1 := O.y.frozen 37
  have c1 : w3.cell? ⟨X, 37, none⟩ = some (.int .i64 x.tm) := (O.x.cell 37).trans (sl37 hd.len)
  have d1 : w3.cell? ⟨Y, 37, none⟩ = some (.int .i64 0) := (O.y.cell 37).trans (sl37 zdl)
  go_upto_region 10 with (fail)
  have O2 := O.set 37 (.int .i64 x.tm) (set37 (x := ⟨2, x.repo, x.tag, zeros, none8, 0, 0⟩) zdl _)
  clear O f1 c1 d1 y1 y2 y3
  generalize w3.setCell ⟨Y, 37, none⟩ (.int .i64 x.tm) = w4 at O2 ⊢
  have O : On w w4 w.heap.size L X R Y 2 x ⟨2, x.repo, x.tag, zeros, none8, 0, x.tm⟩ := O2
  clear O2
  have fin : ⟨2, x.repo, x.tag, zeros, none8, 0, x.tm⟩ = onlyS x := by
    unfold onlyS
    rw [hk]
    rfl
  rw [fin] at O
  have zd : (onlyS x).dig.length = 32 := by rw [← fin]; exact zdl
  clear fin zdl
  have D1 := sl_loads O.y zd
  have D2 := sl_stores O.r zeros_dig.len zd
  have R1 := O.r.row (slV (onlyS x))
  have bel := below_row (cs := slV (onlyS x)) O.bel O.ne.2.2.2.2
  generalize w4.setRow R (slV (onlyS x)) = w9 at D2 R1 bel
  go_wp2_with (first | refine wpl_load D1 rfl rfl rfl ?_ | refine wpl_store D2 rfl rfl rfl rfl rfl ?_)
  exact bodyPost_ret (results_cell_row Tryz.results97 _ _ R 39 (slV (onlyS x)) (0, 0) _ rfl R1.heap Tryz.underlying39 rfl (by rw [slV_size zd]; kernel_rfl)) rfl ⟨rfl, bel⟩
set_option maxHeartbeats 4000000 in
theorem only_drop (x : Sp) (w : World) (hk : x.k = 3) (hd : Dig x.dig) :
    Calls Tryz.prog 97 #[.agg (layV 3), .agg (slV x)] w fun e w' => e = .returned (.agg (slV (onlyS x))) ∧ Below w.heap.size w w' := by
  obtain ⟨L, X, R, e1, e2, e3, st⟩ := on_start w 3 x
  have E1 := Lib.hid e1; have E2 := Lib.hid e2; have E3 := Lib.hid e3; have ST := Lib.hid st
  clear e1 e2 e3 st
  go_enter Tryz.func97, Tryz.ntmps97
  go_upto_region 1 with (fail)
  rw [← E3.out, ← E2.out, ← E1.out]
  obtain ⟨w1, hw1⟩ : ∃ w1, w1 = (((w.alloc (.cells (layV 3) 146)).alloc (.cells (slV x) 39)).alloc (.cells #[.int .i64 0, .string ⟨#[]⟩, .string ⟨#[]⟩, .int .u8 0, .int .u8 0, .int .u8 0, .int .u8 0, .int .u8 0, .int .u8 0, .int .u8 0, .int .u8 0, .int .u8 0, .int .u8 0, .int .u8 0, .int .u8 0, .int .u8 0, .int .u8 0, .int .u8 0, .int .u8 0, .int .u8 0, .int .u8 0, .int .u8 0, .int .u8 0, .int .u8 0, .int .u8 0, .int .u8 0, .int .u8 0, .int .u8 0, .int .u8 0, .int .u8 0, .int .u8 0, .int .u8 0, .int .u8 0, .int .u8 0, .int .u8 0, .string ⟨#[]⟩, .int .i64 0, .int .i64 0] 39)) := ⟨_, rfl⟩
  obtain ⟨hl, hx, hr, hb, hn⟩ := ST.out _ hw1
  rw [← hw1]
  clear hw1 ST E1 E2 E3
  have c0 : w1.cell? ⟨X, 0, none⟩ = some (.int .i64 3) := (hx.cell 0).trans (by rw [sl0, hk])
  obtain ⟨w2, S2, hy, G, Z2⟩ := k_keep w1 3
  clear Z2
  have O : On w w2 w.heap.size L X R w1.heap.size 3 x { Sp.zero with k := 3 } := ⟨hl.old G, hx.old G, hr.old G, hy, hb.trans (G.mono hb.size), by have := hl.lt; have := hx.lt; have := hr.lt; have := hb.size; omega⟩
  go_upto_region 2 with (refine wpl_store S2 rfl rfl rfl rfl rfl ?_)
  clear S2 hy G hl hx hr hb hn c0
  generalize w1.heap.size = Y at O ⊢
  replace O : On w w2 w.heap.size L X R Y 3 x ⟨3, none8, none8, zeros, none8, 0, 0⟩ := O
  have y0 : w2.cell? ⟨L, 0, none⟩ = some (.bool true) := O.l.cell 0
  have f1 := O.y.frozen 1
  have f2 := O.y.frozen 2
  have c1 : w2.cell? ⟨X, 1, none⟩ = some (.string x.repo) := (O.x.cell 1)
  have c2 : w2.cell? ⟨X, 2, none⟩ = some (.string x.tag) := (O.x.cell 2)
  have d1 : w2.cell? ⟨Y, 1, none⟩ = some (.string none8) := (O.y.cell 1)
  have d2 : w2.cell? ⟨Y, 2, none⟩ = some (.string none8) := (O.y.cell 2)
  go_upto_region 3 with (fail)
  go_region
  have O2 := ((O.set 1 (.string x.repo) (set1 _ _)).set 2 (.string x.tag) (set2 _ _)).drew
  clear O
  clear f1 f2 c1 c2 d1 d2 y0
  generalize ((w2.setCell ⟨Y, 1, none⟩ (.string x.repo)).setCell ⟨Y, 2, none⟩ (.string x.tag)).drew = w3 at O2 ⊢
  have O : On w w3 w.heap.size L X R Y 3 x ⟨3, x.repo, x.tag, zeros, none8, 0, 0⟩ := O2
  clear O2
  have zdl := zeros_dig.len
  have y1 : w3.cell? ⟨L, 1, none⟩ = some (.bool false) := O.l.cell 1
  have y2 : w3.cell? ⟨L, 2, none⟩ = some (.bool false) := O.l.cell 2
  have y3 : w3.cell? ⟨L, 3, none⟩ = some (.bool false) := O.l.cell 3
  have fin : ⟨3, x.repo, x.tag, zeros, none8, 0, 0⟩ = onlyS x := by
    unfold onlyS
    rw [hk]
    rfl
  rw [fin] at O
  have zd : (onlyS x).dig.length = 32 := by rw [← fin]; exact zdl
  clear fin zdl
  have D1 := sl_loads O.y zd
  have D2 := sl_stores O.r zeros_dig.len zd
  have R1 := O.r.row (slV (onlyS x))
  have bel := below_row (cs := slV (onlyS x)) O.bel O.ne.2.2.2.2
  generalize w3.setRow R (slV (onlyS x)) = w9 at D2 R1 bel
  go_wp2_with (first | refine wpl_load D1 rfl rfl rfl ?_ | refine wpl_store D2 rfl rfl rfl rfl rfl ?_)
  exact bodyPost_ret (results_cell_row Tryz.results97 _ _ R 39 (slV (onlyS x)) (0, 0) _ rfl R1.heap Tryz.underlying39 rfl (by rw [slV_size zd]; kernel_rfl)) rfl ⟨rfl, bel⟩
set_option maxHeartbeats 4000000 in
theorem only_blob (x : Sp) (w : World) (hk : x.k = 4) (hd : Dig x.dig) :
    Calls Tryz.prog 97 #[.agg (layV 4), .agg (slV x)] w fun e w' => e = .returned (.agg (slV (onlyS x))) ∧ Below w.heap.size w w' := by
  obtain ⟨L, X, R, e1, e2, e3, st⟩ := on_start w 4 x
  have E1 := Lib.hid e1; have E2 := Lib.hid e2; have E3 := Lib.hid e3; have ST := Lib.hid st
  clear e1 e2 e3 st
  go_enter Tryz.func97, Tryz.ntmps97
  go_upto_region 1 with (fail)
  rw [← E3.out, ← E2.out, ← E1.out]
  obtain ⟨w1, hw1⟩ : ∃ w1, w1 = (((w.alloc (.cells (layV 4) 146)).alloc (.cells (slV x) 39)).alloc (.cells #[.int .i64 0, .string ⟨#[]⟩, .string ⟨#[]⟩, .int .u8 0, .int .u8 0, .int .u8 0, .int .u8 0, .int .u8 0, .int .u8 0, .int .u8 0, .int .u8 0, .int .u8 0, .int .u8 0, .int .u8 0, .int .u8 0, .int .u8 0, .int .u8 0, .int .u8 0, .int .u8 0, .int .u8 0, .int .u8 0, .int .u8 0, .int .u8 0, .int .u8 0, .int .u8 0, .int .u8 0, .int .u8 0, .int .u8 0, .int .u8 0, .int .u8 0, .int .u8 0, .int .u8 0, .int .u8 0, .int .u8 0, .int .u8 0, .string ⟨#[]⟩, .int .i64 0, .int .i64 0] 39)) := ⟨_, rfl⟩
  obtain ⟨hl, hx, hr, hb, hn⟩ := ST.out _ hw1
  rw [← hw1]
  clear hw1 ST E1 E2 E3
  have c0 : w1.cell? ⟨X, 0, none⟩ = some (.int .i64 4) := (hx.cell 0).trans (by rw [sl0, hk])
  obtain ⟨w2, S2, hy, G, Z2⟩ := k_keep w1 4
  clear Z2
  have O : On w w2 w.heap.size L X R w1.heap.size 4 x { Sp.zero with k := 4 } := ⟨hl.old G, hx.old G, hr.old G, hy, hb.trans (G.mono hb.size), by have := hl.lt; have := hx.lt; have := hr.lt; have := hb.size; omega⟩
  go_upto_region 2 with (refine wpl_store S2 rfl rfl rfl rfl rfl ?_)
  clear S2 hy G hl hx hr hb hn c0
  generalize w1.heap.size = Y at O ⊢
  replace O : On w w2 w.heap.size L X R Y 4 x ⟨4, none8, none8, zeros, none8, 0, 0⟩ := O
  have zdl := zeros_dig.len
  have y0 : w2.cell? ⟨L, 0, none⟩ = some (.bool false) := O.l.cell 0
  have y1 : w2.cell? ⟨L, 1, none⟩ = some (.bool true) := O.l.cell 1
  have D1 := dig_loads O.x hd.len
  have D2 : Stores Tryz.prog w2 37 Y 3 (dV x.dig).toArray (w2.setRow Y (slV ⟨4, none8, none8, x.dig, none8, 0, 0⟩)) := dig_stores O.y zdl hd.len
  have O2 := O.row (y' := ⟨4, none8, none8, x.dig, none8, 0, 0⟩)
  generalize w2.setRow Y (slV ⟨4, none8, none8, x.dig, none8, 0, 0⟩) = w3 at D2 O2
  go_upto_region 6 with (first | refine wpl_load D1 rfl rfl rfl ?_ | refine wpl_store D2 rfl rfl rfl rfl rfl ?_)
  clear O D1 D2 y0 y1
  have O := O2
  clear O2
  clear zdl
  have zdl := hd.len
  have y2 : w3.cell? ⟨L, 2, none⟩ = some (.bool true) := O.l.cell 2
  have f1 := O.y.frozen 35
  have f2 := O.y.frozen 36
  have c1 : w3.cell? ⟨X, 35, none⟩ = some (.string x.ty) := (O.x.cell 35).trans (sl35 hd.len)
  have c2 : w3.cell? ⟨X, 36, none⟩ = some (.int .i64 x.sz) := (O.x.cell 36).trans (sl36 hd.len)
  have d1 : w3.cell? ⟨Y, 35, none⟩ = some (.string none8) := (O.y.cell 35).trans (sl35 zdl)
  have d2 : w3.cell? ⟨Y, 36, none⟩ = some (.int .i64 0) := (O.y.cell 36).trans (sl36 zdl)
  go_upto_region 7 with (fail)
  go_region
  have O2 := ((O.set 35 (.string x.ty) (set35 (x := ⟨4, none8, none8, x.dig, none8, 0, 0⟩) zdl _)).set 36 (.int .i64 x.sz) (set36 (x := ⟨4, none8, none8, x.dig, x.ty, 0, 0⟩) zdl _)).drew
  clear O
  clear f1 f2 c1 c2 d1 d2 y2
  generalize ((w3.setCell ⟨Y, 35, none⟩ (.string x.ty)).setCell ⟨Y, 36, none⟩ (.int .i64 x.sz)).drew = w4 at O2 ⊢
  have O : On w w4 w.heap.size L X R Y 4 x ⟨4, none8, none8, x.dig, x.ty, x.sz, 0⟩ := O2
  clear O2
  have y3 : w4.cell? ⟨L, 3, none⟩ = some (.bool false) := O.l.cell 3
  have fin : ⟨4, none8, none8, x.dig, x.ty, x.sz, 0⟩ = onlyS x := by
    unfold onlyS
    rw [hk]
    rfl
  rw [fin] at O
  have zd : (onlyS x).dig.length = 32 := by rw [← fin]; exact zdl
  clear fin zdl
  have D1 := sl_loads O.y zd
  have D2 := sl_stores O.r zeros_dig.len zd
  have R1 := O.r.row (slV (onlyS x))
  have bel := below_row (cs := slV (onlyS x)) O.bel O.ne.2.2.2.2
  generalize w4.setRow R (slV (onlyS x)) = w9 at D2 R1 bel
  go_wp2_with (first | refine wpl_load D1 rfl rfl rfl ?_ | refine wpl_store D2 rfl rfl rfl rfl rfl ?_)
  exact bodyPost_ret (results_cell_row Tryz.results97 _ _ R 39 (slV (onlyS x)) (0, 0) _ rfl R1.heap Tryz.underlying39 rfl (by rw [slV_size zd]; kernel_rfl)) rfl ⟨rfl, bel⟩
set_option maxHeartbeats 4000000 in
theorem only_gone (x : Sp) (w : World) (hk : x.k = 5) (hd : Dig x.dig) :
    Calls Tryz.prog 97 #[.agg (layV 5), .agg (slV x)] w fun e w' => e = .returned (.agg (slV (onlyS x))) ∧ Below w.heap.size w w' := by
  obtain ⟨L, X, R, e1, e2, e3, st⟩ := on_start w 5 x
  have E1 := Lib.hid e1; have E2 := Lib.hid e2; have E3 := Lib.hid e3; have ST := Lib.hid st
  clear e1 e2 e3 st
  go_enter Tryz.func97, Tryz.ntmps97
  go_upto_region 1 with (fail)
  rw [← E3.out, ← E2.out, ← E1.out]
  obtain ⟨w1, hw1⟩ : ∃ w1, w1 = (((w.alloc (.cells (layV 5) 146)).alloc (.cells (slV x) 39)).alloc (.cells #[.int .i64 0, .string ⟨#[]⟩, .string ⟨#[]⟩, .int .u8 0, .int .u8 0, .int .u8 0, .int .u8 0, .int .u8 0, .int .u8 0, .int .u8 0, .int .u8 0, .int .u8 0, .int .u8 0, .int .u8 0, .int .u8 0, .int .u8 0, .int .u8 0, .int .u8 0, .int .u8 0, .int .u8 0, .int .u8 0, .int .u8 0, .int .u8 0, .int .u8 0, .int .u8 0, .int .u8 0, .int .u8 0, .int .u8 0, .int .u8 0, .int .u8 0, .int .u8 0, .int .u8 0, .int .u8 0, .int .u8 0, .int .u8 0, .string ⟨#[]⟩, .int .i64 0, .int .i64 0] 39)) := ⟨_, rfl⟩
  obtain ⟨hl, hx, hr, hb, hn⟩ := ST.out _ hw1
  rw [← hw1]
  clear hw1 ST E1 E2 E3
  have c0 : w1.cell? ⟨X, 0, none⟩ = some (.int .i64 5) := (hx.cell 0).trans (by rw [sl0, hk])
  obtain ⟨w2, S2, hy, G, Z2⟩ := k_keep w1 5
  clear Z2
  have O : On w w2 w.heap.size L X R w1.heap.size 5 x { Sp.zero with k := 5 } := ⟨hl.old G, hx.old G, hr.old G, hy, hb.trans (G.mono hb.size), by have := hl.lt; have := hx.lt; have := hr.lt; have := hb.size; omega⟩
  go_upto_region 2 with (refine wpl_store S2 rfl rfl rfl rfl rfl ?_)
  clear S2 hy G hl hx hr hb hn c0
  generalize w1.heap.size = Y at O ⊢
  replace O : On w w2 w.heap.size L X R Y 5 x ⟨5, none8, none8, zeros, none8, 0, 0⟩ := O
  have zdl := zeros_dig.len
  have y0 : w2.cell? ⟨L, 0, none⟩ = some (.bool false) := O.l.cell 0
  have y1 : w2.cell? ⟨L, 1, none⟩ = some (.bool true) := O.l.cell 1
  have D1 := dig_loads O.x hd.len
  have D2 : Stores Tryz.prog w2 37 Y 3 (dV x.dig).toArray (w2.setRow Y (slV ⟨5, none8, none8, x.dig, none8, 0, 0⟩)) := dig_stores O.y zdl hd.len
  have O2 := O.row (y' := ⟨5, none8, none8, x.dig, none8, 0, 0⟩)
  generalize w2.setRow Y (slV ⟨5, none8, none8, x.dig, none8, 0, 0⟩) = w3 at D2 O2
  go_upto_region 6 with (first | refine wpl_load D1 rfl rfl rfl ?_ | refine wpl_store D2 rfl rfl rfl rfl rfl ?_)
  clear O D1 D2 y0 y1
  have O := O2
  clear O2
  clear zdl
  have zdl := hd.len
  have y2 : w3.cell? ⟨L, 2, none⟩ = some (.bool false) := O.l.cell 2
  have y3 : w3.cell? ⟨L, 3, none⟩ = some (.bool false) := O.l.cell 3
  have fin : ⟨5, none8, none8, x.dig, none8, 0, 0⟩ = onlyS x := by
    unfold onlyS
    rw [hk]
    rfl
  rw [fin] at O
  have zd : (onlyS x).dig.length = 32 := by rw [← fin]; exact zdl
  clear fin zdl
  have D1 := sl_loads O.y zd
  have D2 := sl_stores O.r zeros_dig.len zd
  have R1 := O.r.row (slV (onlyS x))
  have bel := below_row (cs := slV (onlyS x)) O.bel O.ne.2.2.2.2
  generalize w3.setRow R (slV (onlyS x)) = w9 at D2 R1 bel
  go_wp2_with (first | refine wpl_load D1 rfl rfl rfl ?_ | refine wpl_store D2 rfl rfl rfl rfl rfl ?_)
  exact bodyPost_ret (results_cell_row Tryz.results97 _ _ R 39 (slV (onlyS x)) (0, 0) _ rfl R1.heap Tryz.underlying39 rfl (by rw [slV_size zd]; kernel_rfl)) rfl ⟨rfl, bel⟩
set_option maxHeartbeats 4000000 in
theorem only_touch (x : Sp) (w : World) (hk : x.k = 6) (hd : Dig x.dig) :
    Calls Tryz.prog 97 #[.agg (layV 6), .agg (slV x)] w fun e w' => e = .returned (.agg (slV (onlyS x))) ∧ Below w.heap.size w w' := by
  obtain ⟨L, X, R, e1, e2, e3, st⟩ := on_start w 6 x
  have E1 := Lib.hid e1; have E2 := Lib.hid e2; have E3 := Lib.hid e3; have ST := Lib.hid st
  clear e1 e2 e3 st
  go_enter Tryz.func97, Tryz.ntmps97
  go_upto_region 1 with (fail)
  rw [← E3.out, ← E2.out, ← E1.out]
  obtain ⟨w1, hw1⟩ : ∃ w1, w1 = (((w.alloc (.cells (layV 6) 146)).alloc (.cells (slV x) 39)).alloc (.cells #[.int .i64 0, .string ⟨#[]⟩, .string ⟨#[]⟩, .int .u8 0, .int .u8 0, .int .u8 0, .int .u8 0, .int .u8 0, .int .u8 0, .int .u8 0, .int .u8 0, .int .u8 0, .int .u8 0, .int .u8 0, .int .u8 0, .int .u8 0, .int .u8 0, .int .u8 0, .int .u8 0, .int .u8 0, .int .u8 0, .int .u8 0, .int .u8 0, .int .u8 0, .int .u8 0, .int .u8 0, .int .u8 0, .int .u8 0, .int .u8 0, .int .u8 0, .int .u8 0, .int .u8 0, .int .u8 0, .int .u8 0, .int .u8 0, .string ⟨#[]⟩, .int .i64 0, .int .i64 0] 39)) := ⟨_, rfl⟩
  obtain ⟨hl, hx, hr, hb, hn⟩ := ST.out _ hw1
  rw [← hw1]
  clear hw1 ST E1 E2 E3
  have c0 : w1.cell? ⟨X, 0, none⟩ = some (.int .i64 6) := (hx.cell 0).trans (by rw [sl0, hk])
  obtain ⟨w2, S2, hy, G, Z2⟩ := k_keep w1 6
  clear Z2
  have O : On w w2 w.heap.size L X R w1.heap.size 6 x { Sp.zero with k := 6 } := ⟨hl.old G, hx.old G, hr.old G, hy, hb.trans (G.mono hb.size), by have := hl.lt; have := hx.lt; have := hr.lt; have := hb.size; omega⟩
  go_upto_region 2 with (refine wpl_store S2 rfl rfl rfl rfl rfl ?_)
  clear S2 hy G hl hx hr hb hn c0
  generalize w1.heap.size = Y at O ⊢
  replace O : On w w2 w.heap.size L X R Y 6 x ⟨6, none8, none8, zeros, none8, 0, 0⟩ := O
  have zdl := zeros_dig.len
  have y0 : w2.cell? ⟨L, 0, none⟩ = some (.bool false) := O.l.cell 0
  have y1 : w2.cell? ⟨L, 1, none⟩ = some (.bool true) := O.l.cell 1
  have D1 := dig_loads O.x hd.len
  have D2 : Stores Tryz.prog w2 37 Y 3 (dV x.dig).toArray (w2.setRow Y (slV ⟨6, none8, none8, x.dig, none8, 0, 0⟩)) := dig_stores O.y zdl hd.len
  have O2 := O.row (y' := ⟨6, none8, none8, x.dig, none8, 0, 0⟩)
  generalize w2.setRow Y (slV ⟨6, none8, none8, x.dig, none8, 0, 0⟩) = w3 at D2 O2
  go_upto_region 6 with (first | refine wpl_load D1 rfl rfl rfl ?_ | refine wpl_store D2 rfl rfl rfl rfl rfl ?_)
  clear O D1 D2 y0 y1
  have O := O2
  clear O2
  clear zdl
  have zdl := hd.len
  have y2 : w3.cell? ⟨L, 2, none⟩ = some (.bool false) := O.l.cell 2
  have y3 : w3.cell? ⟨L, 3, none⟩ = some (.bool false) := O.l.cell 3
  have fin : ⟨6, none8, none8, x.dig, none8, 0, 0⟩ = onlyS x := by
    unfold onlyS
    rw [hk]
    rfl
  rw [fin] at O
  have zd : (onlyS x).dig.length = 32 := by rw [← fin]; exact zdl
  clear fin zdl
  have D1 := sl_loads O.y zd
  have D2 := sl_stores O.r zeros_dig.len zd
  have R1 := O.r.row (slV (onlyS x))
  have bel := below_row (cs := slV (onlyS x)) O.bel O.ne.2.2.2.2
  generalize w3.setRow R (slV (onlyS x)) = w9 at D2 R1 bel
  go_wp2_with (first | refine wpl_load D1 rfl rfl rfl ?_ | refine wpl_store D2 rfl rfl rfl rfl rfl ?_)
  exact bodyPost_ret (results_cell_row Tryz.results97 _ _ R 39 (slV (onlyS x)) (0, 0) _ rfl R1.heap Tryz.underlying39 rfl (by rw [slV_size zd]; kernel_rfl)) rfl ⟨rfl, bel⟩
end Go.Proofs.YtdmgobffhpgjlaaGreat.Sl
