/-
  A row of acts among a law's arguments.
-/
import Derived.Test.YtkhlcmponfkccaaPkDone
import Derived.SliceStrings
import Derived.Deep.Slices
import Derived.Deep.WholeRow
namespace Go.Proofs.Ytkhlcmponfkccaa.Pk
open Go.RowKit Go.PlainAid Go.Maps
set_option linter.unusedVariables false
set_option linter.unusedSimpArgs false

/-- v reads as the row of acts xs in w -/
structure ActsAt (w : World) (v : Value) (xs : List Ac) : Prop where
  is : ∃ base cap, v = .slice base xs.length cap ∧ ∀ j x, xs[j]? = some x → ∃ a : Addr, base = some a ∧ a.block < w.heap.size ∧ ∀ i c, x.cells[i]? = some c → w.cell? ((a.add (j * 8)).add i) = some c
  ok : ∀ x ∈ xs, x.Ok
  keeps : ∀ x ∈ xs, x.ks.length ≤ x.kc ∧ ∀ j y, x.ks[j]? = some y → ∃ a : Addr, x.kb = some a ∧ a.block < w.heap.size ∧ w.cell? (a.add j) = some (.int .i64 y) ∧ y ≤ 9223372036854775807
theorem none_acts (w : World) : ActsAt w (.slice none 0 0) [] := ⟨⟨none, 0, rfl, by simp⟩, by simp, by simp⟩
section
variable {H : Type} {enc : TypeId × Value → H} {P : Program} {w : World} {base : Nat} {spare : Nat → Bool} {held : Bool} {fuel : Nat} {t : TypeId} {cs : List Value} {x : DataW H × List MemPlace}
theorem i64_le {n : Int} (h : (Lit.int .i64 n).wf = true) : n ≤ 9223372036854775807 := by
  have e : (IntKind.i64.max : Int) = 9223372036854775807 := by decide
  simp only [Lit.wf, Bool.and_eq_true, decide_eq_true_eq] at h
  have := h.2
  first | omega | (rw [e] at this; exact this)
theorem take_one {l : List Value} {i : Nat} (h : i < l.length) : (l.drop i).take 1 = [l[i]] := by
  rw [List.drop_eq_getElem_cons h]
  rfl
set_option maxRecDepth 100000 in
/-- one act, out of its eight cells -/
theorem open_act {n : Nat} {cs : List Value} (h : DataW.trod enc Try.prog w base spare held n 30 cs = some x) : ∃ y : Ac, cs = y.cells.toList ∧ y.Ok ∧ y.ks.length ≤ y.kc ∧ ∀ j z, y.ks[j]? = some z → ∃ a : Addr, y.kb = some a ∧ a.block < w.heap.size ∧ w.cell? (a.add j) = some (.int .i64 z) ∧ z ≤ 9223372036854775807 := by
  obtain ⟨xs, n, _, rfl, hl, hlen, hf⟩ := DataW.trod_struct Try.underlying30 h
  rw [show Try.prog.cellsOf 30 = 8 by kernel_rfl] at hl
  match cs, hl, xs, hlen with
  | [c0, c1, c2, c3, c4, c5, c6, c7], _, [x0, x1, x2, x3, x4, x5, x6, x7], _ =>
    have g0 : DataW.trod enc Try.prog w base spare held n 3 (([c0, c1, c2, c3, c4, c5, c6, c7].drop 0).take (Try.prog.cellsOf 3)) = some x0 := hf 0 _ rfl
    have g1 : DataW.trod enc Try.prog w base spare held n 9 (([c0, c1, c2, c3, c4, c5, c6, c7].drop 1).take (Try.prog.cellsOf 9)) = some x1 := hf 1 _ rfl
    have g2 : DataW.trod enc Try.prog w base spare held n 9 (([c0, c1, c2, c3, c4, c5, c6, c7].drop 2).take (Try.prog.cellsOf 9)) = some x2 := hf 2 _ rfl
    have g3 : DataW.trod enc Try.prog w base spare held n 9 (([c0, c1, c2, c3, c4, c5, c6, c7].drop 3).take (Try.prog.cellsOf 9)) = some x3 := hf 3 _ rfl
    have g4 : DataW.trod enc Try.prog w base spare held n 3 (([c0, c1, c2, c3, c4, c5, c6, c7].drop 4).take (Try.prog.cellsOf 3)) = some x4 := hf 4 _ rfl
    have g5 : DataW.trod enc Try.prog w base spare held n 3 (([c0, c1, c2, c3, c4, c5, c6, c7].drop 5).take (Try.prog.cellsOf 3)) = some x5 := hf 5 _ rfl
    have g6 : DataW.trod enc Try.prog w base spare held n 3 (([c0, c1, c2, c3, c4, c5, c6, c7].drop 6).take (Try.prog.cellsOf 3)) = some x6 := hf 6 _ rfl
    have g7 : DataW.trod enc Try.prog w base spare held n 28 (([c0, c1, c2, c3, c4, c5, c6, c7].drop 7).take (Try.prog.cellsOf 28)) = some x7 := hf 7 _ rfl
    have ki : Try.prog.cellsOf 3 = 1 := by kernel_rfl
    have ks : Try.prog.cellsOf 9 = 1 := by kernel_rfl
    have kl : Try.prog.cellsOf 28 = 1 := by kernel_rfl
    rw [ki] at g0
    rw [ks] at g1
    rw [ks] at g2
    rw [ks] at g3
    rw [ki] at g4
    rw [ki] at g5
    rw [ki] at g6
    rw [kl] at g7
    simp only [List.drop_succ_cons, List.drop_zero, List.take_succ_cons, List.take_zero] at g0 g1 g2 g3 g4 g5 g6 g7
    obtain ⟨y0, e0, _, b0⟩ := DataW.trod_int Try.underlying3 g0
    obtain ⟨y1, e1, _, b1⟩ := DataW.trod_string Try.underlying9 g1
    obtain ⟨y2, e2, _, b2⟩ := DataW.trod_string Try.underlying9 g2
    obtain ⟨y3, e3, _, b3⟩ := DataW.trod_string Try.underlying9 g3
    obtain ⟨y4, e4, _, b4⟩ := DataW.trod_int Try.underlying3 g4
    obtain ⟨y5, e5, _, b5⟩ := DataW.trod_int Try.underlying3 g5
    obtain ⟨y6, e6, _, b6⟩ := DataW.trod_int Try.underlying3 g6
    simp only [List.cons.injEq, and_true] at e0 e1 e2 e3 e4 e5 e6
    subst e0 e1 e2 e3 e4 e5 e6
    have kk : ∃ kb kc, ∃ kz : List Int, c7 = .slice kb kz.length kc ∧ kz.length ≤ kc ∧ ∀ j z, kz[j]? = some z → ∃ a : Addr, kb = some a ∧ a.block < w.heap.size ∧ w.cell? (a.add j) = some (.int .i64 z) ∧ z ≤ 9223372036854775807 := by
      rcases Deep.open_slice1 Try.underlying28 ki g7 with ⟨hcs, _⟩ | ⟨a, len, cap, m, n, V, D, Pl, hcs, hb, hl, hm, hmm, _, hx⟩
      · simp at hcs
        exact ⟨none, 0, [], hcs, by simp, by simp⟩
      · simp at hcs
        have hlm : len ≤ m := by rw [hmm]; split <;> omega
        have hf : ∀ i, i < len → ∃ y : Int, w.cell? (a.add i) = some (.int .i64 y) ∧ y ≤ 9223372036854775807 := by
          intro i hi
          obtain ⟨h1, h2⟩ := hx i (by omega)
          obtain ⟨y, e, _, yb⟩ := DataW.trod_int Try.underlying3 h2
          simp only [List.cons.injEq, and_true] at e
          rw [e] at h1
          exact ⟨y, h1, i64_le yb⟩
        obtain ⟨Y, hY⟩ := Deep.choose_lt (α := Int) (p := fun i y => w.cell? (a.add i) = some (.int .i64 y) ∧ y ≤ 9223372036854775807) hf
        refine ⟨some a, cap, (List.range len).map Y, by simp [hcs], by simpa using hl, fun j z hj => ?_⟩
        have hlt : j < len := by
          have := (List.getElem?_eq_some_iff.1 hj).1
          simpa using this
        have : z = Y j := by simpa [hlt] using hj.symm
        subst this
        have hcell := hY j hlt
        have hb := World.block_lt_of_cell? w _ hcell.1
        rw [add_block] at hb
        exact ⟨a, rfl, hb, hcell⟩
    obtain ⟨kb, kc, kz, rfl, k1, k2⟩ := kk
    exact ⟨⟨y0, y1, y2, y3, y4, y5, y6, kb, kc, kz⟩, rfl, ⟨b1, b2, b3, i64_le b4, i64_le b5, i64_le b6⟩, k1, k2⟩
theorem open_acts {b : Option Addr} {len cap : Nat} (h : DataW.trod enc Try.prog w base spare held fuel 22 [.slice b len cap] = some x) :
    ∃ l : List Ac, ActsAt w (.slice b len cap) l ∧ l.length ≤ 9223372036854775807 := by
  rcases Deep.open_slice Try.underlying22 h with ⟨hcs, _⟩ | ⟨a, len', cap', m, n, D, Pl, hcs, hb, hl, hm, hmm, _, hx⟩
  · simp at hcs
    obtain ⟨rfl, rfl, rfl⟩ := hcs
    exact ⟨[], none_acts w, by simp⟩
  · simp at hcs
    obtain ⟨rfl, rfl, rfl⟩ := hcs
    rw [show Try.prog.cellsOf 30 = 8 by kernel_rfl] at hx
    have hlm : len ≤ m := by rw [hmm]; split <;> omega
    have hf : ∀ i, i < len → ∃ y : Ac, (∀ k c, y.cells[k]? = some c → w.cell? ((a.add (i * 8)).add k) = some c) ∧ y.Ok ∧ y.ks.length ≤ y.kc ∧ ∀ j z, y.ks[j]? = some z → ∃ a : Addr, y.kb = some a ∧ a.block < w.heap.size ∧ w.cell? (a.add j) = some (.int .i64 z) ∧ z ≤ 9223372036854775807 := by
      intro i hi
      obtain ⟨cs', h1, h2⟩ := hx i (by omega)
      obtain ⟨y, rfl, y1, y2, y3⟩ := open_act h2
      refine ⟨y, fun k c hk => ?_, y1, y2, y3⟩
      obtain ⟨_, h3, h4⟩ := World.cells?_some h1
      have hk8 : k < 8 := by
        have := (Array.getElem?_eq_some_iff.1 hk).1
        simpa [Ac.cells] using this
      rw [h4 k hk8]
      simpa using hk
    haveI : Inhabited Ac := ⟨⟨0, .empty, .empty, .empty, 0, 0, 0, none, 0, []⟩⟩
    obtain ⟨Y, hY⟩ := Deep.choose_lt (α := Ac) (p := fun i y => (∀ k c, y.cells[k]? = some c → w.cell? ((a.add (i * 8)).add k) = some c) ∧ y.Ok ∧ y.ks.length ≤ y.kc ∧ ∀ j z, y.ks[j]? = some z → ∃ a : Addr, y.kb = some a ∧ a.block < w.heap.size ∧ w.cell? (a.add j) = some (.int .i64 z) ∧ z ≤ 9223372036854775807) hf
    have mem : ∀ y ∈ (List.range len).map Y, ∃ i, i < len ∧ y = Y i := by
      intro y hy
      obtain ⟨i, hi, rfl⟩ := List.mem_map.1 hy
      exact ⟨i, List.mem_range.1 hi, rfl⟩
    refine ⟨(List.range len).map Y, ⟨⟨some a, cap, by simp, fun j y hj => ?_⟩, ?_, ?_⟩, ?_⟩
    · have hlt : j < len := by
        have := (List.getElem?_eq_some_iff.1 hj).1
        simpa using this
      have : y = Y j := by simpa [hlt] using hj.symm
      subst this
      have hb := World.block_lt_of_cell? w _ ((hY j hlt).1 0 _ rfl)
      rw [add_block, add_block] at hb
      exact ⟨a, rfl, hb, (hY j hlt).1⟩
    · intro y hy
      obtain ⟨i, hi, rfl⟩ := mem y hy
      exact (hY i hi).2.1
    · intro y hy
      obtain ⟨i, hi, rfl⟩ := mem y hy
      exact (hY i hi).2.2
    · simp; unfold maxLen at hm; omega
end
/-- a struct behind whatever address, read whole -/
def LoadsA (P : Program) (w : World) (ty : TypeId) (a : Addr) (cs : Array Value) : Prop := (loadVar ty a).run P w = .ok (.agg cs) w
theorem loads_act {w : World} {a : Addr} {x : Ac} (h : ∀ i c, x.cells[i]? = some c → w.cell? (a.add i) = some c) : LoadsA Try.prog w 30 a x.cells := by
  unfold LoadsA loadVar
  have hl := run_loadCells_list (P := Try.prog) w a x.cells.toList (fun j v hv => h j v (by simpa using hv))
  have hz : (sizeOf 30).run Try.prog w = .ok 8 w := size_of (by kernel_rfl) w
  rw [show x.cells.toList.length = 8 from rfl, Array.toArray_toList] at hl
  simp only [Sem.run_bind, run_isAgg (P := Try.prog) (t := 30) (by kernel_rfl) w, Result.andThen_ok, if_true, hz]
  rw [hl]
  rfl
section
variable {P : Program} {ops : Array Oper} {rest : List Oper} {o : Oper} {a : Act} {w w' : World} {Q : Exit → Act → World → Prop} {ty : TypeId} {x : Operand} {ad : Addr} {cs : Array Value}
theorem wpl_loadA (hl : LoadsA P w ty ad cs) (hgd : o.guard = none) (hop : o.op = .load ty x) (hx : a.eval x = .pointer (some ad)) (h : wpList P ops Q rest (a.put o.dst (.agg cs)) w) : wpList P ops Q (o :: rest) a w :=
  wpList_plain hgd fun _ hK => by
    unfold Oper.wp execOp
    simp only [hop, hx, Instr.loadAt, Instr.sureAddr, Sem.run_bind, Sem.run_pure, Result.andThen_ok, show (loadVar ty ad).run P w = .ok (.agg cs) w from hl]
    exact hK _ _ h
end
theorem below_row {N B : Nat} {w0 w : World} {cs : Array Value} (h : Below N w0 w) (hB : N ≤ B) : Below N w0 (w.setRow B cs) :=
  h.trans ⟨rfl, rfl, rfl, by simp, fun k hk => heap_setRow_other (by omega)⟩
theorem zact : ∀ w, (zeroValue 30).run Try.prog w = .ok (.agg #[.int .i64 0, .string ⟨#[]⟩, .string ⟨#[]⟩, .string ⟨#[]⟩, .int .i64 0, .int .i64 0, .int .i64 0, .slice none 0 0]) w := (zero_of_info (P := Try.prog) (t := 30) (n := 8) (by kernel_rfl)).1
/-- a variable that holds an act -/
theorem box_act {w0 w : World} {p : Nat} {D : Dk} {X : List (Nat × Obj)} (h : HasD w0 w p D X) (x : Ac) : ∃ Y, Stores Try.prog (w.alloc (.cells #[.int .i64 0, .string ⟨#[]⟩, .string ⟨#[]⟩, .string ⟨#[]⟩, .int .i64 0, .int .i64 0, .int .i64 0, .slice none 0 0] 30)) 30 w.heap.size 0 x.cells Y ∧
    HasD w0 Y p D ((w.heap.size, .cells x.cells 30 (0, 0)) :: X) ∧ Below w.heap.size w Y := by
  have hn := heap_alloc_new w (.cells #[.int .i64 0, .string ⟨#[]⟩, .string ⟨#[]⟩, .string ⟨#[]⟩, .int .i64 0, .int .i64 0, .int .i64 0, .slice none 0 0] 30)
  have s := stores_part (P := Try.prog) (ty := 30) (off := 0) (cs := x.cells) hn (by kernel_rfl) (by simp [Ac.cells]) (by simp [Ac.cells, Value.oneCell'])
  refine ⟨_, s, ?_, ?_⟩
  · refine h.more (below_row ((Below.refl _ _).alloc (Nat.le_refl _) _) (Nat.le_refl _)) (Nat.le_refl _) ?_
    rw [setRow_heap _ _ _ _ _ _ hn]
    simp [Ac.cells]
  · exact below_row ((Below.refl _ _).alloc (Nat.le_refl _) _) (Nat.le_refl _)
theorem act_loads {w : World} {B : Nat} {x : Ac} (h : w.heap[B]? = some (.cells x.cells 30 (0, 0))) : Loads Try.prog w 30 B 0 x.cells := by
  have := loads_part (P := Try.prog) (ty := 30) (off := 0) (n := 8) h (by kernel_rfl) (by kernel_rfl) (by simp [Ac.cells])
  simpa [Ac.cells] using this
end Go.Proofs.Ytkhlcmponfkccaa.Pk
