/-
  Rows of numbers in memory: what is read, what is written, what stays.
-/
import Derived.Test.YtmnkhcefdpcheaaDoorShLeaf
import Derived.Laws.Rows
import Derived.Laws.Tables
import Derived.Laws.CopyRow
import Derived.StillTailTactics
namespace Go.Proofs.YtmnkhcefdpcheaaDoor.Sh
open Go.RowKit
set_option linter.unusedVariables false
set_option linter.unusedSimpArgs false

/-- block B holds the row of numbers l -/
structure Blk (w : World) (B : Nat) (k : IntKind) (T : Nat) (l : List Nat) : Prop where
  heap : w.heap[B]? = some (.cells (vals k l).toArray T (0, 0))
theorem heap_set (w : World) (B j : Nat) (v : Value) (cs : Array Value) (t : TypeId) (fr : Nat × Nat) (h : w.heap[B]? = some (.cells cs t fr)) :
    (w.setCell ⟨B, j, none⟩ v).heap[B]? = some (.cells (cs.setIfInBounds j v) t fr) := by
  simp [World.setCell, Array.getElem?_modify, h]
section
variable {w w' : World} {B : Nat} {k : IntKind} {T : Nat} {l : List Nat}
theorem Blk.cell (h : Blk w B k T l) {j : Nat} (hj : j < l.length) : w.cell? ⟨B, j, none⟩ = some (.int k (at0 l j)) := by
  rw [cell_of_row _ _ _ _ _ _ h.heap]
  simpa using vals_get hj
theorem Blk.frozen (h : Blk w B k T l) (j : Nat) : w.frozen? ⟨B, j, none⟩ = false := frozen_of_row _ _ _ _ _ h.heap
theorem Blk.set (h : Blk w B k T l) (j v : Nat) : Blk (w.setCell ⟨B, j, none⟩ (.int k (v : Int))) B k T (l.set j v) := by
  refine ⟨?_⟩
  rw [heap_set _ _ _ _ _ _ _ h.heap, ← vals_set]
  simp
theorem Blk.other (h : Blk w B k T l) {a : Addr} (ha : B ≠ a.block) (v : Value) : Blk (w.setCell a v) B k T l := ⟨by rw [Below.heap_setCell _ _ _ _ ha]; exact h.heap⟩
theorem Blk.drew (h : Blk w B k T l) : Blk w.drew B k T l := ⟨h.heap⟩
theorem Blk.lt (h : Blk w B k T l) : B < w.heap.size := by
  have := h.heap
  rcases Nat.lt_or_ge B w.heap.size with h' | h'
  · exact h'
  · rw [Array.getElem?_eq_none h'] at this; cases this
theorem Blk.below {N : Nat} (h : Blk w B k T l) (hb : Below N w w') (hN : B < N) : Blk w' B k T l := ⟨by rw [hb.block B hN]; exact h.heap⟩
theorem Blk.alloc (h : Blk w B k T l) (o : Obj) : Blk (w.alloc o) B k T l := ⟨by rw [Below.heap_alloc _ _ _ h.lt]; exact h.heap⟩
theorem Blk.new (w : World) (k : IntKind) (T : Nat) (l : List Nat) : Blk (w.alloc (.cells (vals k l).toArray T)) w.heap.size k T l := ⟨heap_alloc_new w _⟩
theorem add_addr (B o j : Nat) : (⟨B, o, none⟩ : Addr).add j = ⟨B, o + j, none⟩ := by unfold Addr.add; split <;> simp_all
end

/-- an index as the walk spells it -/
theorem ix {x : Int} {n : Nat} (h : x = (n : Int)) (hn : n < 1000000) : IntKind.i64.wrap x = x ∧ 0 ≤ x ∧ x.toNat = n := by
  subst h
  exact ⟨IntWalk.i64_in _ (by omega), by omega, by omega⟩
theorem flip {P : Program} {f : Nat} {args : Array Value} {w : World} {v : Value} (h : Calls P f args w fun e w' => e = .returned v ∧ w = w') : Calls P f args w fun e w' => e = .returned v ∧ w' = w :=
  h.mono fun _ _ ⟨a, b⟩ => ⟨a, b.symm⟩
theorem size_of {P : Program} {t : TypeId} {n : Nat} (h : (P.info? t).map (·.size) = some n) (w : World) : (sizeOf t).run P w = .ok n w := by
  cases hq : P.info? t with
  | none => simp [hq] at h
  | some i => simp [hq] at h; simp [sizeOf, typeInfo, hq, h]

/-- part of a block, read whole -/
theorem load_part {P : Program} {w : World} {B : Nat} {cs : Array Value} {T : Nat} {fr : Nat × Nat} (hg : w.heap[B]? = some (.cells cs T fr)) (o n : Nat) (ho : o + n ≤ cs.size) :
    (loadCellsFrom ⟨B, o, none⟩ 0 n #[]).run P w = .ok (cs.extract o (o + n)) w := by
  have := run_loadCells_list (P := P) w ⟨B, o, none⟩ (cs.extract o (o + n)).toList (fun j v hv => by
    rw [add_addr, cell_of_row _ _ _ _ _ _ hg]
    have hj : j < n := by
      have := List.getElem?_eq_some_iff.1 hv
      obtain ⟨h, _⟩ := this
      simp at h; omega
    simpa [Array.getElem?_extract, hj, show o + j < o + n by omega] using hv)
  have hs : (cs.extract o (o + n)).toList.length = n := by simp; omega
  rw [hs, Array.toArray_toList] at this
  exact this

/-! ### whole arrays and structs, out of memory and into it -/
def aggOf (P : Program) (t : TypeId) : Bool := match P.underlying t with | some (.struct _) => true | some (.array _ _) => true | _ => false
theorem run_isAgg {P : Program} {t : TypeId} (h : aggOf P t = true) (w : World) : (isAgg t).run P w = .ok true w := by
  unfold aggOf at h
  split at h <;> first | (rename_i hu; unfold isAgg; rw [Sem.run_bind, run_underlying hu w]; simp) | cases h
def Loads (P : Program) (w : World) (ty : TypeId) (B off : Nat) (cs : Array Value) : Prop := (loadVar ty ⟨B, off, none⟩).run P w = .ok (.agg cs) w
def Stores (P : Program) (w : World) (ty : TypeId) (B off : Nat) (cs : Array Value) (w' : World) : Prop := (storeVar ty ⟨B, off, none⟩ (.agg cs)).run P w = .ok () w'
section
variable {P : Program} {ops : Array Oper} {rest : List Oper} {o : Oper} {a : Act} {w w' : World} {Q : Exit → Act → World → Prop} {ty : TypeId} {x y : Operand} {B off : Nat} {cs : Array Value}
theorem wpl_load (hl : Loads P w ty B off cs) (hgd : o.guard = none) (hop : o.op = .load ty x) (hx : a.eval x = .pointer (some ⟨B, off, none⟩)) (h : wpList P ops Q rest (a.put o.dst (.agg cs)) w) : wpList P ops Q (o :: rest) a w :=
  wpList_plain hgd fun _ hK => by
    unfold Oper.wp execOp
    simp only [hop, hx, Instr.loadAt, Instr.sureAddr, Sem.run_bind, Sem.run_pure, Result.andThen_ok, show (loadVar ty ⟨B, off, none⟩).run P w = .ok (.agg cs) w from hl]
    exact hK _ _ h
theorem wpl_store (hl : Stores P w ty B off cs w') (hgd : o.guard = none) (hop : o.op = .store ty x y) (hd : o.dst = none) (hx : a.eval x = .pointer (some ⟨B, off, none⟩)) (hy : a.eval y = .agg cs) (h : wpList P ops Q rest a w') : wpList P ops Q (o :: rest) a w :=
  wpList_plain hgd fun _ hK => by
    unfold Oper.wp execOp
    simp only [hop, hx, hy, Instr.storeAt, Instr.sureAddr, Sem.run_bind, Sem.run_pure, Result.andThen_ok, show (storeVar ty ⟨B, off, none⟩ (.agg cs)).run P w = .ok () w' from hl]
    refine hK _ _ ?_
    rw [hd]
    exact h
theorem wps_load {Q : Act → Prop} (hl : Loads P w ty B off cs) (hgd : o.guard = none) (hop : o.op = .load ty x) (hx : a.eval x = .pointer (some ⟨B, off, none⟩)) (h : wpStill P ops w Q rest (a.put o.dst (.agg cs))) : wpStill P ops w Q (o :: rest) a := by
  refine wpStill_step fun K hK => ?_
  rw [if_pos (by simp [Region.wanted, hgd])]
  unfold Oper.still execOp
  simp only [hop, hx, Instr.loadAt, Instr.sureAddr, Sem.run_bind, Sem.run_pure, Result.andThen_ok, show (loadVar ty ⟨B, off, none⟩).run P w = .ok (.agg cs) w from hl]
  exact ⟨rfl, hK _ h⟩
theorem loads_part {cur : Array Value} {T n : Nat} {fr : Nat × Nat} (hg : w.heap[B]? = some (.cells cur T fr)) (ha : aggOf P ty = true) (hi : (P.info? ty).map (·.size) = some n) (ho : off + n ≤ cur.size) : Loads P w ty B off (cur.extract off (off + n)) := by
  unfold Loads loadVar
  have hl := load_part (P := P) hg off n ho
  have hz := size_of hi w
  simp only [Sem.run_bind, run_isAgg ha w, Result.andThen_ok, if_true, hz, loadCells, hl]
  rfl
theorem stores_part {cur : Array Value} {T : Nat} (hg : w.heap[B]? = some (.cells cur T (0, 0))) (hi : (P.info? ty).map (·.size) = some cs.size) (ho : off + cs.size ≤ cur.size) (h1 : ∀ v ∈ cs.toList, v.oneCell' = true) :
    Stores P w ty B off cs (w.setRow B (cur.toList.take off ++ cs.toList ++ cur.toList.drop (off + cs.size)).toArray) := by
  unfold Stores storeVar
  have hz := size_of hi w
  have hs := run_storeCells_at (P := P) B off T cs.toList 0 cur w hg (by simpa using ho) h1
  simp only [Nat.add_zero, Array.length_toList] at hs
  simp only [Sem.run_bind, hz, Result.andThen_ok, Value.cells, ne_eq, not_true_eq_false, if_false, hs]
theorem Blk.loads {k : IntKind} {T : Nat} {l : List Nat} (h : Blk w B k T l) (ha : aggOf P ty = true) (hi : (P.info? ty).map (·.size) = some l.length) : Loads P w ty B 0 (vals k l).toArray := by
  have := loads_part (off := 0) h.heap ha hi (by simp [vals_len])
  simpa [vals_len, List.take_of_length_le (Nat.le_of_eq (vals_len k l))] using this
theorem Blk.stores {k : IntKind} {T : Nat} {l l' : List Nat} (h : Blk w B k T l) (hi : (P.info? ty).map (·.size) = some l'.length) (hl : l'.length = l.length) : Stores P w ty B 0 (vals k l').toArray (w.setRow B (vals k l').toArray) := by
  have := stores_part (P := P) (ty := ty) (off := 0) (cs := (vals k l').toArray) h.heap (by simpa [vals_len] using hi) (by simp [vals_len, hl]) (by simpa using vals_one k l')
  simpa [vals_len, hl, List.drop_of_length_le (Nat.le_of_eq (vals_len k l))] using this
theorem Blk.row {k : IntKind} {T : Nat} {l : List Nat} (h : Blk w B k T l) (l' : List Nat) : Blk (w.setRow B (vals k l').toArray) B k T l' := ⟨setRow_heap w B _ _ T _ h.heap⟩
/-- block B holds the table l -/
structure Tab (w : World) (B : Nat) (l : List Nat) : Prop where
  is : ∃ T fr, w.heap[B]? = some (.cells (vals .u32 l).toArray T fr)
theorem Tab.cell {l : List Nat} (h : Tab w B l) {j : Nat} (hj : j < l.length) : w.cell? ⟨B, j, none⟩ = some (.int .u32 (at0 l j : Nat)) := by
  obtain ⟨T, fr, h⟩ := h.is
  rw [cell_of_row _ _ _ _ _ _ h]
  simpa using vals_get hj
theorem Tab.lt {l : List Nat} (h : Tab w B l) : B < w.heap.size := by
  obtain ⟨T, fr, h⟩ := h.is
  exact (Array.getElem?_eq_some_iff.1 h).1
theorem Tab.same {l : List Nat} (h : Tab w B l) (e : w'.heap[B]? = w.heap[B]?) : Tab w' B l := by
  obtain ⟨T, fr, h⟩ := h.is
  exact ⟨T, fr, by rw [e]; exact h⟩
theorem Tab.drew {l : List Nat} (h : Tab w B l) : Tab w.drew B l := h.same rfl
theorem Tab.other {l : List Nat} (h : Tab w B l) {a : Addr} (ha : B ≠ a.block) (v : Value) : Tab (w.setCell a v) B l := h.same (Below.heap_setCell _ _ _ _ ha)
theorem Tab.below {N : Nat} {l : List Nat} (h : Tab w B l) (hb : Below N w w') (hN : B < N) : Tab w' B l := h.same (hb.block B hN)
theorem Tab.alloc {l : List Nat} (h : Tab w B l) (o : Obj) : Tab (w.alloc o) B l := h.same (Below.heap_alloc _ _ _ h.lt)
theorem Tab.loads {l : List Nat} (h : Tab w B l) (ha : aggOf P ty = true) (hi : (P.info? ty).map (·.size) = some l.length) : Loads P w ty B 0 (vals .u32 l).toArray := by
  obtain ⟨T, fr, h⟩ := h.is
  have := loads_part (off := 0) h ha hi (by simp [vals_len])
  simpa [vals_len, List.take_of_length_le (Nat.le_of_eq (vals_len .u32 l))] using this
theorem heap_setRow_other {C : Nat} (hc : C ≠ B) : (w.setRow B cs).heap[C]? = w.heap[C]? := by
  simp only [World.setRow, Array.getElem?_modify]
  rw [if_neg (by omega)]
theorem Blk.rowOther {C : Nat} {k : IntKind} {T : Nat} {l : List Nat} (h : Blk w C k T l) (hc : C ≠ B) : Blk (w.setRow B cs) C k T l := ⟨by rw [heap_setRow_other hc]; exact h.heap⟩
theorem Tab.rowOther {C : Nat} {l : List Nat} (h : Tab w C l) (hc : C ≠ B) : Tab (w.setRow B cs) C l := h.same (heap_setRow_other hc)
theorem below_row {N : Nat} {w0 : World} (h : Below N w0 w) (hB : N ≤ B) : Below N w0 (w.setRow B cs) :=
  h.trans ⟨rfl, rfl, rfl, by simp, fun k hk => heap_setRow_other (by omega)⟩
end
end Go.Proofs.YtmnkhcefdpcheaaDoor.Sh
