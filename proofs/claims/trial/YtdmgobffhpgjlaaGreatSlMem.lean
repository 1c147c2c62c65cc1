/-
  Slips, layouts and readers in memory: what is read, what is written, what stays; two slips held against each other.
-/
import Derived.Test.YtdmgobffhpgjlaaGreatSlRead
import Derived.StillTailTactics
import Derived.BigQuiet
import Derived.Laws.Rows
import Derived.Laws.CopyRow
import Derived.Laws.StructEq
import Derived.Stop.BytesEq

namespace Go.Proofs.YtdmgobffhpgjlaaGreat.Sl
open Go.RowKit Go.PlainAid Go.Proofs.YtdmgobffhpgjlaaGreat.Cr
open Go.Extern.Stop (cell)
set_option linter.unusedVariables false
set_option maxRecDepth 20000
set_option linter.unusedSimpArgs false

theorem add_at (B o j : Nat) : (⟨B, o, none⟩ : Addr).add j = ⟨B, o + j, none⟩ := by unfold Addr.add; split <;> simp_all
theorem add_block (a : Addr) (j : Nat) : (a.add j).block = a.block := by unfold Addr.add; split <;> rfl
theorem size_of {P : Program} {t : TypeId} {n : Nat} (h : (P.info? t).map (·.size) = some n) (w : World) : (sizeOf t).run P w = .ok n w := by
  cases hq : P.info? t with
  | none => simp [hq] at h
  | some i => simp [hq] at h; simp [sizeOf, typeInfo, hq, h]
theorem load_part {P : Program} {w : World} {B : Nat} {cs : Array Value} {T : Nat} {fr : Nat × Nat} (hg : w.heap[B]? = some (.cells cs T fr)) (o n : Nat) (ho : o + n ≤ cs.size) :
    (loadCellsFrom ⟨B, o, none⟩ 0 n #[]).run P w = .ok (cs.extract o (o + n)) w := by
  have := run_loadCells_list (P := P) w ⟨B, o, none⟩ (cs.extract o (o + n)).toList (fun j v hv => by
    rw [add_at, cell_of_row _ _ _ _ _ _ hg]
    have hj : j < n := by
      have := List.getElem?_eq_some_iff.1 hv
      obtain ⟨h, _⟩ := this
      simp at h; omega
    simpa [Array.getElem?_extract, hj, show o + j < o + n by omega] using hv)
  have hs : (cs.extract o (o + n)).toList.length = n := by simp; omega
  rw [hs, Array.toArray_toList] at this
  exact this
def aggOf (P : Program) (t : TypeId) : Bool := match P.underlying t with | some (.struct _) => true | some (.array _ _) => true | _ => false
theorem run_isAgg {P : Program} {t : TypeId} (h : aggOf P t = true) (w : World) : (isAgg t).run P w = .ok true w := by
  unfold aggOf at h
  split at h <;> first | (rename_i hu; unfold isAgg; rw [Sem.run_bind, run_underlying hu w]; simp) | cases h
def Loads (P : Program) (w : World) (ty : TypeId) (a : Addr) (cs : Array Value) : Prop := (loadVar ty a).run P w = .ok (.agg cs) w
def Stores (P : Program) (w : World) (ty : TypeId) (B off : Nat) (cs : Array Value) (w' : World) : Prop := (storeVar ty ⟨B, off, none⟩ (.agg cs)).run P w = .ok () w'
section
variable {P : Program} {ops : Array Oper} {rest : List Oper} {o : Oper} {a : Act} {w w' : World} {Q : Exit → Act → World → Prop} {ty : TypeId} {x y : Operand} {ad : Addr} {B off : Nat} {cs : Array Value}
theorem wpl_load (hl : Loads P w ty ad cs) (hgd : o.guard = none) (hop : o.op = .load ty x) (hx : a.eval x = .pointer (some ad)) (h : wpList P ops Q rest (a.put o.dst (.agg cs)) w) : wpList P ops Q (o :: rest) a w :=
  wpList_plain hgd fun _ hK => by
    unfold Oper.wp execOp
    simp only [hop, hx, Instr.loadAt, Instr.sureAddr, Sem.run_bind, Sem.run_pure, Result.andThen_ok, show (loadVar ty ad).run P w = .ok (.agg cs) w from hl]
    exact hK _ _ h
theorem wpl_load_in (hl : Loads P w ty ad cs) (hw : Region.wanted o (yielded ops a.tmps) = true) (hop : o.op = .load ty x) (hx : a.eval x = .pointer (some ad)) (h : wpList P ops Q rest (a.put o.dst (.agg cs)) w) : wpList P ops Q (o :: rest) a w := by
  refine wpList_step fun K hK => ?_
  rw [if_pos hw]
  unfold Oper.wp execOp
  simp only [hop, hx, Instr.loadAt, Instr.sureAddr, Sem.run_bind, Sem.run_pure, Result.andThen_ok, show (loadVar ty ad).run P w = .ok (.agg cs) w from hl]
  exact hK _ _ h
theorem wpl_store (hl : Stores P w ty B off cs w') (hgd : o.guard = none) (hop : o.op = .store ty x y) (hd : o.dst = none) (hx : a.eval x = .pointer (some ⟨B, off, none⟩)) (hy : a.eval y = .agg cs) (h : wpList P ops Q rest a w') : wpList P ops Q (o :: rest) a w :=
  wpList_plain hgd fun _ hK => by
    unfold Oper.wp execOp
    simp only [hop, hx, hy, Instr.storeAt, Instr.sureAddr, Sem.run_bind, Sem.run_pure, Result.andThen_ok, show (storeVar ty ⟨B, off, none⟩ (.agg cs)).run P w = .ok () w' from hl]
    refine hK _ _ ?_
    rw [hd]
    exact h
theorem yields_load {S : World → Prop} {oi : Oper} (hl : ∀ w, S w → Loads P w ty ad cs) (hw : Region.wanted oi (yielded ops a.tmps) = true) (hop : oi.op = .load ty x) (hx : a.eval x = .pointer (some ad)) : YieldsIf P ops S oi (.agg cs) a := by
  refine Or.inl ⟨hw, fun w hS => ?_⟩
  unfold execOp
  simp only [hop, hx, Instr.loadAt, Instr.sureAddr, Sem.run_bind, Sem.run_pure, Result.andThen_ok, show (loadVar ty ad).run P w = .ok (.agg cs) w from hl w hS]
theorem loads_part {cur : Array Value} {T n : Nat} {fr : Nat × Nat} (hg : w.heap[B]? = some (.cells cur T fr)) (ha : aggOf P ty = true) (hi : (P.info? ty).map (·.size) = some n) (ho : off + n ≤ cur.size) : Loads P w ty ⟨B, off, none⟩ (cur.extract off (off + n)) := by
  unfold Loads loadVar
  have hl := load_part (P := P) hg off n ho
  have hz := size_of hi w
  simp only [Sem.run_bind, run_isAgg ha w, Result.andThen_ok, if_true, hz, loadCells, hl]
  rfl
theorem stores_part {cur : Array Value} {T : Nat} (hg : w.heap[B]? = some (.cells cur T (0, 0))) (hi : (P.info? ty).map (·.size) = some cs.size) (ho : off + cs.size ≤ cur.size) (h1 : ∀ v ∈ cs.toList, v.oneCell' = true) :
    Stores P w ty B off cs (w.setRow B (cur.toList.take off ++ cs.toList ++ cur.toList.drop (off + cs.size)).toArray) := by
  unfold Stores storeVar
  have hz := size_of hi w
  have hs := run_storeCells_at (P := P) B off T cs.toList 0 cur w hg (by simpa using ho) h1
  simp only [Nat.add_zero, Array.length_toList] at hs
  simp only [Sem.run_bind, hz, Result.andThen_ok, Value.cells, ne_eq, not_true_eq_false, if_false, hs]
theorem heap_setRow_other {C : Nat} (hc : C ≠ B) : (w.setRow B cs).heap[C]? = w.heap[C]? := by
  simp only [World.setRow, Array.getElem?_modify]
  rw [if_neg (by omega)]
theorem below_row {N : Nat} {w0 : World} (h : Below N w0 w) (hB : N ≤ B) : Below N w0 (w.setRow B cs) :=
  h.trans ⟨rfl, rfl, rfl, by simp, fun k hk => heap_setRow_other (by omega)⟩
theorem heap_set (w : World) (B j : Nat) (v : Value) (cs : Array Value) (t : TypeId) (fr : Nat × Nat) (h : w.heap[B]? = some (.cells cs t fr)) :
    (w.setCell ⟨B, j, none⟩ v).heap[B]? = some (.cells (cs.setIfInBounds j v) t fr) := by
  simp [World.setCell, Array.getElem?_modify, h]
end

/-- block B holds the cells cs of type T, which may be written -/
structure At (w : World) (B T : Nat) (cs : Array Value) : Prop where
  heap : w.heap[B]? = some (.cells cs T (0, 0))
section
variable {P : Program} {w w' : World} {B T : Nat} {cs : Array Value}
theorem At.lt (h : At w B T cs) : B < w.heap.size := (Array.getElem?_eq_some_iff.1 h.heap).1
theorem At.same (h : At w B T cs) (e : w'.heap[B]? = w.heap[B]?) : At w' B T cs := ⟨by rw [e]; exact h.heap⟩
theorem At.below {N : Nat} (h : At w B T cs) (hb : Below N w w') (hN : B < N) : At w' B T cs := h.same (hb.block B hN)
theorem At.old (h : At w B T cs) (hb : Below w.heap.size w w') : At w' B T cs := h.below hb h.lt
theorem At.alloc (h : At w B T cs) (o : Obj) : At (w.alloc o) B T cs := h.same (Below.heap_alloc _ _ _ h.lt)
theorem At.drew (h : At w B T cs) : At w.drew B T cs := ⟨h.heap⟩
theorem At.other (h : At w B T cs) {a : Addr} (ha : B ≠ a.block) (v : Value) : At (w.setCell a v) B T cs := h.same (Below.heap_setCell _ _ _ _ ha)
theorem At.rowOther {C : Nat} {ds : Array Value} (h : At w C T cs) (hc : C ≠ B) : At (w.setRow B ds) C T cs := h.same (heap_setRow_other hc)
theorem At.new (w : World) (T : Nat) (cs : Array Value) : At (w.alloc (.cells cs T)) w.heap.size T cs := ⟨heap_alloc_new w _⟩
theorem At.cell (h : At w B T cs) (j : Nat) : w.cell? ⟨B, j, none⟩ = cs[j]? := cell_of_row _ _ _ _ _ _ h.heap
theorem At.frozen (h : At w B T cs) (j : Nat) : w.frozen? ⟨B, j, none⟩ = false := frozen_of_row _ _ _ _ _ h.heap
theorem At.set (h : At w B T cs) (j : Nat) (v : Value) : At (w.setCell ⟨B, j, none⟩ v) B T (cs.setIfInBounds j v) := ⟨heap_set _ _ _ _ _ _ _ h.heap⟩
theorem At.row (h : At w B T cs) (ds : Array Value) : At (w.setRow B ds) B T ds := ⟨setRow_heap w B _ _ T _ h.heap⟩
theorem At.loads {ty : TypeId} (h : At w B T cs) (ha : aggOf P ty = true) (hi : (P.info? ty).map (·.size) = some cs.size) : Loads P w ty ⟨B, 0, none⟩ cs := by
  have := loads_part (off := 0) h.heap ha hi (by simp)
  simpa using this
theorem At.stores {ty : TypeId} {ds : Array Value} (h : At w B T cs) (hi : (P.info? ty).map (·.size) = some ds.size) (hs : ds.size = cs.size) (h1 : ∀ v ∈ ds.toList, v.oneCell' = true) : Stores P w ty B 0 ds (w.setRow B ds) := by
  have := stores_part (P := P) (ty := ty) (off := 0) (cs := ds) h.heap hi (by omega) h1
  have e : (cs.toList.take 0 ++ ds.toList ++ cs.toList.drop (0 + ds.size)).toArray = ds := by
    rw [Nat.zero_add, hs, List.drop_of_length_le (by simp)]
    simp
  rw [e] at this
  exact this
/-- a variable that is made and filled -/
theorem keep {ty : TypeId} (w : World) (z ds : Array Value) (T : Nat) (hi : (P.info? ty).map (·.size) = some ds.size) (hs : ds.size = z.size) (h1 : ∀ v ∈ ds.toList, v.oneCell' = true) :
    ∃ X, Stores P (w.alloc (.cells z T)) ty w.heap.size 0 ds X ∧ At X w.heap.size T ds ∧ Below w.heap.size w X ∧ X.heap.size = w.heap.size + 1 :=
  ⟨_, (At.new w T z).stores hi hs h1, (At.new w T z).row ds, below_row ((Below.refl _ _).alloc (Nat.le_refl _) _) (Nat.le_refl _), by simp⟩
end

/-! ### slips -/
def dV (d : List Nat) : List Value := d.map fun b : Nat => Value.int .u8 (b : Int)
theorem dV_len (d : List Nat) : (dV d).length = d.length := by simp [dV]
theorem dV_one (d : List Nat) : ∀ v ∈ dV d, v.oneCell' = true := by
  intro v hv
  simp only [dV, List.mem_map] at hv
  obtain ⟨b, _, rfl⟩ := hv
  rfl
def slL (x : Sp) : List Value := [.int .i64 x.k, .string x.repo, .string x.tag] ++ (dV x.dig ++ [.string x.ty, .int .i64 x.sz, .int .i64 x.tm])
def slV (x : Sp) : Array Value := (slL x).toArray
theorem slL_len {x : Sp} (h : x.dig.length = 32) : (slL x).length = 38 := by simp [slL, dV_len, h]
theorem slV_size {x : Sp} (h : x.dig.length = 32) : (slV x).size = 38 := by simp [slV, slL_len h]
theorem slL_one (x : Sp) : ∀ v ∈ slL x, v.oneCell' = true := by
  intro v hv
  simp only [slL, List.mem_append] at hv
  rcases hv with h | h | h
  · simp at h; rcases h with rfl | rfl | rfl <;> rfl
  · exact dV_one _ v h
  · simp at h; rcases h with rfl | rfl | rfl <;> rfl
theorem slV_one (x : Sp) : ∀ v ∈ (slV x).toList, v.oneCell' = true := by simpa [slV] using slL_one x
section
variable {x : Sp}
theorem sl0 (x : Sp) : (slV x)[0]? = some (.int .i64 x.k) := rfl
theorem sl1 (x : Sp) : (slV x)[1]? = some (.string x.repo) := rfl
theorem sl2 (x : Sp) : (slV x)[2]? = some (.string x.tag) := rfl
theorem sl35 (h : x.dig.length = 32) : (slV x)[35]? = some (.string x.ty) := by
  simp [slV, slL, List.getElem?_append, dV_len, h]
theorem sl36 (h : x.dig.length = 32) : (slV x)[36]? = some (.int .i64 x.sz) := by
  simp [slV, slL, List.getElem?_append, dV_len, h]
theorem sl37 (h : x.dig.length = 32) : (slV x)[37]? = some (.int .i64 x.tm) := by
  simp [slV, slL, List.getElem?_append, dV_len, h]
theorem slD (h : x.dig.length = 32) {j b : Nat} (hj : x.dig[j]? = some b) : (slV x)[3 + j]? = some (.int .u8 (b : Int)) := by
  have hlt := (List.getElem?_eq_some_iff.1 hj).1
  simp only [slV, slL, List.getElem?_toArray]
  rw [List.getElem?_append_right (by simp), List.getElem?_append_left (by simp [dV_len]; omega)]
  simp [dV, hj]
theorem set0 (x : Sp) (k : Int) : (slV x).setIfInBounds 0 (.int .i64 k) = slV { x with k := k } := by simp [slV, slL]
theorem set1 (x : Sp) (s : ByteArray) : (slV x).setIfInBounds 1 (.string s) = slV { x with repo := s } := by simp [slV, slL]
theorem set2 (x : Sp) (s : ByteArray) : (slV x).setIfInBounds 2 (.string s) = slV { x with tag := s } := by simp [slV, slL]
theorem set35 (h : x.dig.length = 32) (s : ByteArray) : (slV x).setIfInBounds 35 (.string s) = slV { x with ty := s } := by
  simp [slV, slL, List.set_append, dV_len, h]
theorem set36 (h : x.dig.length = 32) (k : Int) : (slV x).setIfInBounds 36 (.int .i64 k) = slV { x with sz := k } := by
  simp [slV, slL, List.set_append, dV_len, h]
theorem set37 (h : x.dig.length = 32) (k : Int) : (slV x).setIfInBounds 37 (.int .i64 k) = slV { x with tm := k } := by
  simp [slV, slL, List.set_append, dV_len, h]
theorem setD (h : x.dig.length = 32) {j : Nat} (hj : j < 32) (b : Nat) : (slV x).setIfInBounds (3 + j) (.int .u8 (b : Int)) = slV { x with dig := x.dig.set j b } := by
  simp only [slV, slL, List.setIfInBounds_toArray]
  congr 1
  rw [List.set_append_right _ _ (by simp), List.set_append_left _ _ (by simp [dV_len, h]; omega)]
  simp [dV, List.map_set]
theorem dig_part (h : x.dig.length = 32) : (slV x).extract 3 (3 + 32) = (dV x.dig).toArray := by
  have : (slL x).drop 3 = dV x.dig ++ [.string x.ty, .int .i64 x.sz, .int .i64 x.tm] := rfl
  simp only [slV, List.extract_toArray]
  congr 1
  rw [List.extract_eq_take_drop, this, Nat.add_sub_cancel_left, List.take_left' (by rw [dV_len, h])]
theorem put_part (h : x.dig.length = 32) {d : List Nat} (hd : d.length = 32) : ((slV x).toList.take 3 ++ (dV d).toArray.toList ++ (slV x).toList.drop (3 + (dV d).toArray.size)).toArray = slV { x with dig := d } := by
  have e1 : (slV x).toList.take 3 = [.int .i64 x.k, .string x.repo, .string x.tag] := rfl
  have e2 : (slV x).toList.drop (3 + (dV d).toArray.size) = [.string x.ty, .int .i64 x.sz, .int .i64 x.tm] := by
    simp only [slV, List.size_toArray, dV_len, hd]
    have : (slL x).drop (3 + 32) = ((slL x).drop 3).drop 32 := by rw [List.drop_drop]
    rw [this]
    have : (slL x).drop 3 = dV x.dig ++ [.string x.ty, .int .i64 x.sz, .int .i64 x.tm] := rfl
    rw [this, List.drop_left' (by rw [dV_len, h])]
  rw [e1, e2]
  simp [slV, slL]
theorem sl_loads {w : World} {B : Nat} (h : At w B 39 (slV x)) (hd : x.dig.length = 32) : Loads Tryz.prog w 39 ⟨B, 0, none⟩ (slV x) :=
  h.loads (by kernel_rfl) (by rw [slV_size hd]; kernel_rfl)
theorem sl_stores {w : World} {B : Nat} (h : At w B 39 (slV x)) (hd : x.dig.length = 32) {y : Sp} (hy : y.dig.length = 32) : Stores Tryz.prog w 39 B 0 (slV y) (w.setRow B (slV y)) :=
  h.stores (by rw [slV_size hy]; kernel_rfl) (by rw [slV_size hy, slV_size hd]) (slV_one y)
theorem sl_keep (w : World) {y : Sp} (hy : y.dig.length = 32) :
    ∃ X, Stores Tryz.prog (w.alloc (.cells (slV Sp.zero) 39)) 39 w.heap.size 0 (slV y) X ∧ At X w.heap.size 39 (slV y) ∧ Below w.heap.size w X ∧ X.heap.size = w.heap.size + 1 :=
  keep w (slV Sp.zero) (slV y) 39 (by rw [slV_size hy]; kernel_rfl) (by rw [slV_size hy, slV_size (x := Sp.zero) zeros_dig.len]) (slV_one y)
theorem kslip (k : Int) : (#[.int .i64 k, .string ⟨#[]⟩, .string ⟨#[]⟩, .int .u8 0, .int .u8 0, .int .u8 0, .int .u8 0, .int .u8 0, .int .u8 0, .int .u8 0, .int .u8 0, .int .u8 0, .int .u8 0, .int .u8 0, .int .u8 0, .int .u8 0, .int .u8 0, .int .u8 0, .int .u8 0, .int .u8 0, .int .u8 0, .int .u8 0, .int .u8 0, .int .u8 0, .int .u8 0, .int .u8 0, .int .u8 0, .int .u8 0, .int .u8 0, .int .u8 0, .int .u8 0, .int .u8 0, .int .u8 0, .int .u8 0, .int .u8 0, .string ⟨#[]⟩, .int .i64 0, .int .i64 0] : Array Value) = slV { Sp.zero with k := k } := by
  simp [slV, slL, dV, Sp.zero, zeros, none8, List.replicate]
theorem zslip : (#[.int .i64 0, .string ⟨#[]⟩, .string ⟨#[]⟩, .int .u8 0, .int .u8 0, .int .u8 0, .int .u8 0, .int .u8 0, .int .u8 0, .int .u8 0, .int .u8 0, .int .u8 0, .int .u8 0, .int .u8 0, .int .u8 0, .int .u8 0, .int .u8 0, .int .u8 0, .int .u8 0, .int .u8 0, .int .u8 0, .int .u8 0, .int .u8 0, .int .u8 0, .int .u8 0, .int .u8 0, .int .u8 0, .int .u8 0, .int .u8 0, .int .u8 0, .int .u8 0, .int .u8 0, .int .u8 0, .int .u8 0, .int .u8 0, .string ⟨#[]⟩, .int .i64 0, .int .i64 0] : Array Value) = slV Sp.zero := kslip 0
/-- a slip of which nothing but the kind is known, laid into a variable -/
theorem k_keep (w : World) (k : Int) :
    ∃ X, Stores Tryz.prog (w.alloc (.cells #[.int .i64 0, .string ⟨#[]⟩, .string ⟨#[]⟩, .int .u8 0, .int .u8 0, .int .u8 0, .int .u8 0, .int .u8 0, .int .u8 0, .int .u8 0, .int .u8 0, .int .u8 0, .int .u8 0, .int .u8 0, .int .u8 0, .int .u8 0, .int .u8 0, .int .u8 0, .int .u8 0, .int .u8 0, .int .u8 0, .int .u8 0, .int .u8 0, .int .u8 0, .int .u8 0, .int .u8 0, .int .u8 0, .int .u8 0, .int .u8 0, .int .u8 0, .int .u8 0, .int .u8 0, .int .u8 0, .int .u8 0, .int .u8 0, .string ⟨#[]⟩, .int .i64 0, .int .i64 0] 39)) 39 w.heap.size 0 #[.int .i64 k, .string ⟨#[]⟩, .string ⟨#[]⟩, .int .u8 0, .int .u8 0, .int .u8 0, .int .u8 0, .int .u8 0, .int .u8 0, .int .u8 0, .int .u8 0, .int .u8 0, .int .u8 0, .int .u8 0, .int .u8 0, .int .u8 0, .int .u8 0, .int .u8 0, .int .u8 0, .int .u8 0, .int .u8 0, .int .u8 0, .int .u8 0, .int .u8 0, .int .u8 0, .int .u8 0, .int .u8 0, .int .u8 0, .int .u8 0, .int .u8 0, .int .u8 0, .int .u8 0, .int .u8 0, .int .u8 0, .int .u8 0, .string ⟨#[]⟩, .int .i64 0, .int .i64 0] X ∧ At X w.heap.size 39 (slV { Sp.zero with k := k }) ∧ Below w.heap.size w X ∧ X.heap.size = w.heap.size + 1 := by
  rw [zslip, kslip]
  exact sl_keep w zeros_dig.len
/-- a slip, laid into a variable -/
theorem x_keep (w : World) {y : Sp} (hy : y.dig.length = 32) :
    ∃ X, Stores Tryz.prog (w.alloc (.cells #[.int .i64 0, .string ⟨#[]⟩, .string ⟨#[]⟩, .int .u8 0, .int .u8 0, .int .u8 0, .int .u8 0, .int .u8 0, .int .u8 0, .int .u8 0, .int .u8 0, .int .u8 0, .int .u8 0, .int .u8 0, .int .u8 0, .int .u8 0, .int .u8 0, .int .u8 0, .int .u8 0, .int .u8 0, .int .u8 0, .int .u8 0, .int .u8 0, .int .u8 0, .int .u8 0, .int .u8 0, .int .u8 0, .int .u8 0, .int .u8 0, .int .u8 0, .int .u8 0, .int .u8 0, .int .u8 0, .int .u8 0, .int .u8 0, .string ⟨#[]⟩, .int .i64 0, .int .i64 0] 39)) 39 w.heap.size 0 (slV y) X ∧ At X w.heap.size 39 (slV y) ∧ Below w.heap.size w X ∧ X.heap.size = w.heap.size + 1 := by
  rw [zslip]
  exact sl_keep w hy
theorem dig_loads {w : World} {B : Nat} (h : At w B 39 (slV x)) (hd : x.dig.length = 32) : Loads Tryz.prog w 37 ⟨B, 3, none⟩ (dV x.dig).toArray := by
  have := loads_part (P := Tryz.prog) (ty := 37) (off := 3) (n := 32) h.heap (by kernel_rfl) (by kernel_rfl) (by rw [slV_size hd]; decide)
  rw [dig_part hd] at this
  exact this
theorem dig_stores {w : World} {B : Nat} (h : At w B 39 (slV x)) (hd : x.dig.length = 32) {d : List Nat} (hl : d.length = 32) : Stores Tryz.prog w 37 B 3 (dV d).toArray (w.setRow B (slV { x with dig := d })) := by
  have := stores_part (P := Tryz.prog) (ty := 37) (off := 3) (cs := (dV d).toArray) h.heap (by simp only [List.size_toArray, dV_len, hl]; kernel_rfl) (by rw [slV_size hd]; simp [dV_len, hl]) (by simpa using dV_one d)
  rw [put_part hd hl] at this
  exact this
end

/-! ### two slips held against each other -/
theorem dV_cells {d : List Nat} (h : ∀ b ∈ d, b < 256) : dV d = (d.map UInt8.ofNat).map cell := by
  unfold dV
  rw [List.map_map]
  apply List.map_congr_left
  intro x hx
  have := h x hx
  simp [cell, Nat.mod_eq_of_lt this]
set_option maxRecDepth 10000 in
open Classical in
theorem eq_dig {a b : List Nat} (ha : Dig a) (hb : Dig b) (n : Nat) (w : World) : (Op.equalIn (n + 2) 37 (.agg (dV a).toArray) (.agg (dV b).toArray)).run Tryz.prog w = .ok (decide (a = b)) w := by
  rw [dV_cells ha.lt, dV_cells hb.lt]
  have := run_equalIn_bytes (P := Tryz.prog) w n 37 5 32 Tryz.underlying37 Tryz.underlying5 (fun w => size_of (by kernel_rfl) w) (a.map UInt8.ofNat) (b.map UInt8.ofNat) (by simp [ha.len]) (by simp [hb.len])
  rw [this]
  congr 1
  have inj : a.map UInt8.ofNat = b.map UInt8.ofNat ↔ a = b := by
    refine ⟨fun e => ?_, fun e => by rw [e]⟩
    have e2 := congrArg (List.map UInt8.toNat) e
    rw [List.map_map, List.map_map] at e2
    have : ∀ l : List Nat, (∀ y ∈ l, y < 256) → l.map (UInt8.toNat ∘ UInt8.ofNat) = l := fun l hl => (List.map_congr_left (g := id) fun y hy => by simp [Nat.mod_eq_of_lt (hl y hy)]).trans (List.map_id _)
    rwa [this a ha.lt, this b hb.lt] at e2
  by_cases e : a = b
  · subst e; simp
  · rw [decide_eq_false e]
    simp only [beq_eq_false_iff_ne, ne_eq]
    exact fun c => e (inj.1 c)
end Go.Proofs.YtdmgobffhpgjlaaGreat.Sl
